import Derived.Test.YtepneihjhcakhaaGreatDoorLawJ
set_option linter.unusedVariables false
set_option linter.unusedSimpArgs false
namespace Go.Proofs.YtepneihjhcakhaaGreatDoor
open Go.RowKit

set_option maxRecDepth 100000 in
set_option maxHeartbeats 2000000 in
theorem step_other {n₀ : Nat} {τ : Nat → Tag} {W : World} {bw : Nat} {tws : List Tw} {N : Nat} (hN : N ≤ 99999996) (h : St n₀ τ W bw tws N) (hA : Agree tws) (hpos : 0 < tws.length) (hmax : tws.length ≤ 100000000) (s s2 : ByteArray) (hs : s.size ≤ 2000000) (z T a0 a1 c0 c1 nm : Int) (hz : z ≤ 0)
    (hT1 : -9223372036854775808 ≤ T) (hT2 : T ≤ 9223372036854775807) :
    Calls Tryz.prog 5 #[.pointer (some ⟨bw, 0, none⟩), .agg #[.int .i64 z, .int .i64 T, .string s, .string s2, .int .i64 a0, .int .i64 a1, .int .i64 c0, .int .i64 c1, .int .i64 nm]] W (StepR n₀ τ W bw tws.length (N + 4)) := by
  obtain ⟨gT, cT, hbw, hgT, hcT1, hcT2, hc0, hcells⟩ := h.towers hpos
  obtain ⟨r, hr, hpick⟩ := pick_val T tws.length hT1 hT2 hpos (by omega)
  obtain ⟨x, hx⟩ : ∃ x, tws[r]? = some x := ⟨_, List.getElem?_eq_getElem hr⟩
  obtain ⟨q0, q1⟩ := hcells r x hx
  obtain ⟨k, hk⟩ : ∃ k, k = tws.length := ⟨_, rfl⟩
  rw [← hk] at hpos hmax hcT1 hc0 hr hpick ⊢
  have hfin : ∀ W1, Below W.heap.size W W1 → StepR n₀ τ W bw k (N + 4) (.returned (.bool true)) W1 := fun W1 hb => by
    obtain ⟨slT, slN, slE, slA, slB, ns, es, ms, me, hS⟩ := h.below hb
    exact ⟨rfl, _, tws, Moved.below hb, ⟨slT, slN, slE, slA, slB, ns, es, ms, me, ⟨hS.law, by have := hS.n1; omega, by have := hS.n2; omega, hS.row, hS.tT, hS.tw, hS.lo, hS.le⟩⟩, hA, by omega, by omega⟩
  have HF : Hid (∀ W1, Below W.heap.size W W1 → StepR n₀ τ W bw k (N + 4) (.returned (.bool true)) W1) := hfin
  clear hfin
  generalize StepR n₀ τ W bw k (N + 4) = X at HF ⊢
  clear h hA hk hcells hx
  generalize x.bt = bt at q0
  generalize x.br = br at q1
  have z1 : (z == 1) = false := by simp; omega
  have z2 : (z == 2) = false := by simp; omega
  have z3 : (z == 3) = false := by simp; omega
  have z4 : (z == 4) = false := by simp; omega
  have z5 : (z == 5) = false := by simp; omega
  have z6 : (z == 6) = false := by simp; omega
  have z7 : (z == 7) = false := by simp; omega
  have z8 : (z == 8) = false := by simp; omega
  have z9 : (z == 9) = false := by simp; omega
  have z10 : (z == 10) = false := by simp; omega
  have z11 : (z == 11) = false := by simp; omega
  have hr1 : (r : Int) < k := by omega
  have hr0 : (0 : Int) ≤ r := by omega
  have hk0 : ((k : Int) == 0) = false := by simp; omega
  have b3 : Blk (W.alloc (.cells #[.int .i64 z, .int .i64 T, .string s, .string s2, .int .i64 a0, .int .i64 a1, .int .i64 c0, .int .i64 c1, .int .i64 nm] 37)) W.heap.size 37 #[.int .i64 z, .int .i64 T, .string s, .string s2, .int .i64 a0, .int .i64 a1, .int .i64 c0, .int .i64 c1, .int .i64 nm] := Blk.new W 37 _
  have hB0 : Below W.heap.size W (W.alloc (.cells #[.int .i64 z, .int .i64 T, .string s, .string s2, .int .i64 a0, .int .i64 a1, .int .i64 c0, .int .i64 c1, .int .i64 nm] 37)) := (Below.refl _ _).alloc (Nat.le_refl _) _
  go_enter Tryz.func5, Tryz.ntmps5
  go_upto_region 7 with fail
  generalize W.alloc (.cells #[.int .i64 z, .int .i64 T, .string s, .string s2, .int .i64 a0, .int .i64 a1, .int .i64 c0, .int .i64 c1, .int .i64 nm] 37) = W0 at b3 hB0 ⊢
  have hs0 := hB0.size
  have lt3 := b3.lt
  have d0 := (hB0.cell (p := ⟨bw, 0, none⟩) hbw).trans hc0
  have d1 := b3.cell 1
  have p0 := (hB0.cell (p := ⟨gT, r * 2, none⟩) hgT).trans q0
  have p1 := (hB0.cell (p := ⟨gT, r * 2 + 1, none⟩) hgT).trans q1
  simp only [List.getElem?_toArray, List.getElem?_cons_zero, List.getElem?_cons_succ] at d1
  clear hc0 q0 q1
  have n1 : ¬ (bw = W0.heap.size) := by omega
  have n2 : ¬ (gT = W0.heap.size) := by omega
  have n3 : ¬ (W.heap.size = W0.heap.size) := by omega
  have hbw0 : bw < W0.heap.size := by omega
  have hgT0 : gT < W0.heap.size := by omega
  go_cut [6] from 62 to 75 (fun q wx => ∃ b6, q = .pointer (some ⟨b6, 0, none⟩) ∧ Below W.heap.size W wx ∧ Blk wx b6 44 #[.pointer (some ⟨bt, 0, none⟩), .pointer (some ⟨br, 0, none⟩)] ∧ Blk wx W.heap.size 37 #[.int .i64 z, .int .i64 T, .string s, .string s2, .int .i64 a0, .int .i64 a1, .int .i64 c0, .int .i64 c1, .int .i64 nm] ∧ W.heap.size < b6)
  case first =>
    go_region_held3 (fun w' => w'.cell? ⟨bw, 0, none⟩ = some (.slice (some ⟨gT, 0, none⟩) k cT) ∧ w'.cell? ⟨W.heap.size, 1, none⟩ = some (.int .i64 T) ∧ w'.cell? ⟨gT, r * 2, none⟩ = some (.pointer (some ⟨bt, 0, none⟩)) ∧ w'.cell? ⟨gT, r * 2 + 1, none⟩ = some (.pointer (some ⟨br, 0, none⟩))) (go_keep)
      (first
      | (go_at_call 9; refine (hpick _).mono ?_; rintro e w1 ⟨rfl, hw1⟩; subst hw1))
    all_goals go_wp2_with fail
    all_goals go_meet
    all_goals exact ⟨_, rfl, (by (repeat (first | (with_reducible exact Below.refl _ _) | (with_reducible assumption) | ((with_reducible refine Below.setCell ?_ ?_ _); rotate_left; (focus (first | omega | (simp <;> omega)))) | ((with_reducible refine Below.alloc ?_ ?_ _); rotate_left; (focus (first | omega | (simp <;> omega)))) | (with_reducible refine Below.drew ?_) | (with_reducible refine below_drewN ?_ _) | (refine bstep ?_ (by with_reducible assumption))))), (by first | (with_reducible exact Blk.new' (by simp)) | (with_reducible exact Blk.drew (Blk.new' (by simp)))), (by (repeat (first | (with_reducible assumption) | ((with_reducible refine Blk.new' ?_); simp; done) | (with_reducible refine Blk.alloc ?_ _) | (with_reducible refine Blk.drew ?_) | (with_reducible refine Blk.drewN ?_ _)))), lt3⟩
  case rest =>
    obtain ⟨b6, rfl, hBc, b6c, b3c, hlt6⟩ := hcut
    clear hpick p0 p1 d0 d1 b3 hB0
    have hzc := hBc.size
    have e60 := b6c.cell 0
    have e61 := b6c.cell 1
    have e3 := b3c.cell
    simp only [List.getElem?_toArray, List.getElem?_cons_zero, List.getElem?_cons_succ] at e60 e61
    go_wp2
    all_goals exact HF.out _ (by (repeat (first | (with_reducible exact Below.refl _ _) | (with_reducible assumption) | ((with_reducible refine Below.setCell ?_ ?_ _); rotate_left; (focus (first | omega | (simp <;> omega)))) | ((with_reducible refine Below.alloc ?_ ?_ _); rotate_left; (focus (first | omega | (simp <;> omega)))) | (with_reducible refine Below.drew ?_) | (with_reducible refine below_drewN ?_ _) | (refine bstep ?_ (by with_reducible assumption)))))
end Go.Proofs.YtepneihjhcakhaaGreatDoor
