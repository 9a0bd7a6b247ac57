import Derived.Test.YtepneihjhcakhaaGreatDoorCallA
import Derived.Deep.RegionHeld3
import Derived.Deep.CutRange
set_option linter.unusedVariables false
set_option linter.unusedSimpArgs false
namespace Go.Proofs.YtepneihjhcakhaaGreatDoor
open Go.RowKit

set_option maxRecDepth 100000 in
set_option maxHeartbeats 20000000 in
theorem leafc_any {τ : Nat → Tag} {t : Nat} {W : World} {bt : Nat} {nodes : List Node} (h : ProgAt τ t W bt nodes) (s : ByteArray) (hs : s.size ≤ 2000000) (a b c d : Int) :
    Calls Tryz.prog 13 #[.pointer (some ⟨bt, 0, none⟩), .string s, .agg #[.int .i64 a, .int .i64 b], .agg #[.int .i64 c, .int .i64 d]] W
      (CallR τ t W bt nodes (errNew nodes (bl s) (fairL [(a, b), (c, d)])) ⟨namesB (bl s), true, a, b, c, d⟩) := by
  obtain ⟨r, hr0, hbt⟩ := h.tow
  have hr := List.mem_of_getElem? hr0
  have hrk : r.key = [] := by obtain ⟨r', h1, h2, _⟩ := h.tree.root; rw [hr0] at h1; cases h1; exact h2
  have hcall : ∀ W', Below W.heap.size W W' → ∀ q vb, W.heap.size ≤ q → Blk W' q 104 #[.string ⟨#[]⟩, .bool true, .int .i64 a, .int .i64 b, .int .i64 c, .int .i64 d, .pointer none, .slice none 0 0] → Blk W' vb 35 #[.int .i64 a, .int .i64 b, .int .i64 c, .int .i64 d] →
      Calls Tryz.prog 27 #[.pointer (some ⟨bt, 0, none⟩), .string s, .pointer (some ⟨q, 0, none⟩), .slice (some ⟨vb, 0, none⟩) 2 2] W' fun e w' => e = .returned (.int .i64 (errNew nodes (bl s) (fairL [(a, b), (c, d)]))) ∧ MadeR τ t W bt nodes (errNew nodes (bl s) (fairL [(a, b), (c, d)])) ⟨namesB (bl s), true, a, b, c, d⟩ w' ∧ Keep (fun x => x < W.heap.size ∨ x = q) W' w' := by
    intro W' hW q vb hq hbq hbv
    have h1 : W'.cell? ⟨bt, 0, none⟩ = some (nptr r.blk) := by have := (hbt.below hW hbt.lt).cell 0; simpa using this
    refine (hang_any h.tree W' (fun n hn => (h.ins n hn).below hW) hr hrk bt h1 s hs vb 2 [(a, b), (c, d)] (by simp) hbv.lt (fun j x hx => ?_) q true a b c d hbq (fun n hn => ?_)).mono ?_
    · cases j with
      | zero => simp at hx; subst hx; have c0 := hbv.cell 0; have c1 := hbv.cell 1; simp at c0 c1; exact ⟨c0, c1⟩
      | succ j =>
        cases j with
        | zero => simp at hx; subst hx; have c0 := hbv.cell 2; have c1 := hbv.cell 3; simp at c0 c1; exact ⟨c0, c1⟩
        | succ j => simp at hx
    · obtain ⟨i, hi⟩ := List.getElem?_of_mem hn
      obtain ⟨t1, t2⟩ := h.tags i n hi
      refine ⟨fun e => by have := (h.ins n hn).lt; omega, fun e => by have := ((h.ins n hn).row.lt _ e).2; omega, fun e => by have := t2 _ e; rw [t1] at this; cases this⟩
    · intro e w' hp
      have h1 := made_of h hW hq (fun hok => by simp [fairL, fairB] at hok; exact ⟨by omega, by omega, by omega, by omega, fun h => by cases h⟩) hp
      refine ⟨h1.1, h1.2, ?_⟩
      rcases hp with ⟨_, _, hb⟩ | ⟨_, _, p, nm, ks, at_, sl, h3, _, _, _, _, h2⟩
      · exact Keep.new hb
      · refine h2.keep.mono (fun x hx => ?_)
        have hn := h.ins p h3
        rcases hx with rfl | rfl | e
        · exact .inl hn.lt
        · exact .inr rfl
        · exact .inl (hn.row.lt _ e).2
  generalize errNew nodes (bl s) (fairL [(a, b), (c, d)]) = E at hcall ⊢
  have hnew : ∀ W', Below W.heap.size W W' → W.heap.size + 2 ≤ W'.heap.size → Calls Tryz.prog 33 #[.agg #[.int .i64 a, .int .i64 b], .agg #[.int .i64 c, .int .i64 d]] W' fun e w' => ∃ q, e = .returned (.pointer (some ⟨q, 0, none⟩)) ∧ Below W'.heap.size W' w' ∧ W.heap.size + 2 ≤ q ∧ Blk w' q 104 #[.string ⟨#[]⟩, .bool true, .int .i64 a, .int .i64 b, .int .i64 c, .int .i64 d, .pointer none, .slice none 0 0] := by
    intro W' hW h2
    refine (newLeaf_any _ _ _ _ _).mono ?_
    rintro e w1 ⟨rfl, rfl⟩
    have := hW.size
    exact ⟨_, rfl, by (repeat (first | (with_reducible exact Below.refl _ _) | (with_reducible assumption) | ((with_reducible refine Below.setCell ?_ ?_ _); rotate_left; (focus (first | omega | (simp <;> omega)))) | ((with_reducible refine Below.alloc ?_ ?_ _); rotate_left; (focus (first | omega | (simp <;> omega)))) | (with_reducible refine Below.drew ?_) | (with_reducible refine below_drewN ?_ _) | (refine bstep ?_ (by with_reducible assumption)))), by omega, by (repeat (first | (with_reducible assumption) | ((with_reducible refine Blk.new' ?_); simp; done) | (with_reducible refine Blk.alloc ?_ _) | (with_reducible refine Blk.drew ?_) | (with_reducible refine Blk.drewN ?_ _)))⟩
  have b6s : Blk ((W.alloc (.cells #[.int .i64 a, .int .i64 b] 35)).alloc (.cells #[.int .i64 c, .int .i64 d] 35)) W.heap.size 35 #[.int .i64 a, .int .i64 b] := by (repeat (first | (with_reducible assumption) | ((with_reducible refine Blk.new' ?_); simp; done) | (with_reducible refine Blk.alloc ?_ _) | (with_reducible refine Blk.drew ?_) | (with_reducible refine Blk.drewN ?_ _)))
  have b7s : Blk ((W.alloc (.cells #[.int .i64 a, .int .i64 b] 35)).alloc (.cells #[.int .i64 c, .int .i64 d] 35)) (W.heap.size + 1) 35 #[.int .i64 c, .int .i64 d] := Blk.new' (by simp)
  have hB0 : Below W.heap.size W ((W.alloc (.cells #[.int .i64 a, .int .i64 b] 35)).alloc (.cells #[.int .i64 c, .int .i64 d] 35)) := by (repeat (first | (with_reducible exact Below.refl _ _) | (with_reducible assumption) | ((with_reducible refine Below.setCell ?_ ?_ _); rotate_left; (focus (first | omega | (simp <;> omega)))) | ((with_reducible refine Below.alloc ?_ ?_ _); rotate_left; (focus (first | omega | (simp <;> omega)))) | (with_reducible refine Below.drew ?_) | (with_reducible refine below_drewN ?_ _) | (refine bstep ?_ (by with_reducible assumption))))
  clear hr0 hbt hr hrk h
  go_enter Tryz.func13, Tryz.ntmps13
  go_upto_region 1 with fail
  generalize ((W.alloc (.cells #[.int .i64 a, .int .i64 b] 35)).alloc (.cells #[.int .i64 c, .int .i64 d] 35)) = W0 at b6s b7s hB0 ⊢
  have d0 := b6s.cell 0
  have d1 := b6s.cell 1
  have e0 := b7s.cell 0
  have e1 := b7s.cell 1
  have l6 := b6s.lt
  have l7 := b7s.lt
  have hz0 := hB0.size
  simp only [List.getElem?_toArray, List.getElem?_cons_zero, List.getElem?_cons_succ] at d0 d1 e0 e1
  have n6 : ¬ (W.heap.size = W0.heap.size) := by omega
  have n7 : ¬ (W.heap.size + 1 = W0.heap.size) := by omega
  go_region_held3 (fun w' => w'.cell? ⟨W.heap.size, 0, none⟩ = some (.int .i64 a) ∧ w'.cell? ⟨W.heap.size, 1, none⟩ = some (.int .i64 b) ∧ w'.cell? ⟨W.heap.size + 1, 0, none⟩ = some (.int .i64 c) ∧ w'.cell? ⟨W.heap.size + 1, 1, none⟩ = some (.int .i64 d)) (go_keep)
    (first
    | (go_at_call 33; refine (hnew _ ?_ ?_).mono ?_; (focus (repeat (first | (with_reducible exact Below.refl _ _) | (with_reducible assumption) | ((with_reducible refine Below.setCell ?_ ?_ _); rotate_left; (focus (first | omega | (simp <;> omega)))) | ((with_reducible refine Below.alloc ?_ ?_ _); rotate_left; (focus (first | omega | (simp <;> omega)))) | (with_reducible refine Below.drew ?_) | (with_reducible refine below_drewN ?_ _) | (refine bstep ?_ (by with_reducible assumption))))); (focus (first | omega | (simp <;> omega))); rintro e w1 ⟨q, rfl, hb1, hq, bq⟩; have hB1 : Below W.heap.size W w1 := bstep (by (repeat (first | (with_reducible exact Below.refl _ _) | (with_reducible assumption) | ((with_reducible refine Below.setCell ?_ ?_ _); rotate_left; (focus (first | omega | (simp <;> omega)))) | ((with_reducible refine Below.alloc ?_ ?_ _); rotate_left; (focus (first | omega | (simp <;> omega)))) | (with_reducible refine Below.drew ?_) | (with_reducible refine below_drewN ?_ _) | (refine bstep ?_ (by with_reducible assumption))))) hb1; have b61 : Blk w1 W.heap.size 35 #[.int .i64 a, .int .i64 b] := Blk.below (by (repeat (first | (with_reducible assumption) | ((with_reducible refine Blk.new' ?_); simp; done) | (with_reducible refine Blk.alloc ?_ _) | (with_reducible refine Blk.drew ?_) | (with_reducible refine Blk.drewN ?_ _)))) hb1 (by first | omega | (simp <;> omega)); have b71 : Blk w1 (W.heap.size + 1) 35 #[.int .i64 c, .int .i64 d] := Blk.below (by (repeat (first | (with_reducible assumption) | ((with_reducible refine Blk.new' ?_); simp; done) | (with_reducible refine Blk.alloc ?_ _) | (with_reducible refine Blk.drew ?_) | (with_reducible refine Blk.drewN ?_ _)))) hb1 (by first | omega | (simp <;> omega)); have f0 := b61.cell 0; have f1 := b61.cell 1; have g0 := b71.cell 0; have g1 := b71.cell 1; have l61 := b61.lt; have l71 := b71.lt; have n61 : ¬ (W.heap.size = w1.heap.size) := (by omega); have n71 : ¬ (W.heap.size + 1 = w1.heap.size) := (by omega); simp only [List.getElem?_toArray, List.getElem?_cons_zero, List.getElem?_cons_succ] at f0 f1 g0 g1; (try (have bs1 : Blk w1 W0.heap.size 35 #[.int .i64 a, .int .i64 b, .int .i64 c, .int .i64 d] := Blk.below (by first | (with_reducible exact Blk.new' (by simp)) | (with_reducible exact Blk.drew (Blk.new' (by simp)))) hb1 (by simp))))
    | (go_at_call 27; refine Calls.mono (hcall _ ?_ _ _ ?_ ?_ ?_) ?_; (focus (repeat (first | (with_reducible exact Below.refl _ _) | (with_reducible assumption) | ((with_reducible refine Below.setCell ?_ ?_ _); rotate_left; (focus (first | omega | (simp <;> omega)))) | ((with_reducible refine Below.alloc ?_ ?_ _); rotate_left; (focus (first | omega | (simp <;> omega)))) | (with_reducible refine Below.drew ?_) | (with_reducible refine below_drewN ?_ _) | (refine bstep ?_ (by with_reducible assumption))))); (focus omega); (focus (repeat (first | (with_reducible assumption) | ((with_reducible refine Blk.new' ?_); simp; done) | (with_reducible refine Blk.alloc ?_ _) | (with_reducible refine Blk.drew ?_) | (with_reducible refine Blk.drewN ?_ _)))); (focus (repeat (first | (with_reducible assumption) | ((with_reducible refine Blk.new' ?_); simp; done) | (with_reducible refine Blk.alloc ?_ _) | (with_reducible refine Blk.drew ?_) | (with_reducible refine Blk.drewN ?_ _)))); rintro e w3 ⟨rfl, hM, hK3⟩; have b63 : Blk w3 W.heap.size 35 #[.int .i64 a, .int .i64 b] := Blk.keep (by (repeat (first | (with_reducible assumption) | ((with_reducible refine Blk.new' ?_); simp; done) | (with_reducible refine Blk.alloc ?_ _) | (with_reducible refine Blk.drew ?_) | (with_reducible refine Blk.drewN ?_ _)))) hK3 (by omega); have b73 : Blk w3 (W.heap.size + 1) 35 #[.int .i64 c, .int .i64 d] := Blk.keep (by (repeat (first | (with_reducible assumption) | ((with_reducible refine Blk.new' ?_); simp; done) | (with_reducible refine Blk.alloc ?_ _) | (with_reducible refine Blk.drew ?_) | (with_reducible refine Blk.drewN ?_ _)))) hK3 (by omega); have u0 := b63.cell 0; have u1 := b63.cell 1; have v0 := b73.cell 0; have v1 := b73.cell 1; simp only [List.getElem?_toArray, List.getElem?_cons_zero, List.getElem?_cons_succ] at u0 u1 v0 v1))
  all_goals go_wp2
  all_goals go_ret2
  all_goals exact ⟨rfl, hM⟩
end Go.Proofs.YtepneihjhcakhaaGreatDoor
