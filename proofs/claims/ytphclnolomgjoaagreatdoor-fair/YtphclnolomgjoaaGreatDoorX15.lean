import Derived.Test.YtphclnolomgjoaaGreatDoorX14
import Derived.Test.YtphclnolomgjoaaGreatDoorB37
import Derived.Test.YtphclnolomgjoaaGreatDoorX01
import Derived.BigQuiet
set_option linter.unusedVariables false
set_option linter.unusedSimpArgs false
namespace Go.Proofs.YtphclnolomgjoaaGreatDoor
open Go.RowKit
theorem kws_at {W : World} {v : Value} {l : List KW} (hr : W.ownsRow 0 41 6 v l.length (qak l)) {k : Nat} {x : KW} (hk : l[k]? = some x) : ∃ g c, v = .slice (some ⟨g, 0, none⟩) l.length c ∧ g < W.heap.size ∧ l.length ≤ c ∧ c ≤ maxLen ∧
    W.cell? ⟨g, k * 6, none⟩ = some (.int .i64 x.num) ∧ W.cell? ⟨g, k * 6 + 1, none⟩ = some (.int .i64 x.leaf) ∧ W.cell? ⟨g, k * 6 + 2, none⟩ = some (.int .i64 x.d0) ∧ W.cell? ⟨g, k * 6 + 3, none⟩ = some (.int .i64 x.d1) ∧ W.cell? ⟨g, k * 6 + 4, none⟩ = some (.bool x.inn) ∧ W.cell? ⟨g, k * 6 + 5, none⟩ = some (.int .i64 x.qav) := by
  have hlt := (List.getElem?_eq_some_iff.1 hk).1
  obtain ⟨g, c, rfl, h1, h2⟩ := qa9 hr (by omega)
  have hc : ∀ j u, (qbz x)[j]? = some u → j < 6 → W.cell? ⟨g, k * 6 + j, none⟩ = some u := fun j u hu hj => by
    have := hr.cells (g := g) rfl (k * 6 + j) u ((qhz l k j x hk hj).trans hu)
    rw [Addr.add_lit, Nat.zero_add] at this
    exact this
  exact ⟨g, c, rfl, qap hr rfl, h1, h2, hc 0 _ rfl (by omega), hc 1 _ rfl (by omega), hc 2 _ rfl (by omega), hc 3 _ rfl (by omega), hc 4 _ rfl (by omega), hc 5 _ rfl (by omega)⟩
def usK (l : List KW) (lf k : Nat) : Int × Int := (us0 (l.take k) lf, us1 (l.take k) lf)
theorem usK_succ {l : List KW} {k lf : Nat} {x : KW} (hx : l[k]? = some x) : (usK l lf (k + 1)).1 = (usK l lf k).1 + (if decide (x.leaf = lf) && x.inn then x.d0 else 0) ∧ (usK l lf (k + 1)).2 = (usK l lf k).2 + (if decide (x.leaf = lf) && x.inn then x.d1 else 0) := by
  have hlt := (List.getElem?_eq_some_iff.1 hx).1
  have ht : l.take (k + 1) = l.take k ++ [x] := by
    rw [List.take_succ_eq_append_getElem hlt]; rw [List.getElem?_eq_getElem hlt] at hx; cases hx; rfl
  unfold usK
  rw [ht]
  exact us_snoc _ _ _
theorem usK_bd {l : List KW} (h0 : ∀ w ∈ l, 0 ≤ w.d0 ∧ w.d0 ≤ 1000) (h1 : ∀ w ∈ l, 0 ≤ w.d1 ∧ w.d1 ≤ 1000) (lf : Nat) : ∀ k, (0 ≤ (usK l lf k).1 ∧ (usK l lf k).1 ≤ 1000 * k) ∧ (0 ≤ (usK l lf k).2 ∧ (usK l lf k).2 ≤ 1000 * k)
  | 0 => by simp [usK, us0, us1, usL]
  | k + 1 => by
    have ih := usK_bd h0 h1 lf k
    by_cases hk : k < l.length
    · obtain ⟨x, hx⟩ : ∃ x, l[k]? = some x := ⟨_, List.getElem?_eq_getElem hk⟩
      have hm := List.mem_of_getElem? hx
      have a := h0 x hm
      have b := h1 x hm
      rw [(usK_succ hx).1, (usK_succ hx).2]
      split <;> omega
    · have : usK l lf (k + 1) = usK l lf k := by
        unfold usK
        rw [List.take_of_length_le (by omega), List.take_of_length_le (by omega)]
      rw [this]
      omega
set_option maxRecDepth 100000 in
set_option maxHeartbeats 4000000 in
theorem kused {W : World} {v : Value} {l : List KW} (hr : W.ownsRow 0 41 6 v l.length (qak l)) (h24 : l.length ≤ 25) (h0 : ∀ w ∈ l, 0 ≤ w.d0 ∧ w.d0 ≤ 1000) (h1 : ∀ w ∈ l, 0 ≤ w.d1 ∧ w.d1 ≤ 1000) (lf : Nat) :
    Calls Tryz.prog 49 #[v, .int .i64 lf] W fun e w' => e = .returned (.agg #[.int .i64 (us0 l lf), .int .i64 (us1 l lf)]) ∧ Below W.heap.size W w' := by
  have HA : Hid (∀ e w', e = Ending.returned (.agg #[.int .i64 (usK l lf l.length).1, .int .i64 (usK l lf l.length).2]) → Below W.heap.size W w' → e = .returned (.agg #[.int .i64 (us0 l lf), .int .i64 (us1 l lf)]) ∧ Below W.heap.size W w') := fun e w' h1 h2 => by
    unfold usK at h1
    rw [List.take_length] at h1
    exact ⟨h1, h2⟩
  obtain ⟨aw, cw, hv, hc1, hc2⟩ := qa7 hr
  have HK : Hid (∀ wr, Below W.heap.size W wr → ∀ k, k < l.length → ∃ (g lf' : Nat) (d0 d1 : Int) (inn is : Bool), aw = some ⟨g, 0, none⟩ ∧ g < W.heap.size ∧ decide ((lf' : Int) = (lf : Int)) = is ∧ wr.cell? ⟨g, k * 6 + 1, none⟩ = some (.int .i64 lf') ∧ wr.cell? ⟨g, k * 6 + 2, none⟩ = some (.int .i64 d0) ∧ wr.cell? ⟨g, k * 6 + 3, none⟩ = some (.int .i64 d1) ∧ wr.cell? ⟨g, k * 6 + 4, none⟩ = some (.bool inn) ∧ ((0 ≤ d0 ∧ d0 ≤ 1000) ∧ (0 ≤ d1 ∧ d1 ≤ 1000)) ∧ Hid ((usK l lf (k + 1)).1 = (usK l lf k).1 + (if is && inn then d0 else 0) ∧ (usK l lf (k + 1)).2 = (usK l lf k).2 + (if is && inn then d1 else 0))) := by
    intro wr hb k hk
    obtain ⟨x, hx⟩ : ∃ x, l[k]? = some x := ⟨_, List.getElem?_eq_getElem hk⟩
    have hxm := List.mem_of_getElem? hx
    obtain ⟨g, c, hvw, hg, hc1, hc2, p0, p1, p2, p3, p4, p5⟩ := kws_at hr hx
    have hb0 := fun (a : Nat) => hb.cell (p := ⟨g, a, none⟩) hg
    rw [hv] at hvw
    injection hvw with e1
    refine ⟨g, x.leaf, x.d0, x.d1, x.inn, _, e1, hg, rfl, (hb0 _).trans p1, (hb0 _).trans p2, (hb0 _).trans p3, (hb0 _).trans p4, ⟨h0 x hxm, h1 x hxm⟩, ?_⟩
    have e : decide ((x.leaf : Int) = (lf : Int)) = decide (x.leaf = lf) := decide_eq_decide.2 Int.ofNat_inj
    rw [e]
    exact usK_succ hx
  have hbd : ∀ k, k ≤ l.length → (0 ≤ (usK l lf k).1 ∧ (usK l lf k).1 ≤ 25000) ∧ (0 ≤ (usK l lf k).2 ∧ (usK l lf k).2 ≤ 25000) := fun k hk => by
    have := usK_bd h0 h1 lf k
    omega
  have h0' : usK l lf 0 = (0, 0) := by simp [usK, us0, us1, usL]
  rw [hv]
  clear hr hv
  obtain ⟨u, hu⟩ : ∃ u, u = usK l lf := ⟨_, rfl⟩
  rw [← hu] at HA HK hbd h0'
  clear hu h0 h1
  have hnv : ∃ nv, nv = l.length := ⟨_, rfl⟩
  obtain ⟨nv, hnv⟩ := hnv
  rw [← hnv] at HA HK hbd h24 hc1 ⊢
  clear hnv
  go_enter Tryz.func49, Tryz.ntmps49
  go_wp2
  go_loopw [6] (fun i wr => ∃ k : Nat, k ≤ nv ∧ i = .int .i64 k ∧ Below W.heap.size W wr ∧ Blk wr W.heap.size 35 #[.int .i64 0, .int .i64 0] ∧ Blk wr (W.heap.size + 1) 35 #[.int .i64 (u k).1, .int .i64 (u k).2])
    (fun i _ => nv - (intOf i).toNat)
  case atStart => exact ⟨0, Nat.zero_le _, rfl, by exact bel2, by exact blk2, by rw [h0']; refine Blk.new' ?_; simp⟩
  case round =>
    obtain ⟨k, hk, rfl, hbel, hb4, hb5⟩ := hrel
    have hbk := hbd k hk
    by_cases hlt : k < nv
    · obtain ⟨g, lf', d0, d1, inn, is, rfl, l1, his, p1, p2, p3, p4, hd, hnx⟩ := HK.out wr hbel k hlt
      have hki : (k : Int) < nv := by omega
      have hki0 : (0 : Int) ≤ k := by omega
      have y0 := hb5.cell 0
      have y1 := hb5.cell 1
      have f0 := hb5.frozen 0
      have f1 := hb5.frozen 1
      simp only [List.getElem?_toArray, List.getElem?_cons_zero, List.getElem?_cons_succ] at y0 y1
      have hbg : ¬ (g = W.heap.size + 1) := fun e => by omega
      have HB5 : Hid (Blk wr (W.heap.size + 1) 35 #[.int .i64 (u k).1, .int .i64 (u k).2]) := hb5
      have HU : Hid (∀ w, Blk w (W.heap.size + 1) 35 #[.int .i64 ((u k).1 + (if is && inn then d0 else 0)), .int .i64 ((u k).2 + (if is && inn then d1 else 0))] → Blk w (W.heap.size + 1) 35 #[.int .i64 (u (k + 1)).1, .int .i64 (u (k + 1)).2]) := fun w hw => by
        rw [hnx.out.1, hnx.out.2]; exact hw
      clear hb5 hnx HK HA
      generalize (u k).1 = e0 at *
      generalize (u k).2 = e1 at *
      cases is
      · have hne : ¬ ((lf' : Int) = lf) := by simpa using his
        clear his
        go_wp2_with fail
        refine ⟨⟨k + 1, by omega, by go_num, hbel, hb4, HU.out _ ?_⟩, by simp [intOf]; omega⟩
        simpa using HB5.out
      · have hne : (lf' : Int) = lf := by simpa using his
        have hne2 : lf' = lf := by omega
        subst hne2
        clear his hne
        cases inn
        · go_wp2_with fail
          refine ⟨⟨k + 1, by omega, by go_num, hbel, hb4, HU.out _ ?_⟩, by simp [intOf]; omega⟩
          simpa using HB5.out
        · go_wp2_with fail
          go_region
          go_wp2_with fail
          go_region
          go_wp2_with fail
          refine ⟨⟨k + 1, by omega, by go_num, ((((hbel.setCell (by simp) _).setCell (by simp) _).drew).drew), ((((hb4.other _ _ (by simp)).other _ _ (by simp)).drew).drew), HU.out _ ?_⟩, by simp [intOf]; omega⟩
          have := (((HB5.out.set 0 (.int .i64 (e0 + d0))).set 1 (.int .i64 (e1 + d1))).drew).drew
          simpa using this
    · have hkn : ¬ ((k : Int) < nv) := by omega
      obtain rfl : k = nv := by omega
      have y0 := hb5.cell 0
      have y1 := hb5.cell 1
      have z0 := hb4.frozen 0
      have z1 := hb4.frozen 1
      have z2 := hb4.cell 0
      have z3 := hb4.cell 1
      simp only [List.getElem?_toArray, List.getElem?_cons_zero, List.getElem?_cons_succ] at y0 y1 z2 z3
      go_wp2_with fail
      have hb4' := (hb4.set 0 (.int .i64 (u k).1)).set 1 (.int .i64 (u k).2)
      have hc' := hb4'.cell
      refine bodyPost_ret (v := .agg #[.int .i64 (u k).1, .int .i64 (u k).2]) ?_ rfl (HA.out _ _ rfl (by exact bel2))
      simp [results, Tryz.results49, go_sem, hc']
end Go.Proofs.YtphclnolomgjoaaGreatDoor
