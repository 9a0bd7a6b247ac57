import Derived.Test.YtepneihjhcakhaaGreatDoorRefC
import Derived.Test.YtepneihjhcakhaaGreatDoorCallA
import Derived.BigRegion
set_option linter.unusedVariables false
set_option linter.unusedSimpArgs false
namespace Go.Proofs.YtepneihjhcakhaaGreatDoor
open Go.RowKit

/-! the sum of the nominals -/
def eunder (L : List Ent) (s : Bs) : List Ent := L.filter fun e => e.leaf && inB (joinB e.key) s
def es0 (l : List Ent) : Int := (l.map (·.n0)).sum
def es1 (l : List Ent) : Int := (l.map (·.n1)).sum
theorem es0_bd (l : List Ent) (h : ∀ n ∈ l, 0 ≤ n.n0 ∧ n.n0 ≤ 1000) : 0 ≤ es0 l ∧ es0 l ≤ 1000 * l.length := by
  induction l with
  | nil => simp [es0]
  | cons a l ih =>
    have h1 := ih (fun n hn => h n (by simp [hn]))
    have h2 := h a (by simp)
    simp [es0] at h1 ⊢; omega
theorem es1_bd (l : List Ent) (h : ∀ n ∈ l, 0 ≤ n.n1 ∧ n.n1 ≤ 1000) : 0 ≤ es1 l ∧ es1 l ≤ 1000 * l.length := by
  induction l with
  | nil => simp [es1]
  | cons a l ih =>
    have h1 := ih (fun n hn => h n (by simp [hn]))
    have h2 := h a (by simp)
    simp [es1] at h1 ⊢; omega

/-- What holds of the document's queues. -/
structure Ents (L : List Ent) : Prop where
  ok : ∀ e ∈ L, keyOK e.key = true ∧ e.key.length ≤ 4
  num : ∀ e ∈ L, (0 ≤ e.n0 ∧ e.n0 ≤ 1000) ∧ (0 ≤ e.n1 ∧ e.n1 ≤ 1000)
  len : L.length ≤ 20
  pos : 0 < L.length

theorem Ents.small {L : List Ent} (h : Ents L) {e : Ent} (he : e ∈ L) : (sb (joinB e.key)).size ≤ 2000000 := by
  rw [sb_size]; have := joinB_len _ (h.ok e he).1; have := (h.ok e he).2; omega

set_option maxRecDepth 100000 in
set_option maxHeartbeats 400000 in
theorem nominal_ref {w : World} {br g cap : Nat} {L : List Ent} (h : RefIn w br g cap L) (E : Ents L) (s : ByteArray) (hs : s.size ≤ 2000000) :
    Calls Tryz.prog 80 #[.pointer (some ⟨br, 0, none⟩), .string s] w fun e w' => e = .returned (.agg #[.int .i64 (es0 (eunder L (bl s))), .int .i64 (es1 (eunder L (bl s)))]) ∧ Below w.heap.size w w' := by
  have hbr := h.at_.lt
  obtain ⟨n, hn⟩ : ∃ n, n = L.length := ⟨_, rfl⟩
  have hL20 := E.len
  rw [← hn] at hL20
  have HN : Hid (n = L.length) := hn
  have hc0 : w.cell? ⟨br, 0, none⟩ = some (.slice (some ⟨g, 0, none⟩) n cap) := by have := h.at_.cell 0; rw [hn]; simpa using this
  clear hn
  go_enter Tryz.func80, Tryz.ntmps80
  go_wp2
  go_loopw [6] (fun i wr => ∃ k : Nat, k ≤ n ∧ i = .int .i64 k ∧ Below w.heap.size w wr ∧ Blk wr w.heap.size 35 #[.int .i64 0, .int .i64 0] ∧ Blk wr (w.heap.size + 1) 35 #[.int .i64 (es0 (eunder (L.take k) (bl s))), .int .i64 (es1 (eunder (L.take k) (bl s)))])
    (fun i _ => n - (intOf i).toNat)
  case atStart => exact ⟨0, Nat.zero_le _, rfl, by (repeat (first | (with_reducible exact Below.refl _ _) | (with_reducible assumption) | ((with_reducible refine Below.setCell ?_ ?_ _); rotate_left; (focus (first | omega | (simp <;> omega)))) | ((with_reducible refine Below.alloc ?_ ?_ _); rotate_left; (focus (first | omega | (simp <;> omega)))) | (with_reducible refine Below.drew ?_) | (with_reducible refine below_drewN ?_ _) | (refine bstep ?_ (by with_reducible assumption)))), by (repeat (first | (with_reducible assumption) | ((with_reducible refine Blk.new' ?_); simp; done) | (with_reducible refine Blk.alloc ?_ _) | (with_reducible refine Blk.drew ?_) | (with_reducible refine Blk.drewN ?_ _))), by refine Blk.new' ?_; simp⟩
  case round =>
    obtain ⟨k, hk, rfl, hbel, hb4, hb5⟩ := hrel
    have hR := h.below hbel
    have hc := (hbel.cell (p := ⟨br, 0, none⟩) hbr).trans hc0
    by_cases hlt : k < n
    · have hlt' : k < L.length := by rw [← HN.out]; exact hlt
      obtain ⟨x, hx⟩ : ∃ x, L[k]? = some x := ⟨_, List.getElem?_eq_getElem hlt'⟩
      have HT : Hid (L.take (k + 1) = L.take k ++ [x]) := by
        rw [List.take_succ_eq_append_getElem hlt']; rw [List.getElem?_eq_getElem hlt'] at hx; cases hx; rfl
      have hxm := List.mem_of_getElem? hx
      have p0 := hR.ent hx (j := 0) (v := .string (sb (joinB x.key))) rfl
      have p1 := hR.ent hx (j := 1) (v := .bool x.leaf) rfl
      have p2 := hR.ent hx (j := 2) (v := .int .i64 x.n0) rfl
      have p3 := hR.ent hx (j := 3) (v := .int .i64 x.n1) rfl
      simp only [Nat.add_zero] at p0
      have hin := fun W => in_any (sb (joinB x.key)) s W (E.small hxm) hs
      rw [bl_sb] at hin
      have x0 := (E.num x hxm).1
      have x1 := (E.num x hxm).2
      have hsub : ∀ e ∈ eunder (L.take k) (bl s), e ∈ L := fun e he => List.mem_of_mem_take (List.mem_filter.1 he).1
      have s0 := es0_bd (eunder (L.take k) (bl s)) (fun e he => (E.num e (hsub e he)).1)
      have s1 := es1_bd (eunder (L.take k) (bl s)) (fun e he => (E.num e (hsub e he)).2)
      have hlen : (eunder (L.take k) (bl s)).length ≤ 20 := by
        refine Nat.le_trans (List.length_filter_le _ _) ?_
        simp; have := HN.out; omega
      have HE00 : eunder (L.take (k + 1)) (bl s) = eunder (L.take k) (bl s) ++ (if x.leaf && inB (joinB x.key) (bl s) then [x] else []) := by
        unfold eunder; rw [HT.out, List.filter_append]; simp [List.filter_cons]
      have HE : Hid (eunder (L.take (k + 1)) (bl s) = eunder (L.take k) (bl s) ++ (if x.leaf && inB (joinB x.key) (bl s) then [x] else [])) := HE00
      clear HE00
      clear hx
      obtain ⟨e0, he0⟩ : ∃ e0, e0 = es0 (eunder (L.take k) (bl s)) := ⟨_, rfl⟩
      obtain ⟨e1, he1⟩ : ∃ e1, e1 = es1 (eunder (L.take k) (bl s)) := ⟨_, rfl⟩
      rw [← he0] at hb5 s0
      rw [← he1] at hb5 s1
      have HE0 : Hid (e0 = es0 (eunder (L.take k) (bl s))) := he0
      have HE1 : Hid (e1 = es1 (eunder (L.take k) (bl s))) := he1
      clear he0 he1 hsub
      have d0 := hb5.cell 0
      have d1 := hb5.cell 1
      have f0 := hb5.frozen 0
      have f1 := hb5.frozen 1
      simp only [List.getElem?_toArray, List.getElem?_cons_zero, List.getElem?_cons_succ] at d0 d1
      have hbg : ¬ (g = w.heap.size + 1) := fun e => by have := (h.row.lt g rfl).2; omega
      have hbb : ¬ (br = w.heap.size + 1) := fun e => by omega
      cases hl : x.leaf
      · rw [hl] at p1
        go_wp2_with (go_at_call 42; refine (hin _).mono ?_; rintro e w1 ⟨rfl, hw1⟩; subst hw1)
        refine ⟨⟨k + 1, by omega, by go_num, hbel, hb4, ?_⟩, by simp [intOf]; omega⟩
        have := HE.out; rw [hl] at this; rw [this]; have := HE0.out; have := HE1.out; subst e0 e1; simpa using hb5
      · rw [hl] at p1
        cases hi : inB (joinB x.key) (bl s)
        · rw [hi] at hin
          go_wp2_with (go_at_call 42; refine (hin _).mono ?_; rintro e w1 ⟨rfl, hw1⟩; subst hw1)
          refine ⟨⟨k + 1, by omega, by go_num, hbel, hb4, ?_⟩, by simp [intOf]; omega⟩
          have := HE.out; rw [hi] at this; rw [this]; have := HE0.out; have := HE1.out; subst e0 e1; simpa using hb5
        · rw [hi] at hin
          go_wp2_with (go_at_call 42; refine (hin _).mono ?_; rintro e w1 ⟨rfl, hw1⟩; subst hw1)
          clear hin
          go_region
          go_wp2
          go_region
          go_wp2
          refine ⟨⟨k + 1, by omega, by go_num, ((hbel.setCell (by simp) _).setCell (by simp) _).drew.drew, ((hb4.other _ _ (by simp)).other _ _ (by simp)).drew.drew, ?_⟩, by simp [intOf]; omega⟩
          have hb6 := (((hb5.set 0 (.int .i64 (e0 + x.n0))).set 1 (.int .i64 (e1 + x.n1)))).drew.drew
          have h1 := HE.out; rw [hl, hi] at h1; rw [h1]
          have h2 := HE0.out; have h3 := HE1.out; subst e0 e1
          simpa [es0, es1] using hb6
    · have d0 := hb5.cell 0
      have d1 := hb5.cell 1
      have c0 := hb4.cell 0
      have c1 := hb4.cell 1
      have f0 := hb4.frozen 0
      have f1 := hb4.frozen 1
      simp only [List.getElem?_toArray, List.getElem?_cons_zero, List.getElem?_cons_succ] at d0 d1 c0 c1
      go_wp2
      have HTT : L.take k = L := List.take_of_length_le (by rw [← HN.out]; omega)
      have hb4' := (hb4.set 0 (.int .i64 (es0 (eunder (L.take k) (bl s))))).set 1 (.int .i64 (es1 (eunder (L.take k) (bl s))))
      have hc' := hb4'.cell
      rw [HTT] at hc'
      refine bodyPost_ret (v := .agg #[.int .i64 (es0 (eunder L (bl s))), .int .i64 (es1 (eunder L (bl s)))]) ?_ rfl ⟨rfl, by (repeat (first | (with_reducible exact Below.refl _ _) | (with_reducible assumption) | ((with_reducible refine Below.setCell ?_ ?_ _); rotate_left; (focus (first | omega | (simp <;> omega)))) | ((with_reducible refine Below.alloc ?_ ?_ _); rotate_left; (focus (first | omega | (simp <;> omega)))) | (with_reducible refine Below.drew ?_) | (with_reducible refine below_drewN ?_ _) | (refine bstep ?_ (by with_reducible assumption))))⟩
      rw [HTT]
      simp [results, Tryz.results80, go_sem, hc']
end Go.Proofs.YtepneihjhcakhaaGreatDoor
