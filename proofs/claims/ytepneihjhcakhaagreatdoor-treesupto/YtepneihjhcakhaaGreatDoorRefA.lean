import Derived.Test.YtepneihjhcakhaaGreatDoorStateA
set_option linter.unusedVariables false
set_option linter.unusedSimpArgs false
namespace Go.Proofs.YtepneihjhcakhaaGreatDoor
open Go.RowKit

def entCells (e : Ent) : List Value := [.string (sb (joinB e.key)), .bool e.leaf, .int .i64 e.n0, .int .i64 e.n1, .int .i64 e.b0, .int .i64 e.b1]
def entsCells (L : List Ent) : List Value := L.flatMap entCells
theorem entsCells_len (L : List Ent) : (entsCells L).length = L.length * 6 := by
  induction L with
  | nil => rfl
  | cons a l ih => simp [entsCells, entCells] at ih ⊢; omega
theorem entsCells_get : ∀ (L : List Ent) (i j : Nat) (e : Ent), L[i]? = some e → j < 6 → (entsCells L)[i * 6 + j]? = (entCells e)[j]?
  | [], i, j, e, h, _ => by simp at h
  | a :: l, 0, j, e, h, hj => by
    simp at h; subst h
    simp only [entsCells, List.flatMap_cons, Nat.zero_mul, Nat.zero_add]
    rw [List.getElem?_append_left (by simp [entCells]; omega)]
  | a :: l, i + 1, j, e, h, hj => by
    have ih := entsCells_get l i j e (by simpa using h) hj
    simp only [entsCells, List.flatMap_cons] at ih ⊢
    rw [List.getElem?_append_right (by simp [entCells]; omega)]
    rw [show (i + 1) * 6 + j - (entCells a).length = i * 6 + j by simp [entCells]; omega]
    exact ih

/-- The document's tower. -/
structure RefIn (W : World) (br g cap : Nat) (L : List Ent) : Prop where
  at_ : Blk W br 69 #[.slice (some ⟨g, 0, none⟩) L.length cap, .slice none 0 0, .int .i64 0, .int .i64 0]
  row : W.ownsRow 0 65 6 (.slice (some ⟨g, 0, none⟩) L.length cap) L.length (entsCells L)

theorem RefIn.below {W W' : World} {br g cap : Nat} {L : List Ent} (h : RefIn W br g cap L) (hb : Below W.heap.size W W') : RefIn W' br g cap L :=
  ⟨h.at_.below hb h.at_.lt, h.row.kept (row := none) ⟨hb.os, hb.tape, hb.output, hb.size, fun k hk _ => hb.block k hk⟩ (.inr (by simp [Value.ownBlock]))⟩
theorem RefIn.keep {T : Nat → Prop} {W W' : World} {br g cap : Nat} {L : List Ent} (h : RefIn W br g cap L) (hk : Keep T W W') (h1 : ¬ T br) (h2 : ¬ T g) : RefIn W' br g cap L := by
  refine ⟨h.at_.keep hk h1, ?_⟩
  obtain ⟨hl, hr⟩ := h.row
  refine ⟨hl, ?_⟩
  rcases hr with hr | ⟨g', cap', cur, hv, hbg, hg, rest⟩
  · exact .inl hr
  · have : g' = g := by injection hv with e _ _; injection e with e; injection e with e; exact e.symm
    subst this
    exact .inr ⟨g', cap', cur, hv, hbg, (hk.block g' (Array.getElem?_eq_some_iff.1 hg).1 h2).trans hg, rest⟩
theorem RefIn.ent {W : World} {br g cap : Nat} {L : List Ent} (h : RefIn W br g cap L) {i : Nat} {e : Ent} (hi : L[i]? = some e) {j : Nat} {v : Value} (hj : (entCells e)[j]? = some v) : W.cell? ⟨g, i * 6 + j, none⟩ = some v := by
  have hj6 : j < 6 := by have := (List.getElem?_eq_some_iff.1 hj).1; simpa [entCells] using this
  have := h.row.cells (g := g) rfl (i * 6 + j) v (by rw [entsCells_get L i j e hi hj6]; exact hj)
  rwa [Addr.add_lit, Nat.zero_add] at this
theorem RefIn.cap_le {W : World} {br g cap : Nat} {L : List Ent} (h : RefIn W br g cap L) : L.length ≤ cap ∧ cap ≤ maxLen := by
  obtain ⟨hl, hr⟩ := h.row
  rcases hr with ⟨hv, _⟩ | ⟨g', cap', cur, hv, hbg, hg, h1, h2, _⟩
  · cases hv
  · injection hv with _ _ e; subst e; exact ⟨h1, h2⟩

def AtPost (L : List Ent) (s : Bs) (e : Ending) : Prop :=
  (∃ (i : Nat) (x : Ent), e = .returned (.int .i64 i) ∧ L[i]? = some x ∧ joinB x.key = s) ∨ ((∀ x ∈ L, joinB x.key ≠ s) ∧ e = .returned (.int .i64 (-1)))

set_option maxRecDepth 100000 in
set_option maxHeartbeats 1000000 in
theorem at_any {w : World} {br g cap : Nat} {L : List Ent} (h : RefIn w br g cap L) (hL20 : L.length ≤ 1000) (s : ByteArray) :
    Calls Tryz.prog 35 #[.pointer (some ⟨br, 0, none⟩), .string s] w fun e w' => AtPost L (bl s) e ∧ w' = w := by
  have hc := h.at_.cell 0
  simp only [List.getElem?_toArray, List.getElem?_cons_zero] at hc
  obtain ⟨n, hn⟩ : ∃ n, n = L.length := ⟨_, rfl⟩
  rw [← hn] at hc hL20
  have HN : Hid (n = L.length) := hn
  clear hn
  go_enter Tryz.func35, Tryz.ntmps35
  go_wp2
  go_loop [5] (fun i => ∃ k : Nat, k ≤ n ∧ i = .int .i64 k ∧ ∀ j x, j < k → L[j]? = some x → joinB x.key ≠ bl s) (fun i => n - (intOf i).toNat)
  case atStart => exact ⟨0, Nat.zero_le _, rfl, fun j x hj => by omega⟩
  case round =>
    obtain ⟨k, hk, rfl, hno⟩ := hrel
    have HNO : Hid (∀ j x, j < k → L[j]? = some x → joinB x.key ≠ bl s) := hno
    clear hno
    by_cases hlt : k < n
    · obtain ⟨x, hx⟩ : ∃ x, L[k]? = some x := ⟨_, List.getElem?_eq_getElem (by rw [← HN.out]; exact hlt)⟩
      have HX : Hid (L[k]? = some x) := hx
      have hp := h.ent hx (j := 0) (v := .string (sb (joinB x.key))) rfl
      simp only [Nat.add_zero] at hp
      clear hx
      have hbeq : ((sb (joinB x.key)).toList == s.toList) = decide (joinB x.key = bl s) := by rw [bl_beq, bl_sb]
      by_cases he : joinB x.key = bl s
      · have hb : ((sb (joinB x.key)).toList == s.toList) = true := by rw [hbeq]; simp [he]
        have HE : Hid (joinB x.key = bl s) := he
        clear he hbeq
        go_wp2
        go_ret
        exact ⟨.inl ⟨k, x, rfl, HX.out, HE.out⟩, rfl⟩
      · have hb : ((sb (joinB x.key)).toList == s.toList) = false := by rw [hbeq]; simp [he]
        clear hbeq
        go_wp2
        go_round
        case rel =>
          refine ⟨k + 1, by omega, by go_num, fun j y hj hy => ?_⟩
          rcases Nat.lt_or_ge j k with h1 | h1
          · exact HNO.out j y h1 hy
          · obtain rfl : j = k := by omega
            rw [HX.out] at hy; cases hy; exact he
        case measure => simp [intOf]; omega
    · go_wp2
      go_ret
      refine ⟨.inr ⟨fun x hx => ?_, rfl⟩, rfl⟩
      obtain ⟨j, hj⟩ := List.getElem?_of_mem hx
      exact HNO.out j x (by have := (List.getElem?_eq_some_iff.1 hj).1; have := HN.out; omega) hj

set_option maxRecDepth 100000 in
set_option maxHeartbeats 1000000 in
theorem usage_any {w : World} {br g cap : Nat} {L : List Ent} (h : RefIn w br g cap L) (s : ByteArray) :
    Calls Tryz.prog 81 #[.pointer (some ⟨br, 0, none⟩), .string s] w fun e w' => e = .returned (.agg #[.int .i64 0, .int .i64 0]) ∧ Below w.heap.size w w' := by
  have hc := h.at_.cell 1
  simp only [List.getElem?_toArray, List.getElem?_cons_zero, List.getElem?_cons_succ] at hc
  have hlt := h.at_.lt
  go_enter Tryz.func81, Tryz.ntmps81
  go_wp2
  refine wp_loop_rounds 1 ?_
  rw [rounds_succ]
  go_wp2
  exact bodyPost_ret (v := .agg #[.int .i64 0, .int .i64 0]) (by simp [results, Tryz.results81, go_sem]) rfl ⟨rfl, by (repeat (first | (with_reducible exact Below.refl _ _) | (with_reducible assumption) | ((with_reducible refine Below.setCell ?_ ?_ _); rotate_left; (focus (first | omega | (simp <;> omega)))) | ((with_reducible refine Below.alloc ?_ ?_ _); rotate_left; (focus (first | omega | (simp <;> omega)))) | (with_reducible refine Below.drew ?_) | (with_reducible refine below_drewN ?_ _) | (refine bstep ?_ (by with_reducible assumption))))⟩

set_option maxRecDepth 100000 in
set_option maxHeartbeats 1000000 in
theorem heads_any {w : World} {br g cap : Nat} {L : List Ent} (h : RefIn w br g cap L) :
    Calls Tryz.prog 57 #[.pointer (some ⟨br, 0, none⟩)] w fun e w' => e = .returned (.slice none 0 0) ∧ w' = w := by
  have hc := h.at_.cell 1
  simp only [List.getElem?_toArray, List.getElem?_cons_zero, List.getElem?_cons_succ] at hc
  go_enter Tryz.func57, Tryz.ntmps57
  go_wp2
  refine wp_loop_rounds 1 ?_
  rw [rounds_succ]
  go_wp2
  go_ret
  exact ⟨rfl, rfl⟩

set_option maxRecDepth 100000 in
set_option maxHeartbeats 1000000 in
theorem owners_any {w : World} {br g cap : Nat} {L : List Ent} (h : RefIn w br g cap L) :
    Calls Tryz.prog 56 #[.pointer (some ⟨br, 0, none⟩)] w fun e w' => e = .returned (.slice none 0 0) ∧ w' = w := by
  go_enter Tryz.func56, Tryz.ntmps56
  go_wp2
  refine wp_loop_rounds 1 ?_
  rw [rounds_succ]
  go_wp2_with (go_at_call 57; refine (heads_any h).mono ?_; rintro e w1 ⟨rfl, hw1⟩; subst hw1)
  refine wp_loop_rounds 1 ?_
  rw [rounds_succ]
  go_wp2
  go_ret
  exact ⟨rfl, rfl⟩

set_option maxRecDepth 100000 in
set_option maxHeartbeats 1000000 in
theorem settle_any {w : World} {br g cap : Nat} {L : List Ent} (h : RefIn w br g cap L) :
    Calls Tryz.prog 29 #[.pointer (some ⟨br, 0, none⟩)] w fun e w' => e = .returned (.slice none 0 0) ∧ Below w.heap.size w w' := by
  have h2 := fun o => heads_any (h.below (W' := w.alloc o) ((Below.refl _ _).alloc (Nat.le_refl _) _))
  go_enter Tryz.func29, Tryz.ntmps29
  go_wp2_with (go_at_call 56; refine (owners_any h).mono ?_; rintro e w1 ⟨rfl, hw1⟩; subst hw1)
  refine wp_loop_rounds 1 ?_
  rw [rounds_succ]
  go_wp2_with (go_at_call 57; refine (h2 _).mono ?_; rintro e w1 ⟨rfl, hw1⟩; subst hw1)
  refine wp_loop_rounds 1 ?_
  rw [rounds_succ]
  go_wp2
  go_ret
  exact ⟨rfl, by (repeat (first | (with_reducible exact Below.refl _ _) | (with_reducible assumption) | ((with_reducible refine Below.setCell ?_ ?_ _); rotate_left; (focus (first | omega | (simp <;> omega)))) | ((with_reducible refine Below.alloc ?_ ?_ _); rotate_left; (focus (first | omega | (simp <;> omega)))) | (with_reducible refine Below.drew ?_) | (with_reducible refine below_drewN ?_ _) | (refine bstep ?_ (by with_reducible assumption))))⟩
end Go.Proofs.YtepneihjhcakhaaGreatDoor
