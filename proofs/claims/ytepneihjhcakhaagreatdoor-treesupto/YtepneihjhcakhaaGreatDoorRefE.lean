import Derived.Test.YtepneihjhcakhaaGreatDoorRefD
import Derived.Test.YtepneihjhcakhaaGreatDoorAppendA
set_option linter.unusedVariables false
set_option linter.unusedSimpArgs false
namespace Go.Proofs.YtepneihjhcakhaaGreatDoor
open Go.RowKit

theorem names_bad (s : ByteArray) (hs : s.size ≤ 2000000) (hv : validB (bl s) = false) (w : World) :
    Calls Tryz.prog 34 #[.string s] w fun e w' => e = .returned (.tuple #[.slice none 0 0, .bool false]) ∧ Below w.heap.size w w' := by
  refine (names_ref s hs w).mono ?_
  rintro e w' ⟨(⟨_, rfl⟩ | ⟨h, _⟩), hb⟩
  · exact ⟨rfl, hb⟩
  · rw [hv] at h; cases h

/-- The names, as a row. -/
structure NRow (W : World) (l : List Bs) (ao : Option Addr) (cap : Nat) : Prop where
  le : l.length ≤ cap
  mx : cap ≤ maxLen
  cell : ∀ (j : Nat) (x : Bs), l[j]? = some x → ∃ g, ao = some ⟨g, 0, none⟩ ∧ g < W.heap.size ∧ W.cell? ⟨g, j, none⟩ = some (.string (sb x))
theorem NRow.below {W W' : World} {l : List Bs} {ao : Option Addr} {cap : Nat} (h : NRow W l ao cap) (hb : Below W.heap.size W W') : NRow W' l ao cap :=
  ⟨h.le, h.mx, fun j x hx => by
    obtain ⟨g, h1, h2, h3⟩ := h.cell j x hx
    exact ⟨g, h1, Nat.lt_of_lt_of_le h2 hb.size, (hb.cell (p := ⟨g, j, none⟩) h2).trans h3⟩⟩

theorem names_good (s : ByteArray) (hs : s.size ≤ 2000000) (hv : validB (bl s) = true) (w : World) :
    Calls Tryz.prog 34 #[.string s] w fun e w' => (∃ ao cap, e = .returned (.tuple #[.slice ao (namesB (bl s)).length cap, .bool true]) ∧ NRow w' (namesB (bl s)) ao cap) ∧ Below w.heap.size w w' := by
  refine (names_ref s hs w).mono ?_
  rintro e w' ⟨(⟨h, _⟩ | ⟨_, sl, rfl, hown⟩), hb⟩
  · rw [hv] at h; cases h
  · refine ⟨?_, hb⟩
    obtain ⟨hl, hr⟩ := hown
    rcases hr with ⟨rfl, h0⟩ | ⟨g, cap, cur, rfl, hbg, hg, h1, h2, h3, h4⟩
    · exact ⟨none, 0, by rw [h0], by omega, Nat.zero_le _, fun j x hx => by rw [List.getElem?_eq_none (by omega)] at hx; cases hx⟩
    · refine ⟨_, _, rfl, h1, h2, fun j x hx => ⟨g, rfl, (Array.getElem?_eq_some_iff.1 hg).1, ?_⟩⟩
      unfold World.cell?
      simp only [hg]
      have hs1 : (strs (namesB (bl s)))[j]? = some (.string (sb x)) := by simp [strs, hx]
      rw [← h4] at hs1
      have hlt := (List.getElem?_eq_some_iff.1 hx).1
      rw [List.getElem?_take_of_lt (by omega)] at hs1
      simpa using hs1

theorem findE_some {L : List Ent} (hinj : ∀ a ∈ L, ∀ b ∈ L, a.key = b.key → a = b) {x : Ent} (hx : x ∈ L) {k : List Bs} (hk : x.key = k) : findE L k = some x := by
  unfold findE
  cases h : L.find? fun n => n.key == k with
  | none => have := List.find?_eq_none.1 h x hx; simp [hk] at this
  | some m =>
    have h1 := List.mem_of_find?_eq_some h
    have h2 := List.find?_some h
    simp at h2
    rw [hinj m h1 x hx (by rw [h2, hk])]
theorem findE_none {L : List Ent} {k : List Bs} (h : ∀ n ∈ L, n.key ≠ k) : findE L k = none := by
  unfold findE; rw [List.find?_eq_none]; intro n hn; simpa using h n hn

def AtK (L : List Ent) (k : List Bs) (e : Ending) : Prop :=
  (findE L k = none ∧ e = .returned (.int .i64 (-1))) ∨ (∃ (i : Nat) (x : Ent), findE L k = some x ∧ L[i]? = some x ∧ e = .returned (.int .i64 i))

theorem at_key {w : World} {br g cap : Nat} {L : List Ent} (h : RefIn w br g cap L) (E : Ents L) (hinj : ∀ a ∈ L, ∀ b ∈ L, a.key = b.key → a = b) (s : ByteArray) (k : List Bs) (hk : keyOK k = true) (hs : bl s = joinB k) :
    Calls Tryz.prog 35 #[.pointer (some ⟨br, 0, none⟩), .string s] w fun e w' => AtK L k e ∧ w' = w := by
  refine (at_any h (by have := E.len; omega) s).mono ?_
  rintro e w' ⟨h1, rfl⟩
  refine ⟨?_, rfl⟩
  rcases h1 with ⟨i, x, rfl, hx, he⟩ | ⟨hno, rfl⟩
  · have hxm := List.mem_of_getElem? hx
    exact .inr ⟨i, x, findE_some hinj hxm (joinB_inj (E.ok x hxm).1 hk (by rw [he, hs])), hx, rfl⟩
  · exact .inl ⟨findE_none (fun x hx e => hno x hx (by rw [e, hs])), rfl⟩

def CreateR (br g : Nat) (L : List Ent) (x : Ent) (err : Int) (w : World) (e : Ending) (w' : World) : Prop :=
  e = .returned (.int .i64 err) ∧ ((err ≠ 0 ∧ Below w.heap.size w w') ∨ (err = 0 ∧ ∃ g' cap', RefIn w' br g' cap' (L ++ [x]) ∧ Keep (fun b => b = br ∨ b = g) w w' ∧ (g' = g ∨ w.heap.size ≤ g')))

theorem info65 : (Tryz.prog.info? 65).map (fun i => (i.size, i.bytes)) = some (6, 56) := by kernel_rfl

set_option maxRecDepth 100000 in
set_option maxHeartbeats 1000000 in
/-- Where an error is answered ahead of all looking. -/
theorem create_early {w : World} {br g cap : Nat} {L : List Ent} (s : ByteArray) (hs : s.size ≤ 2000000) (leaf : Bool) (a b c d : Int) (x : Ent) (err : Int)
    (herr : (validB (bl s) = false ∧ err = 1) ∨ (validB (bl s) = true ∧ bl s = [] ∧ err = 2) ∨ (validB (bl s) = true ∧ bl s ≠ [] ∧ (fairB a b = false ∨ fairB c d = false) ∧ err = 6) ∨
      (validB (bl s) = true ∧ bl s ≠ [] ∧ fairB a b = true ∧ fairB c d = true ∧ 4 < (namesB (bl s)).length ∧ (namesB (bl s)).length ≤ 3000000 ∧ err = 8)) :
    Calls Tryz.prog 28 #[.pointer (some ⟨br, 0, none⟩), .agg #[.string s, .bool leaf, .int .i64 a, .int .i64 b, .int .i64 c, .int .i64 d]] w (CreateR br g L x err w) := by
  have hf1 := fun W => fair_any a b W
  have hf2 := fun W => fair_any c d W
  have b0 : Blk (w.alloc (.cells #[.string s, .bool leaf, .int .i64 a, .int .i64 b, .int .i64 c, .int .i64 d] 65)) w.heap.size 65 _ := Blk.new w 65 _
  rcases herr with ⟨hv, rfl⟩ | ⟨hv, h0, rfl⟩ | ⟨hv, h0, hfb, rfl⟩ | ⟨hv, h0, hfa, hfb, hd, hdm, rfl⟩
  · have hn := fun W => names_bad s hs hv W
    go_enter Tryz.func28, Tryz.ntmps28
    go_wp2_with (first
      | (go_at_call 34; refine (hn _).mono ?_; rintro e w1 ⟨rfl, hb1⟩; have hB1 : Below w.heap.size w w1 := bstep (by (repeat (first | (with_reducible exact Below.refl _ _) | (with_reducible assumption) | ((with_reducible refine Below.setCell ?_ ?_ _); rotate_left; (focus (first | omega | (simp <;> omega)))) | ((with_reducible refine Below.alloc ?_ ?_ _); rotate_left; (focus (first | omega | (simp <;> omega)))) | (with_reducible refine Below.drew ?_) | (with_reducible refine below_drewN ?_ _) | (refine bstep ?_ (by with_reducible assumption))))) hb1; have b1 := b0.below hb1 (by simp); have hcl := b1.cell)
      | (go_at_call 36; refine (hf1 _).mono ?_; clear hf1; rintro e w2 ⟨rfl, hb2⟩; have hB2 : Below w.heap.size w w2 := bstep hB1 hb2; have b2 := b1.below hb2 (by have := hb1.size; simp at this; omega); have hcl2 := b2.cell; clear hcl)
      | (go_at_call 36; refine (hf2 _).mono ?_; rintro e w3 ⟨rfl, hb3⟩; have hB3 : Below w.heap.size w w3 := bstep hB2 hb3))
    all_goals go_ret
    all_goals exact ⟨rfl, .inl ⟨by decide, hB3⟩⟩
  · have hn := fun W => names_good s hs hv W
    have hz : s = ⟨#[]⟩ := bl_inj (h0.trans bl_nil.symm)
    subst hz
    go_enter Tryz.func28, Tryz.ntmps28
    go_wp2_with (first
      | (go_at_call 34; refine (hn _).mono ?_; rintro e w1 ⟨⟨ao, cp, rfl, hrow⟩, hb1⟩; have hB1 : Below w.heap.size w w1 := bstep (by (repeat (first | (with_reducible exact Below.refl _ _) | (with_reducible assumption) | ((with_reducible refine Below.setCell ?_ ?_ _); rotate_left; (focus (first | omega | (simp <;> omega)))) | ((with_reducible refine Below.alloc ?_ ?_ _); rotate_left; (focus (first | omega | (simp <;> omega)))) | (with_reducible refine Below.drew ?_) | (with_reducible refine below_drewN ?_ _) | (refine bstep ?_ (by with_reducible assumption))))) hb1; have b1 := b0.below hb1 (by simp); have hcl := b1.cell)
      | (go_at_call 36; refine (hf1 _).mono ?_; clear hf1; rintro e w2 ⟨rfl, hb2⟩; have hB2 : Below w.heap.size w w2 := bstep hB1 hb2; have b2 := b1.below hb2 (by have := hb1.size; simp at this; omega); have hcl2 := b2.cell; clear hcl)
      | (go_at_call 36; refine (hf2 _).mono ?_; clear hf2; rintro e w3 ⟨rfl, hb3⟩; have hB3 : Below w.heap.size w w3 := bstep hB2 hb3; have b3 := b2.below hb3 (by have := hb1.size; have := hb2.size; simp at *; omega); have hcl3 := b3.cell; clear hcl2))
    all_goals go_ret
    all_goals exact ⟨rfl, .inl ⟨by decide, hB3⟩⟩
  · have hn := fun W => names_good s hs hv W
    have hq : (s.toList.isEmpty) = false := by rw [bl_toList]; simpa using h0
    cases hA : fairB a b
    · rw [hA] at hf1
      clear hfb
      go_enter Tryz.func28, Tryz.ntmps28
      go_wp2_with (first
      | (go_at_call 34; refine (hn _).mono ?_; rintro e w1 ⟨⟨ao, cp, rfl, hrow⟩, hb1⟩; have hB1 : Below w.heap.size w w1 := bstep (by (repeat (first | (with_reducible exact Below.refl _ _) | (with_reducible assumption) | ((with_reducible refine Below.setCell ?_ ?_ _); rotate_left; (focus (first | omega | (simp <;> omega)))) | ((with_reducible refine Below.alloc ?_ ?_ _); rotate_left; (focus (first | omega | (simp <;> omega)))) | (with_reducible refine Below.drew ?_) | (with_reducible refine below_drewN ?_ _) | (refine bstep ?_ (by with_reducible assumption))))) hb1; have b1 := b0.below hb1 (by simp); have hcl := b1.cell)
      | (go_at_call 36; refine (hf1 _).mono ?_; clear hf1; rintro e w2 ⟨rfl, hb2⟩; have hB2 : Below w.heap.size w w2 := bstep hB1 hb2; have b2 := b1.below hb2 (by have := hb1.size; simp at this; omega); have hcl2 := b2.cell; clear hcl)
      | (go_at_call 36; refine (hf2 _).mono ?_; clear hf2; rintro e w3 ⟨rfl, hb3⟩; have hB3 : Below w.heap.size w w3 := bstep hB2 hb3; have b3 := b2.below hb3 (by have := hb1.size; have := hb2.size; simp at *; omega); have hcl3 := b3.cell; clear hcl2))
      all_goals go_ret
      all_goals exact ⟨rfl, .inl ⟨by decide, hB3⟩⟩
    · have hB : fairB c d = false := by rcases hfb with h | h; rw [hA] at h; cases h; exact h
      rw [hA] at hf1
      rw [hB] at hf2
      clear hfb
      go_enter Tryz.func28, Tryz.ntmps28
      go_wp2_with (first
      | (go_at_call 34; refine (hn _).mono ?_; rintro e w1 ⟨⟨ao, cp, rfl, hrow⟩, hb1⟩; have hB1 : Below w.heap.size w w1 := bstep (by (repeat (first | (with_reducible exact Below.refl _ _) | (with_reducible assumption) | ((with_reducible refine Below.setCell ?_ ?_ _); rotate_left; (focus (first | omega | (simp <;> omega)))) | ((with_reducible refine Below.alloc ?_ ?_ _); rotate_left; (focus (first | omega | (simp <;> omega)))) | (with_reducible refine Below.drew ?_) | (with_reducible refine below_drewN ?_ _) | (refine bstep ?_ (by with_reducible assumption))))) hb1; have b1 := b0.below hb1 (by simp); have hcl := b1.cell)
      | (go_at_call 36; refine (hf1 _).mono ?_; clear hf1; rintro e w2 ⟨rfl, hb2⟩; have hB2 : Below w.heap.size w w2 := bstep hB1 hb2; have b2 := b1.below hb2 (by have := hb1.size; simp at this; omega); have hcl2 := b2.cell; clear hcl)
      | (go_at_call 36; refine (hf2 _).mono ?_; clear hf2; rintro e w3 ⟨rfl, hb3⟩; have hB3 : Below w.heap.size w w3 := bstep hB2 hb3; have b3 := b2.below hb3 (by have := hb1.size; have := hb2.size; simp at *; omega); have hcl3 := b3.cell; clear hcl2))
      all_goals go_ret
      all_goals exact ⟨rfl, .inl ⟨by decide, hB3⟩⟩
  · have hn := fun W => names_good s hs hv W
    have hq : (s.toList.isEmpty) = false := by rw [bl_toList]; simpa using h0
    rw [hfa] at hf1
    rw [hfb] at hf2
    obtain ⟨N, hN⟩ : ∃ N, N = (namesB (bl s)).length := ⟨_, rfl⟩
    rw [← hN] at hn hd hdm
    clear hN
    go_enter Tryz.func28, Tryz.ntmps28
    go_wp2_with (first
      | (go_at_call 34; refine (hn _).mono ?_; rintro e w1 ⟨⟨ao, cp, rfl, hrow⟩, hb1⟩; have hB1 : Below w.heap.size w w1 := bstep (by (repeat (first | (with_reducible exact Below.refl _ _) | (with_reducible assumption) | ((with_reducible refine Below.setCell ?_ ?_ _); rotate_left; (focus (first | omega | (simp <;> omega)))) | ((with_reducible refine Below.alloc ?_ ?_ _); rotate_left; (focus (first | omega | (simp <;> omega)))) | (with_reducible refine Below.drew ?_) | (with_reducible refine below_drewN ?_ _) | (refine bstep ?_ (by with_reducible assumption))))) hb1; have b1 := b0.below hb1 (by simp); have hcl := b1.cell)
      | (go_at_call 36; refine (hf1 _).mono ?_; clear hf1; rintro e w2 ⟨rfl, hb2⟩; have hB2 : Below w.heap.size w w2 := bstep hB1 hb2; have b2 := b1.below hb2 (by have := hb1.size; simp at this; omega); have hcl2 := b2.cell; clear hcl)
      | (go_at_call 36; refine (hf2 _).mono ?_; clear hf2; rintro e w3 ⟨rfl, hb3⟩; have hB3 : Below w.heap.size w w3 := bstep hB2 hb3; have b3 := b2.below hb3 (by have := hb1.size; have := hb2.size; simp at *; omega); have hcl3 := b3.cell; clear hcl2))
    all_goals go_ret
    all_goals exact ⟨rfl, .inl ⟨by decide, hB3⟩⟩

end Go.Proofs.YtepneihjhcakhaaGreatDoor
