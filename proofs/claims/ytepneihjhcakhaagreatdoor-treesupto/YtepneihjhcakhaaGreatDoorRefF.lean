import Derived.Test.YtepneihjhcakhaaGreatDoorRefE
set_option linter.unusedVariables false
set_option linter.unusedSimpArgs false
namespace Go.Proofs.YtepneihjhcakhaaGreatDoor
open Go.RowKit

theorem at_some {w : World} {br g cap : Nat} {L : List Ent} (h : RefIn w br g cap L) (E : Ents L) (hinj : ∀ a ∈ L, ∀ b ∈ L, a.key = b.key → a = b) (s : ByteArray) (k : List Bs) (hk : keyOK k = true) (hs : bl s = joinB k) {x : Ent} (hx : findE L k = some x) :
    Calls Tryz.prog 35 #[.pointer (some ⟨br, 0, none⟩), .string s] w fun e w' => (∃ i : Nat, e = .returned (.int .i64 i) ∧ L[i]? = some x) ∧ w' = w := by
  refine (at_key h E hinj s k hk hs).mono ?_
  rintro e w' ⟨(⟨h1, _⟩ | ⟨i, y, h1, h2, rfl⟩), rfl⟩
  · rw [hx] at h1; cases h1
  · rw [hx] at h1; cases h1; exact ⟨⟨i, rfl, h2⟩, rfl⟩
theorem at_none {w : World} {br g cap : Nat} {L : List Ent} (h : RefIn w br g cap L) (E : Ents L) (hinj : ∀ a ∈ L, ∀ b ∈ L, a.key = b.key → a = b) (s : ByteArray) (k : List Bs) (hk : keyOK k = true) (hs : bl s = joinB k) (hx : findE L k = none) :
    Calls Tryz.prog 35 #[.pointer (some ⟨br, 0, none⟩), .string s] w fun e w' => e = .returned (.int .i64 (-1)) ∧ w' = w := by
  refine (at_key h E hinj s k hk hs).mono ?_
  rintro e w' ⟨(⟨_, rfl⟩ | ⟨i, y, h1, h2, rfl⟩), rfl⟩
  · exact ⟨rfl, rfl⟩
  · rw [hx] at h1; cases h1
theorem at_int {w : World} {br g cap : Nat} {L : List Ent} (h : RefIn w br g cap L) (E : Ents L) (hinj : ∀ a ∈ L, ∀ b ∈ L, a.key = b.key → a = b) (s : ByteArray) (k : List Bs) (hk : keyOK k = true) (hs : bl s = joinB k) :
    Calls Tryz.prog 35 #[.pointer (some ⟨br, 0, none⟩), .string s] w fun e w' => (∃ z : Int, e = .returned (.int .i64 z)) ∧ w' = w := by
  refine (at_key h E hinj s k hk hs).mono ?_
  rintro e w' ⟨(⟨_, rfl⟩ | ⟨i, y, h1, h2, rfl⟩), rfl⟩
  · exact ⟨⟨_, rfl⟩, rfl⟩
  · exact ⟨⟨_, rfl⟩, rfl⟩

theorem names_pos (s : ByteArray) (hs : s.size ≤ 2000000) (hv : validB (bl s) = true) (M : Nat) (hM : (namesB (bl s)).length = M + 1) (w : World) :
    Calls Tryz.prog 34 #[.string s] w fun e w' => (∃ gg cap, e = .returned (.tuple #[.slice (some ⟨gg, 0, none⟩) (M + 1) cap, .bool true]) ∧ M + 1 ≤ cap ∧ cap ≤ maxLen ∧ NRow w' (namesB (bl s)) (some ⟨gg, 0, none⟩) cap) ∧ Below w.heap.size w w' := by
  refine (names_good s hs hv w).mono ?_
  rintro e w' ⟨⟨ao, cap, rfl, hrow⟩, hb⟩
  obtain ⟨x, hx⟩ : ∃ x, (namesB (bl s))[0]? = some x := ⟨_, List.getElem?_eq_getElem (by omega)⟩
  obtain ⟨gg, rfl, _, _⟩ := hrow.cell 0 x hx
  have := hrow.le
  exact ⟨⟨gg, cap, by rw [hM], by omega, hrow.mx, hrow⟩, hb⟩

theorem RefIn.ne {W : World} {br g cap : Nat} {L : List Ent} (h : RefIn W br g cap L) : br ≠ g := fun e => by
  obtain ⟨hl, hr⟩ := h.row
  rcases hr with ⟨hv, _⟩ | ⟨g', cap', cur, hv, hbg, hg, _⟩
  · cases hv
  · injection hv with e1 _ _; injection e1 with e1; injection e1 with e1
    rw [← e1, ← e] at hg
    have h9 := hg.symm.trans h.at_
    injection h9 with h9
    injection h9 with _ h9 _
    exact absurd h9 (by decide)

structure Late (w : World) (br g cap : Nat) (L : List Ent) (s : ByteArray) (a b c d : Int) : Prop where
  ref : RefIn w br g cap L
  ents : Ents L
  inj : ∀ a ∈ L, ∀ b ∈ L, a.key = b.key → a = b
  small : s.size ≤ 2000000
  valid : validB (bl s) = true
  ne : bl s ≠ []
  fa : fairB a b = true
  fb : fairB c d = true
  deep : (namesB (bl s)).length ≤ 4

theorem Late.nz {w : World} {br g cap : Nat} {L : List Ent} {s : ByteArray} {a b c d : Int} (h : Late w br g cap L s a b c d) : ∃ M, M ≤ 3 ∧ (namesB (bl s)).length = M + 1 := by
  have hne : namesB (bl s) ≠ [] := fun e => h.ne (by rw [← joinB_namesB (bl s), e]; rfl)
  have hd := h.deep
  cases hh : namesB (bl s) with
  | nil => exact absurd hh hne
  | cons x y => rw [hh] at hd; exact ⟨y.length, by simp at hd; omega, by simp⟩
theorem Late.kok {w : World} {br g cap : Nat} {L : List Ent} {s : ByteArray} {a b c d : Int} (h : Late w br g cap L s a b c d) : keyOK (namesB (bl s)) = true := by rw [← validB_keyOK]; exact h.valid
theorem Late.kod {w : World} {br g cap : Nat} {L : List Ent} {s : ByteArray} {a b c d : Int} (h : Late w br g cap L s a b c d) : keyOK (namesB (bl s)).dropLast = true := by
  have := h.kok
  simp only [keyOK, List.all_eq_true] at this ⊢
  exact fun x hx => this x (List.dropLast_subset _ hx)
theorem Late.join {w : World} {br g cap : Nat} {L : List Ent} {s : ByteArray} {a b c d : Int} (h : Late w br g cap L s a b c d) {M : Nat} (hM : (namesB (bl s)).length = M + 1) (W : World) (gg cp : Nat) (hr : NRow W (namesB (bl s)) (some ⟨gg, 0, none⟩) cp) :
    Calls Tryz.prog 43 #[.slice (some ⟨gg, 0, none⟩) M cp] W fun e w' => e = .returned (.string (sb (joinB (namesB (bl s)).dropLast))) ∧ w' = W := by
  have hd := h.deep
  have := join_ref (some ⟨gg, 0, none⟩) cp (namesB (bl s)).dropLast W (by simp; omega) (fun x hx => by have := (nameOK_len (keyOK_mem h.kod hx)).2; omega) (by simp; omega)
    (fun j x hx => by
      have hx2 : (namesB (bl s))[j]? = some x := by
        rw [List.dropLast_eq_take, List.getElem?_take] at hx
        split at hx
        · exact hx
        · cases hx
      obtain ⟨g', h1, _, h3⟩ := hr.cell j x hx2
      exact ⟨g', h1, h3⟩)
  rw [List.length_dropLast, hM] at this
  exact this

set_option maxRecDepth 100000 in
set_option maxHeartbeats 1000000 in
theorem late_there {w : World} {br g cap : Nat} {L : List Ent} (s : ByteArray) (leaf : Bool) (a b c d : Int) (x y : Ent) (h : Late w br g cap L s a b c d) (hx : findE L (namesB (bl s)) = some x) :
    Calls Tryz.prog 28 #[.pointer (some ⟨br, 0, none⟩), .agg #[.string s, .bool leaf, .int .i64 a, .int .i64 b, .int .i64 c, .int .i64 d]] w (CreateR br g L y 4 w) := by
  have hf1 := fun W => fair_any a b W
  have hf2 := fun W => fair_any c d W
  have b0 : Blk (w.alloc (.cells #[.string s, .bool leaf, .int .i64 a, .int .i64 b, .int .i64 c, .int .i64 d] 65)) w.heap.size 65 _ := Blk.new w 65 _
  have hq : (s.toList.isEmpty) = false := by rw [bl_toList]; simpa using h.ne
  rw [h.fa] at hf1
  rw [h.fb] at hf2
  obtain ⟨M, hM3, hM⟩ := h.nz
  have hn := fun W => names_pos s h.small h.valid M hM W
  have hjoin := fun W gg cp hr => h.join hM W gg cp hr
  have hat1 := fun W (hW : Below w.heap.size w W) => at_some (h.ref.below hW) h.ents h.inj s (namesB (bl s)) h.kok (joinB_namesB (bl s)).symm hx
  have hat2 := fun W (hW : Below w.heap.size w W) => at_int (h.ref.below hW) h.ents h.inj (sb (joinB (namesB (bl s)).dropLast)) (namesB (bl s)).dropLast h.kod (bl_sb _)
  clear hM hx h
  go_enter Tryz.func28, Tryz.ntmps28
  go_wp2_with (first
    | (go_at_call 34; refine (hn _).mono ?_; rintro e w1 ⟨⟨gg, cp, rfl, hcp1, hcp2, hrow⟩, hb1⟩; have hB1 : Below w.heap.size w w1 := bstep (by (repeat (first | (with_reducible exact Below.refl _ _) | (with_reducible assumption) | ((with_reducible refine Below.setCell ?_ ?_ _); rotate_left; (focus (first | omega | (simp <;> omega)))) | ((with_reducible refine Below.alloc ?_ ?_ _); rotate_left; (focus (first | omega | (simp <;> omega)))) | (with_reducible refine Below.drew ?_) | (with_reducible refine below_drewN ?_ _) | (refine bstep ?_ (by with_reducible assumption))))) hb1; have b1 := b0.below hb1 (by simp); have hcl := b1.cell; have hr1 := hrow)
    | (go_at_call 36; refine (hf1 _).mono ?_; clear hf1; rintro e w2 ⟨rfl, hb2⟩; have hB2 : Below w.heap.size w w2 := bstep hB1 hb2; have b2 := b1.below hb2 (by have := hb1.size; simp at this; omega); have hcl2 := b2.cell; clear hcl; have hr2 := hr1.below hb2)
    | (go_at_call 36; refine (hf2 _).mono ?_; clear hf2; rintro e w3 ⟨rfl, hb3⟩; have hB3 : Below w.heap.size w w3 := bstep hB2 hb3; have b3 := b2.below hb3 (by have := hb1.size; have := hb2.size; simp at *; omega); have hcl3 := b3.cell; clear hcl2; have hr3 := hr2.below hb3)
    | (go_at_call 43; refine (hjoin _ _ _ hr3).mono ?_; rintro e w9 ⟨rfl, hw9⟩; subst hw9)
    | (go_at_call 35; refine (hat1 _ hB3).mono ?_; clear hat1; rintro e w4 ⟨⟨i, rfl, hi⟩, hw4⟩; subst hw4)
    | (go_at_call 35; refine (hat2 _ hB3).mono ?_; rintro e w5 ⟨⟨z, rfl⟩, hw5⟩; subst hw5))
  all_goals go_ret
  all_goals exact ⟨rfl, .inl ⟨by decide, hB3⟩⟩
end Go.Proofs.YtepneihjhcakhaaGreatDoor
