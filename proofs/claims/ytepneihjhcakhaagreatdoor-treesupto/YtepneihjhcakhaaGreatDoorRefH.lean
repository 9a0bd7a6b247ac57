import Derived.Test.YtepneihjhcakhaaGreatDoorRefG
set_option linter.unusedVariables false
set_option linter.unusedSimpArgs false
namespace Go.Proofs.YtepneihjhcakhaaGreatDoor
open Go.RowKit

theorem depth_le (s : Bs) : (namesB s).length ≤ s.length + 1 := by
  by_cases h : s = []
  · subst h; simp [namesB]
  · have := depthB_eq s h
    unfold depthB at this
    have h2 : cnt47 s ≤ s.length := by unfold cnt47; exact List.countP_le_length
    omega

theorem create_any {w : World} {br g cap : Nat} {L : List Ent} (h : RefIn w br g cap L) (E : Ents L) (hinj : ∀ a ∈ L, ∀ b ∈ L, a.key = b.key → a = b) (s : ByteArray) (hs : s.size ≤ 2000000) (leaf : Bool) (a b c d : Int) :
    Calls Tryz.prog 28 #[.pointer (some ⟨br, 0, none⟩), .agg #[.string s, .bool leaf, .int .i64 a, .int .i64 b, .int .i64 c, .int .i64 d]] w (CreateR br g L ⟨namesB (bl s), leaf, a, b, c, d⟩ (errE L (bl s) (fairB a b && fairB c d)) w) := by
  unfold errE
  by_cases hv : validB (bl s) = false
  · rw [if_pos hv]; exact create_early (cap := cap) s hs leaf a b c d _ 1 (.inl ⟨hv, rfl⟩)
  rw [if_neg hv]
  have hv' : validB (bl s) = true := by cases hh : validB (bl s); exact absurd hh hv; rfl
  by_cases h0 : bl s = []
  · rw [if_pos h0]; exact create_early (cap := cap) s hs leaf a b c d _ 2 (.inr (.inl ⟨hv', h0, rfl⟩))
  rw [if_neg h0]
  by_cases hf : (fairB a b && fairB c d) = false
  · rw [if_pos hf]; exact create_early (cap := cap) s hs leaf a b c d _ 6 (.inr (.inr (.inl ⟨hv', h0, (by cases h1 : fairB a b; exact .inl rfl; rw [h1] at hf; exact .inr (by simpa using hf)), rfl⟩)))
  rw [if_neg hf]
  obtain ⟨hfa, hfb⟩ : fairB a b = true ∧ fairB c d = true := by simpa using hf
  by_cases hd : 4 < depthB (bl s)
  · rw [if_pos hd]
    refine create_early (cap := cap) s hs leaf a b c d _ 8 (.inr (.inr (.inr ⟨hv', h0, hfa, hfb, hd, ?_, rfl⟩)))
    have := depth_le (bl s); have := bl_len s; omega
  rw [if_neg hd]
  have hl : Late w br g cap L s a b c d := ⟨h, E, hinj, hs, hv', h0, hfa, hfb, by unfold depthB at hd; omega⟩
  cases hF : findE L (namesB (bl s)) with
  | some x => simp only [Option.isSome_some, if_true]; exact late_there s leaf a b c d x _ hl hF
  | none =>
    simp only [Option.isSome_none, Bool.false_eq_true, if_false]
    unfold errInE
    cases hU : findE L (namesB (bl s)).dropLast with
    | none => exact late_none s leaf a b c d _ hl hF hU
    | some u =>
      dsimp only
      cases hul : u.leaf
      · simp only [Bool.false_eq_true, if_false]
        by_cases h20 : 20 ≤ L.length
        · rw [if_pos h20]; exact late_leaf s leaf a b c d _ u hl hF hU 7 (.inr ⟨hul, h20, rfl⟩)
        · rw [if_neg h20]; exact late_new s leaf a b c d u hl hF hU hul (by omega)
      · simp only [if_true]; exact late_leaf s leaf a b c d _ u hl hF hU 5 (.inl ⟨hul, rfl⟩)

/-- What a call of the document leaves behind. -/
def RMade (w : World) (br g cap : Nat) (L : List Ent) (err : Int) (x : Ent) (w' : World) : Prop :=
  ∃ g' cap', RefIn w' br g' cap' (if err = 0 then L ++ [x] else L) ∧ Keep (fun b => b = br ∨ b = g) w w' ∧ (g' = g ∨ w.heap.size ≤ g')
def RCall (w : World) (br g cap : Nat) (L : List Ent) (err : Int) (x : Ent) (e : Ending) (w' : World) : Prop :=
  e = .returned (.tuple #[.slice none 0 0, .int .i64 err]) ∧ RMade w br g cap L err x w'

set_option maxRecDepth 100000 in
set_option maxHeartbeats 1000000 in
theorem cohort_ref {w : World} {br g cap : Nat} {L : List Ent} (h : RefIn w br g cap L) (E : Ents L) (hinj : ∀ a ∈ L, ∀ b ∈ L, a.key = b.key → a = b) (s : ByteArray) (hs : s.size ≤ 2000000) (c d : Int) :
    Calls Tryz.prog 11 #[.pointer (some ⟨br, 0, none⟩), .string s, .agg #[.int .i64 c, .int .i64 d]] w (RCall w br g cap L (errE L (bl s) (fairL [(c, d)])) ⟨namesB (bl s), false, 0, 0, c, d⟩) := by
  have hcr := fun W (hW : Below w.heap.size w W) => create_any (h.below hW) E hinj s hs false 0 0 c d
  rw [show (fairB 0 0 && fairB c d) = fairL [(c, d)] by simp [fairL, fairB]] at hcr
  unfold RCall
  generalize errE L (bl s) (fairL [(c, d)]) = er at hcr ⊢
  have hset := fun W g' cap' L' (hR : RefIn W br g' cap' L') => settle_any hR
  by_cases h0 : er = 0
  · subst h0
    go_enter Tryz.func11, Tryz.ntmps11
    go_wp2_with (first
      | (go_at_call 28; refine (hcr _ ?_).mono ?_; (focus (repeat (first | (with_reducible exact Below.refl _ _) | (with_reducible assumption) | ((with_reducible refine Below.setCell ?_ ?_ _); rotate_left; (focus (first | omega | (simp <;> omega)))) | ((with_reducible refine Below.alloc ?_ ?_ _); rotate_left; (focus (first | omega | (simp <;> omega)))) | (with_reducible refine Below.drew ?_) | (with_reducible refine below_drewN ?_ _) | (refine bstep ?_ (by with_reducible assumption))))); rintro e w1 ⟨rfl, (⟨hne, _⟩ | ⟨_, g', cap', hR, hK, hg⟩)⟩; (focus (exact absurd rfl hne)))
      | (go_at_call 29; refine (hset _ _ _ _ hR).mono ?_; rintro e w2 ⟨rfl, hb2⟩))
    go_ret2
    refine ⟨rfl, g', cap', by rw [if_pos rfl]; exact hR.below hb2, ?_, ?_⟩
    · exact ((Keep.alloc (Keep.refl _ _) _).trans hK).trans (Keep.new hb2)
    · rcases hg with rfl | hg
      · exact .inl rfl
      · exact .inr (by simp at hg; omega)
  · have hq : (er == 0) = false := by simpa using h0
    go_enter Tryz.func11, Tryz.ntmps11
    go_wp2_with (first
      | (go_at_call 28; refine (hcr _ ?_).mono ?_; (focus (repeat (first | (with_reducible exact Below.refl _ _) | (with_reducible assumption) | ((with_reducible refine Below.setCell ?_ ?_ _); rotate_left; (focus (first | omega | (simp <;> omega)))) | ((with_reducible refine Below.alloc ?_ ?_ _); rotate_left; (focus (first | omega | (simp <;> omega)))) | (with_reducible refine Below.drew ?_) | (with_reducible refine below_drewN ?_ _) | (refine bstep ?_ (by with_reducible assumption))))); rintro e w1 ⟨rfl, (⟨_, hb1⟩ | ⟨he, _⟩)⟩; rotate_left; (focus (exact absurd he h0))))
    go_ret2
    refine ⟨rfl, g, cap, by rw [if_neg h0]; exact h.below (bstep (by (repeat (first | (with_reducible exact Below.refl _ _) | (with_reducible assumption) | ((with_reducible refine Below.setCell ?_ ?_ _); rotate_left; (focus (first | omega | (simp <;> omega)))) | ((with_reducible refine Below.alloc ?_ ?_ _); rotate_left; (focus (first | omega | (simp <;> omega)))) | (with_reducible refine Below.drew ?_) | (with_reducible refine below_drewN ?_ _) | (refine bstep ?_ (by with_reducible assumption))))) hb1), (Keep.alloc (Keep.refl _ _) _).trans (Keep.new hb1), .inl rfl⟩

set_option maxRecDepth 100000 in
set_option maxHeartbeats 1000000 in
theorem leafc_ref {w : World} {br g cap : Nat} {L : List Ent} (h : RefIn w br g cap L) (E : Ents L) (hinj : ∀ a ∈ L, ∀ b ∈ L, a.key = b.key → a = b) (s : ByteArray) (hs : s.size ≤ 2000000) (a b c d : Int) :
    Calls Tryz.prog 14 #[.pointer (some ⟨br, 0, none⟩), .string s, .agg #[.int .i64 a, .int .i64 b], .agg #[.int .i64 c, .int .i64 d]] w (RCall w br g cap L (errE L (bl s) (fairL [(a, b), (c, d)])) ⟨namesB (bl s), true, a, b, c, d⟩) := by
  have hcr := fun W (hW : Below w.heap.size w W) => create_any (h.below hW) E hinj s hs true a b c d
  rw [show (fairB a b && fairB c d) = fairL [(a, b), (c, d)] by simp [fairL]] at hcr
  unfold RCall
  generalize errE L (bl s) (fairL [(a, b), (c, d)]) = er at hcr ⊢
  have hset := fun W g' cap' L' (hR : RefIn W br g' cap' L') => settle_any hR
  by_cases h0 : er = 0
  · subst h0
    go_enter Tryz.func14, Tryz.ntmps14
    go_wp2_with (first
      | (go_at_call 28; refine (hcr _ ?_).mono ?_; (focus (repeat (first | (with_reducible exact Below.refl _ _) | (with_reducible assumption) | ((with_reducible refine Below.setCell ?_ ?_ _); rotate_left; (focus (first | omega | (simp <;> omega)))) | ((with_reducible refine Below.alloc ?_ ?_ _); rotate_left; (focus (first | omega | (simp <;> omega)))) | (with_reducible refine Below.drew ?_) | (with_reducible refine below_drewN ?_ _) | (refine bstep ?_ (by with_reducible assumption))))); rintro e w1 ⟨rfl, (⟨hne, _⟩ | ⟨_, g', cap', hR, hK, hg⟩)⟩; (focus (exact absurd rfl hne)))
      | (go_at_call 29; refine (hset _ _ _ _ hR).mono ?_; rintro e w2 ⟨rfl, hb2⟩))
    go_ret2
    refine ⟨rfl, g', cap', by rw [if_pos rfl]; exact hR.below hb2, ?_, ?_⟩
    · exact ((Keep.alloc (Keep.alloc (Keep.refl _ _) _) _).trans hK).trans (Keep.new hb2)
    · rcases hg with rfl | hg
      · exact .inl rfl
      · exact .inr (by simp at hg; omega)
  · have hq : (er == 0) = false := by simpa using h0
    go_enter Tryz.func14, Tryz.ntmps14
    go_wp2_with (first
      | (go_at_call 28; refine (hcr _ ?_).mono ?_; (focus (repeat (first | (with_reducible exact Below.refl _ _) | (with_reducible assumption) | ((with_reducible refine Below.setCell ?_ ?_ _); rotate_left; (focus (first | omega | (simp <;> omega)))) | ((with_reducible refine Below.alloc ?_ ?_ _); rotate_left; (focus (first | omega | (simp <;> omega)))) | (with_reducible refine Below.drew ?_) | (with_reducible refine below_drewN ?_ _) | (refine bstep ?_ (by with_reducible assumption))))); rintro e w1 ⟨rfl, (⟨_, hb1⟩ | ⟨he, _⟩)⟩; rotate_left; (focus (exact absurd he h0))))
    go_ret2
    refine ⟨rfl, g, cap, by rw [if_neg h0]; exact h.below (bstep (by (repeat (first | (with_reducible exact Below.refl _ _) | (with_reducible assumption) | ((with_reducible refine Below.setCell ?_ ?_ _); rotate_left; (focus (first | omega | (simp <;> omega)))) | ((with_reducible refine Below.alloc ?_ ?_ _); rotate_left; (focus (first | omega | (simp <;> omega)))) | (with_reducible refine Below.drew ?_) | (with_reducible refine below_drewN ?_ _) | (refine bstep ?_ (by with_reducible assumption))))) hb1), (Keep.alloc (Keep.alloc (Keep.refl _ _) _) _).trans (Keep.new hb1), .inl rfl⟩
end Go.Proofs.YtepneihjhcakhaaGreatDoor
