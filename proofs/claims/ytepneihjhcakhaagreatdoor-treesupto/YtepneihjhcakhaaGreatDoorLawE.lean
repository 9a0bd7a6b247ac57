import Derived.Test.YtepneihjhcakhaaGreatDoorLawD
set_option linter.unusedVariables false
set_option linter.unusedSimpArgs false
namespace Go.Proofs.YtepneihjhcakhaaGreatDoor
open Go.RowKit

def Tag.laws : Tag → Prop
  | ⟨6, _, _⟩ | ⟨7, _, _⟩ | ⟨8, _, _⟩ | ⟨9, _, _⟩ | ⟨10, _, _⟩ | ⟨11, _, _⟩ | ⟨12, _, _⟩ => True
  | _ => False

def Tag.owns : Tag → Prop
  | ⟨6, _, _⟩ | ⟨8, _, _⟩ | ⟨9, _, _⟩ | ⟨10, _, _⟩ | ⟨11, _, _⟩ | ⟨12, _, _⟩ => True
  | _ => False
theorem Tag.laws_cases {x : Tag} (h : x.laws) : 6 ≤ x.k := by
  unfold Tag.laws at h
  split at h <;> first | (simp; done) | exact h.elim
theorem Tag.owns_cases {x : Tag} (h : x.owns) : 6 ≤ x.k := by
  unfold Tag.owns at h
  split at h <;> first | (simp; done) | exact h.elim

/-- The law's world, but for its towers. -/
structure LawIn (τ : Nat → Tag) (W : World) (bw : Nat) (slT slN slE slA slB : Value) (ns es : List Value) (ms me : List Int) : Prop where
  blk : Blk W bw 32 #[slT, slN, slE, slA, slB]
  tag : τ bw = .law
  N : Marked W 1 29 slN slA ns ms
  E : Marked W 2 46 slE slB es me
  tN : ∀ g, slN.ownBlock = some g → τ g = .lawN
  tE : ∀ g, slE.ownBlock = some g → τ g = .lawE
  tA : ∀ g, slA.ownBlock = some g → τ g = .lawA
  tB : ∀ g, slB.ownBlock = some g → τ g = .lawB
  ln : ∀ v ∈ ns, ∀ g, v.ownBlock = some g → τ g = .lst
  le : ∀ v ∈ es, ∀ g, v.ownBlock = some g → τ g = .lst

theorem Marked.lt {W : World} {c : Nat} {tl : TypeId} {sl slm : Value} {ns : List Value} {ms : List Int} (h : Marked W c tl sl slm ns ms) : (∀ g, sl.ownBlock = some g → g < W.heap.size) ∧ (∀ g, slm.ownBlock = some g → g < W.heap.size) ∧ (∀ v ∈ ns, ∀ g, v.ownBlock = some g → g < W.heap.size) := by
  refine ⟨fun g hg => row_lt h.row hg, fun g hg => row_lt h.mrow hg, fun v hv g hg => ?_⟩
  obtain ⟨i, hi⟩ := List.getElem?_of_mem hv
  have hlt := (List.getElem?_eq_some_iff.1 hi).1
  obtain ⟨m, hm⟩ : ∃ m, ms[i]? = some m := ⟨_, List.getElem?_eq_getElem (by rw [← h.len]; exact hlt)⟩
  rcases h.ok i v m hi hm with rfl | ⟨b, len, cap, rfl, _, _, _, h4, _⟩
  · cases hg
  · simp [Value.ownBlock] at hg; subst hg; exact h4

theorem LawIn.keep {τ τ' : Nat → Tag} {W W' : World} {bw : Nat} {slT slN slE slA slB : Value} {ns es : List Value} {ms me : List Int} (h : LawIn τ W bw slT slN slE slA slB ns es ms me) {T : Nat → Prop} (hk : Keep T W W')
    (hT : ∀ b, b < W.heap.size → T b → ¬ (τ b).laws) (hτ : ∀ b, b < W.heap.size → τ' b = τ b) : LawIn τ' W' bw slT slN slE slA slB ns es ms me := by
  obtain ⟨n1, n2, n3⟩ := h.N.lt
  obtain ⟨e1, e2, e3⟩ := h.E.lt
  have key : ∀ g t, g < W.heap.size → τ g = t → t.laws → ¬ T g := fun g t hg ht hl hTg => hT g hg hTg (by rw [ht]; exact hl)
  refine ⟨h.blk.keep hk (key _ _ h.blk.lt h.tag trivial), by rw [hτ _ h.blk.lt]; exact h.tag, ?_, ?_, ?_, ?_, ?_, ?_, ?_, ?_⟩
  · exact h.N.keep hk (fun g hg => key g _ (n1 g hg) (h.tN g hg) trivial) (fun g hg => key g _ (n2 g hg) (h.tA g hg) trivial) (fun v hv g hg => key g _ (n3 v hv g hg) (h.ln v hv g hg) trivial)
  · exact h.E.keep hk (fun g hg => key g _ (e1 g hg) (h.tE g hg) trivial) (fun g hg => key g _ (e2 g hg) (h.tB g hg) trivial) (fun v hv g hg => key g _ (e3 v hv g hg) (h.le v hv g hg) trivial)
  · exact fun g hg => by rw [hτ _ (n1 g hg)]; exact h.tN g hg
  · exact fun g hg => by rw [hτ _ (e1 g hg)]; exact h.tE g hg
  · exact fun g hg => by rw [hτ _ (n2 g hg)]; exact h.tA g hg
  · exact fun g hg => by rw [hτ _ (e2 g hg)]; exact h.tB g hg
  · exact fun v hv g hg => by rw [hτ _ (n3 v hv g hg)]; exact h.ln v hv g hg
  · exact fun v hv g hg => by rw [hτ _ (e3 v hv g hg)]; exact h.le v hv g hg

/-- The tags behind a list that was owned. -/
def newTag (τ : Nat → Tag) (H g1 g2 g3 gN gA : Nat) (TN TA : Tag) (b : Nat) : Tag :=
  if b < H then τ b else if b = g1 ∨ b = g2 ∨ b = g3 then .lst else if b = gN then TN else if b = gA then TA else .free

structure OwnT (τ : Nat → Tag) (W : World) (τ' : Nat → Tag) (w' : World) : Prop where
  old : ∀ b, b < W.heap.size → τ' b = τ b
  new : ∀ b, W.heap.size ≤ b → τ' b = .free ∨ (τ' b).laws
  keep : Keep (fun b => b < W.heap.size ∧ (τ b).owns) W w'

theorem newTag_T {τ : Nat → Tag} {W w' : World} {g1 g2 g3 gN gA : Nat} {TN TA : Tag} (h1 : TN.laws) (h2 : TA.laws) (hk : Keep (fun b => b < W.heap.size ∧ (τ b).owns) W w') : OwnT τ W (newTag τ W.heap.size g1 g2 g3 gN gA TN TA) w' := by
  refine ⟨fun b hb => by simp [newTag, hb], fun b hb => ?_, hk⟩
  unfold newTag
  rw [if_neg (by omega)]
  split
  · exact .inr trivial
  · split
    · exact .inr h1
    · split
      · exact .inr h2
      · exact .inl rfl

theorem own_numbers {τ : Nat → Tag} {W : World} {bw : Nat} {slT slN slE slA slB : Value} {ns es : List Value} {ms me : List Int} (h : LawIn τ W bw slT slN slE slA slB ns es ms me) (hl : ns.length ≤ 100000000) :
    Calls Tryz.prog 48 #[.pointer (some ⟨bw, 0, none⟩), .slice none 0 0] W fun e w' => e = .returned (.tuple #[]) ∧ ∃ τ' slN' slA' ns' ms', OwnT τ W τ' w' ∧ LawIn τ' w' bw slT slN' slE slA' slB ns' es ms' me ∧ ns'.length = ns.length + 4 := by
  have hne1 : slN.ownBlock ≠ some bw := fun e => by have := h.tN _ e; rw [h.tag] at this; cases this
  have hne2 : slA.ownBlock ≠ some bw := fun e => by have := h.tA _ e; rw [h.tag] at this; cases this
  have hne3 : ∀ g, slN.ownBlock = some g → slA.ownBlock ≠ some g := fun g e1 e2 => by have := h.tN _ e1; rw [h.tA _ e2] at this; cases this
  have hL : ∀ v ∈ ns, ∀ g, v.ownBlock = some g → g ≠ bw ∧ slN.ownBlock ≠ some g ∧ slA.ownBlock ≠ some g := fun v hv g hg => by
    have ht := h.ln v hv g hg
    exact ⟨fun e => (by rw [e, h.tag] at ht; cases ht), fun e => (by rw [h.tN _ e] at ht; cases ht), fun e => (by rw [h.tA _ e] at ht; cases ht)⟩
  refine (ownNumbers_walk h.blk h.N.row (by rw [h.N.len]; exact h.N.mrow) hl hne1 hne2 hne3).mono ?_
  rintro e w' ⟨rfl, w1, w2, w3, wN, wA, U1, U2, U3, U4, U5, g1, k1, g2, k2, g3, k3, gN, kN, gA, kA, hP⟩
  have Q := own_marked h.blk h.N (fun j hj => by have hj0 : j = 0 := (by omega); subst hj0; rfl) rfl hne1 hne2 hne3 hL hP
  obtain ⟨n1, n2, n3⟩ := h.N.lt
  obtain ⟨e1, e2, e3⟩ := h.E.lt
  have hk : Keep (fun b => b < W.heap.size ∧ (τ b).owns) W w' := Q.keep.monoLt (fun b hb hT => by
    refine ⟨hb, ?_⟩
    rcases hT with rfl | e | e
    · rw [h.tag]; trivial
    · rw [h.tN _ e]; trivial
    · rw [h.tA _ e]; trivial)
  have o1 := Q.o1.2
  have o2 := Q.o2.2
  have o3 := Q.o3.2
  obtain ⟨oN1, oN⟩ := Q.oN
  obtain ⟨oA1, oA⟩ := Q.oA
  have hT := newTag_T (g1 := g1) (g2 := g2) (g3 := g3) (gN := gN) (gA := gA) (TN := .lawN) (TA := .lawA) trivial trivial hk
  have hEk : Marked w' 2 46 slE slB es me := h.E.keep Q.keep
    (fun g hg => by have t := h.tE g hg; rintro (e | e | e); rw [e, h.tag] at t; cases t; rw [h.tN _ e] at t; cases t; rw [h.tA _ e] at t; cases t)
    (fun g hg => by have t := h.tB g hg; rintro (e | e | e); rw [e, h.tag] at t; cases t; rw [h.tN _ e] at t; cases t; rw [h.tA _ e] at t; cases t)
    (fun v hv g hg => by have t := h.le v hv g hg; rintro (e | e | e); rw [e, h.tag] at t; cases t; rw [h.tN _ e] at t; cases t; rw [h.tA _ e] at t; cases t)
  refine ⟨rfl, _, _, _, _, _, hT, ⟨Q.blk, by rw [hT.old _ h.blk.lt]; exact h.tag, Q.marked, hEk, ?_, ?_, ?_, ?_, ?_, ?_⟩, by simp⟩
  · intro g hg
    simp [Value.ownBlock] at hg; subst hg
    rcases oN with e | e
    · rw [hT.old _ (n1 _ e)]; exact h.tN _ e
    · unfold newTag; rw [if_neg (by omega), if_neg (by omega), if_pos rfl]
  · intro g hg; rw [hT.old _ (e1 g hg)]; exact h.tE g hg
  · intro g hg
    simp [Value.ownBlock] at hg; subst hg
    rcases oA with e | ⟨e, e'⟩
    · rw [hT.old _ (n2 _ e)]; exact h.tA _ e
    · unfold newTag; rw [if_neg (by omega), if_neg (by omega), if_neg (by omega), if_pos rfl]
  · intro g hg; rw [hT.old _ (e2 g hg)]; exact h.tB g hg
  · intro v hv g hg
    rcases List.mem_append.1 hv with hv | hv
    · rw [hT.old _ (n3 v hv g hg)]; exact h.ln v hv g hg
    · simp only [List.mem_cons, List.not_mem_nil, or_false] at hv
      rcases hv with rfl | rfl | rfl | rfl
      · cases hg
      · simp [Value.ownBlock] at hg; subst hg; unfold newTag; rw [if_neg (by omega), if_pos (by simp)]
      · simp [Value.ownBlock] at hg; subst hg; unfold newTag; rw [if_neg (by omega), if_pos (by simp)]
      · simp [Value.ownBlock] at hg; subst hg; unfold newTag; rw [if_neg (by omega), if_pos (by simp)]
  · intro v hv g hg; rw [hT.old _ (e3 v hv g hg)]; exact h.le v hv g hg
theorem own_events {τ : Nat → Tag} {W : World} {bw : Nat} {slT slN slE slA slB : Value} {ns es : List Value} {ms me : List Int} (h : LawIn τ W bw slT slN slE slA slB ns es ms me) (hl : es.length ≤ 100000000) :
    Calls Tryz.prog 31 #[.pointer (some ⟨bw, 0, none⟩), .slice none 0 0] W fun e w' => e = .returned (.tuple #[]) ∧ ∃ τ' slE' slB' es' me', OwnT τ W τ' w' ∧ LawIn τ' w' bw slT slN slE' slA slB' ns es' ms me' ∧ es'.length = es.length + 4 := by
  have hne1 : slE.ownBlock ≠ some bw := fun e => by have := h.tE _ e; rw [h.tag] at this; cases this
  have hne2 : slB.ownBlock ≠ some bw := fun e => by have := h.tB _ e; rw [h.tag] at this; cases this
  have hne3 : ∀ g, slE.ownBlock = some g → slB.ownBlock ≠ some g := fun g e1 e2 => by have := h.tE _ e1; rw [h.tB _ e2] at this; cases this
  have hL : ∀ v ∈ es, ∀ g, v.ownBlock = some g → g ≠ bw ∧ slE.ownBlock ≠ some g ∧ slB.ownBlock ≠ some g := fun v hv g hg => by
    have ht := h.le v hv g hg
    exact ⟨fun e => (by rw [e, h.tag] at ht; cases ht), fun e => (by rw [h.tE _ e] at ht; cases ht), fun e => (by rw [h.tB _ e] at ht; cases ht)⟩
  refine (ownEvents_walk h.blk h.E.row (by rw [h.E.len]; exact h.E.mrow) hl hne1 hne2 hne3).mono ?_
  rintro e w' ⟨rfl, w1, w2, w3, wN, wA, U1, U2, U3, U4, U5, g1, k1, g2, k2, g3, k3, gN, kN, gA, kA, hP⟩
  have Q := own_marked h.blk h.E (fun j hj => by match j, hj with | 0, _ => rfl | 1, _ => rfl) rfl hne1 hne2 hne3 hL hP
  obtain ⟨n1, n2, n3⟩ := h.E.lt
  obtain ⟨e1, e2, e3⟩ := h.N.lt
  have hk : Keep (fun b => b < W.heap.size ∧ (τ b).owns) W w' := Q.keep.monoLt (fun b hb hT => by
    refine ⟨hb, ?_⟩
    rcases hT with rfl | e | e
    · rw [h.tag]; trivial
    · rw [h.tE _ e]; trivial
    · rw [h.tB _ e]; trivial)
  have o1 := Q.o1.2
  have o2 := Q.o2.2
  have o3 := Q.o3.2
  obtain ⟨oN1, oN⟩ := Q.oN
  obtain ⟨oA1, oA⟩ := Q.oA
  have hT := newTag_T (g1 := g1) (g2 := g2) (g3 := g3) (gN := gN) (gA := gA) (TN := .lawE) (TA := .lawB) trivial trivial hk
  have hEk : Marked w' 1 29 slN slA ns ms := h.N.keep Q.keep
    (fun g hg => by have t := h.tN g hg; rintro (e | e | e); rw [e, h.tag] at t; cases t; rw [h.tE _ e] at t; cases t; rw [h.tB _ e] at t; cases t)
    (fun g hg => by have t := h.tA g hg; rintro (e | e | e); rw [e, h.tag] at t; cases t; rw [h.tE _ e] at t; cases t; rw [h.tB _ e] at t; cases t)
    (fun v hv g hg => by have t := h.ln v hv g hg; rintro (e | e | e); rw [e, h.tag] at t; cases t; rw [h.tE _ e] at t; cases t; rw [h.tB _ e] at t; cases t)
  refine ⟨rfl, _, _, _, _, _, hT, ⟨Q.blk, by rw [hT.old _ h.blk.lt]; exact h.tag, hEk, Q.marked, ?_, ?_, ?_, ?_, ?_, ?_⟩, by simp⟩
  · intro g hg; rw [hT.old _ (e1 g hg)]; exact h.tN g hg
  · intro g hg
    simp [Value.ownBlock] at hg; subst hg
    rcases oN with e | e
    · rw [hT.old _ (n1 _ e)]; exact h.tE _ e
    · unfold newTag; rw [if_neg (by omega), if_neg (by omega), if_pos rfl]
  · intro g hg; rw [hT.old _ (e2 g hg)]; exact h.tA g hg
  · intro g hg
    simp [Value.ownBlock] at hg; subst hg
    rcases oA with e | ⟨e, e'⟩
    · rw [hT.old _ (n2 _ e)]; exact h.tB _ e
    · unfold newTag; rw [if_neg (by omega), if_neg (by omega), if_neg (by omega), if_pos rfl]
  · intro v hv g hg; rw [hT.old _ (e3 v hv g hg)]; exact h.ln v hv g hg
  · intro v hv g hg
    rcases List.mem_append.1 hv with hv | hv
    · rw [hT.old _ (n3 v hv g hg)]; exact h.le v hv g hg
    · simp only [List.mem_cons, List.not_mem_nil, or_false] at hv
      rcases hv with rfl | rfl | rfl | rfl
      · cases hg
      · simp [Value.ownBlock] at hg; subst hg; unfold newTag; rw [if_neg (by omega), if_pos (by simp)]
      · simp [Value.ownBlock] at hg; subst hg; unfold newTag; rw [if_neg (by omega), if_pos (by simp)]
      · simp [Value.ownBlock] at hg; subst hg; unfold newTag; rw [if_neg (by omega), if_pos (by simp)]
end Go.Proofs.YtepneihjhcakhaaGreatDoor
