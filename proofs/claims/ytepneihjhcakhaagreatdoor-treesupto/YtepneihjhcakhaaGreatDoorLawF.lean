import Derived.Test.YtepneihjhcakhaaGreatDoorLawE
set_option linter.unusedVariables false
set_option linter.unusedSimpArgs false
namespace Go.Proofs.YtepneihjhcakhaaGreatDoor
open Go.RowKit

/-- Tags, where nothing old was touched. -/
def cutTag (τ : Nat → Tag) (H : Nat) (b : Nat) : Tag := if b < H then τ b else .free
theorem cutTag_lt {τ : Nat → Tag} {H b : Nat} (h : b < H) : cutTag τ H b = τ b := by simp [cutTag, h]
theorem cutTag_ge {τ : Nat → Tag} {H b : Nat} (h : H ≤ b) : cutTag τ H b = .free := by simp [cutTag, Nat.not_lt.2 h]
theorem LawIn.below {τ : Nat → Tag} {W W' : World} {bw : Nat} {slT slN slE slA slB : Value} {ns es : List Value} {ms me : List Int} (h : LawIn τ W bw slT slN slE slA slB ns es ms me) (hb : Below W.heap.size W W') : LawIn (cutTag τ W.heap.size) W' bw slT slN slE slA slB ns es ms me :=
  h.keep (T := fun _ => False) (Keep.new hb) (fun _ _ hf => hf.elim) (fun b hb => cutTag_lt hb)
theorem OwnT.from {τ τ' : Nat → Tag} {W W1 w' : World} (hb : Below W.heap.size W W1) (h : OwnT (cutTag τ W.heap.size) W1 τ' w') : OwnT τ W τ' w' := by
  refine ⟨fun b hlt => ?_, fun b hge => ?_, ?_⟩
  · rw [h.old b (Nat.lt_of_lt_of_le hlt hb.size), cutTag_lt hlt]
  · rcases Nat.lt_or_ge b W1.heap.size with h1 | h1
    · rw [h.old b h1, cutTag_ge hge]; exact .inl rfl
    · exact h.new b h1
  · refine (Keep.new hb).trans (h.keep.mono ?_ : Keep (fun b => b < W.heap.size ∧ (τ b).owns) W1 w')
    rintro b ⟨h1, h2⟩
    rcases Nat.lt_or_ge b W.heap.size with h3 | h3
    · rw [cutTag_lt h3] at h2; exact ⟨h3, h2⟩
    · rw [cutTag_ge h3] at h2; exact h2.elim
theorem OwnT.then {τ τ' : Nat → Tag} {W w1 w' : World} (h : OwnT τ W τ' w1) (hb : Below w1.heap.size w1 w') : OwnT τ W (cutTag τ' w1.heap.size) w' := by
  have hs := h.keep.size
  refine ⟨fun b hlt => by rw [cutTag_lt (by omega)]; exact h.old b hlt, fun b hge => ?_, h.keep.trans (Keep.new hb)⟩
  rcases Nat.lt_or_ge b w1.heap.size with h1 | h1
  · rw [cutTag_lt h1]; exact h.new b hge
  · rw [cutTag_ge h1]; exact .inl rfl

def ToldR (τ : Nat → Tag) (W : World) (bw : Nat) (slT : Value) (N : Nat) (e : Ending) (w' : World) : Prop :=
  e = .returned (.bool true) ∧ ∃ τ' slN slE slA slB ns es ms me, OwnT τ W τ' w' ∧ LawIn τ' w' bw slT slN slE slA slB ns es ms me ∧ ns.length ≤ N ∧ es.length ≤ N

set_option maxRecDepth 100000 in
set_option maxHeartbeats 1000000 in
theorem told_law {τ : Nat → Tag} {W : World} {bw : Nat} {slT slN slE slA slB : Value} {ns es : List Value} {ms me : List Int} (h : LawIn τ W bw slT slN slE slA slB ns es ms me) (N : Nat) (hN : N ≤ 100000000) (hl1 : ns.length ≤ N) (hl2 : es.length ≤ N) (er : Int) :
    Calls Tryz.prog 12 #[.pointer (some ⟨bw, 0, none⟩), .slice none 0 0, .int .i64 er, .slice none 0 0, .int .i64 er] W (ToldR τ W bw slT (N + 4)) := by
  have hlook := looks_any h.blk h.N h.E (by omega) (by omega)
  have hown : ∀ W1, Below W.heap.size W W1 → Calls Tryz.prog 31 #[.pointer (some ⟨bw, 0, none⟩), .slice none 0 0] W1 fun e w' => e = .returned (.tuple #[]) ∧ ToldR τ W bw slT (N + 4) (.returned (.bool true)) w' := fun W1 hb => by
    refine (own_events (h.below hb) (by omega)).mono ?_
    rintro e w' ⟨rfl, τ', slE', slB', es', me', hT, hI, hlen⟩
    exact ⟨rfl, rfl, τ', _, _, _, _, _, _, _, _, hT.from hb, hI, by omega, by omega⟩
  generalize ToldR τ W bw slT (N + 4) = X at hown ⊢
  clear h
  go_enter Tryz.func12, Tryz.ntmps12
  go_wp2_with (first
    | (go_at_call 30; refine (sameEvents_nil _).mono ?_; rintro e w1 ⟨rfl, hw1⟩; subst hw1)
    | (go_at_call 6; refine hlook.mono ?_; rintro e w2 ⟨rfl, hb2⟩)
    | (go_at_call 31; refine (hown _ hb2).mono ?_; rintro e w3 ⟨rfl, hX⟩)
    | (go_at_call 32; refine (num_any _ _).mono ?_; rintro e w4 ⟨rfl, hw4⟩; subst hw4))
  all_goals exact hX
end Go.Proofs.YtepneihjhcakhaaGreatDoor
