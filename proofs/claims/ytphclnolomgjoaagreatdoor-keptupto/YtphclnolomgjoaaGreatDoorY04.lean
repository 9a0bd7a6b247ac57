import Derived.Test.YtphclnolomgjoaaGreatDoorY01
import Derived.Test.YtphclnolomgjoaaGreatDoorB37
import Derived.BigQuiet
set_option linter.unusedVariables false
set_option linter.unusedSimpArgs false
namespace Go.Proofs.YtphclnolomgjoaaGreatDoor
open Go.RowKit
section
variable {F G : Nat → Prop} {W w' : World} {rb : Nat} {R : KR} {P : Nat → Prop} {bt : Nat} {vp vw vl : Value}
theorem RunM.fo' (h : RunM F W rb R P bt vp vw vl) {T : Nat → Prop} (hk : Keep T W w') (hT : ∀ b, T b → F b) (hG : ∀ b, G b → F b ∨ W.heap.size ≤ b) (hG2 : ∀ b, G b → b < w'.heap.size) : RunM G w' rb R P bt vp vw vl := by
  have h2 := h.keep hk (fun b hb e => h.lo b hb (hT b e))
  have hlt : ∀ b, (P b ∨ b = rb ∨ vp.ownBlock = some b ∨ vw.ownBlock = some b ∨ vl.ownBlock = some b) → b < W.heap.size := fun b hb => by
    rcases hb with hb | rfl | hb | hb | hb
    · exact h.tw.lt b hb
    · exact h.at_.lt
    · exact qap h.prow hb
    · exact qap h.wrow hb
    · exact qap h.lrow hb
  refine ⟨h2.tw, h2.at_, h2.prow, h2.wrow, h2.lrow, h2.nP, fun b hb e => ?_, hG2, h2.ne, h2.pw, h2.wl⟩
  rcases hG b e with e | e
  · exact h.lo b hb e
  · have := hlt b hb; omega
end
section
variable {N : Nat} {W w' : World} {rb : Nat} {R : KR} {bt : Nat} {vp vw vl v : Value} {ev : List Int}
end
end Go.Proofs.YtphclnolomgjoaaGreatDoor
