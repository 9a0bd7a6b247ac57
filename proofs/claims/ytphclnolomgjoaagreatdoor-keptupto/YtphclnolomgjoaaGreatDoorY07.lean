import Derived.Test.YtphclnolomgjoaaGreatDoorY06
import Derived.Test.YtphclnolomgjoaaGreatDoorB37
import Derived.Test.YtphclnolomgjoaaGreatDoorY01
set_option linter.unusedVariables false
set_option linter.unusedSimpArgs false
namespace Go.Proofs.YtphclnolomgjoaaGreatDoor
open Go.RowKit
def WasR (N : Nat) (rb : Nat) (R : KR) (bt : Nat) (vp vw vl : Value) (w3 : World) (c13 c14 : Value) (wr : World) : Prop := ∃ (j : Nat) (qs : List QT) (a : Option Addr) (c : Nat), j ≤ 9 ∧ qs.length = j ∧ c14 = .int .i64 ((j : Int) - 1) ∧ c13 = .slice a j c ∧ Below N w3 wr ∧ Hid (WasM N wr rb R bt vp vw vl (.slice a j c) qs)
end Go.Proofs.YtphclnolomgjoaaGreatDoor
