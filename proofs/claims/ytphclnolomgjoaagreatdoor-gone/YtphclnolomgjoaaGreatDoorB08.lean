import Derived.Test.YtphclnolomgjoaaGreatDoorB04
set_option linter.unusedVariables false
set_option linter.unusedSimpArgs false
set_option maxRecDepth 100000
set_option maxHeartbeats 4000000
namespace Go.Proofs.YtphclnolomgjoaaGreatDoor
open Tryz
open Go.RowKit
variable {W:World}{t:TypeId}{sl:Value}{xs:List Value}
def qjo (Ws:List Wk)(key:List Bs)(k:Nat):List Wk:=(Ws.take k).filter fun y=>decide (y.key=key)&&(y.st == 0)
def qjb (l:List Wk):List Value:=l.map fun y=>Value.int .i64 y.num
theorem qa7{size:Nat}{n:Nat}(h:W.ownsRow 0 t size sl n xs):∃ao cap,sl=.slice ao n cap/\n<=cap/\cap<=maxLen:=by
 rcases h.2 with ⟨rfl,rfl⟩|⟨g,cap,aH,rfl,_,_,h1,h2,_⟩
 ·exact⟨none,0,rfl,Nat.le_refl _,Nat.zero_le _⟩
 ·exact⟨_,cap,rfl,h1,h2⟩
end Go.Proofs.YtphclnolomgjoaaGreatDoor
