import Derived.Test.YtphclnolomgjoaaGreatDoorB22
set_option linter.unusedVariables false
set_option linter.unusedSimpArgs false
set_option maxRecDepth 100000
set_option maxHeartbeats 4000000
namespace Go.Proofs.YtphclnolomgjoaaGreatDoor
open Tryz
open Go.RowKit
def qqc (L:List Ent)(s s2:Bs):Int :=
 if (qar s&&qar s2)=false then 1 else if errF L s≠0 then errF L s else match qeq L (qac s2) with
 |none=>3
 |some y=>if y.leaf=true then 5 else if inB s2 s=true then 10 else if (qeq L (qac s2++[qad (qac s)])).isSome=true then 4
  else if L.any (fun e=>decide (4<(mvK (qac s) (qac s2++[qad (qac s)]) e.key).length))=true then 8 else 0
section
variable {w:World}{br g cap:Nat}{L:List Ent}{ao:Option Addr}{cW:Nat}{Ws:List Wk}{cnt st:Int}
end
end Go.Proofs.YtphclnolomgjoaaGreatDoor
