import Derived.Test.YtphclnolomgjoaaGreatDoorB06
set_option linter.unusedVariables false
set_option linter.unusedSimpArgs false
set_option maxRecDepth 100000
set_option maxHeartbeats 4000000
namespace Go.Proofs.YtphclnolomgjoaaGreatDoor
open Tryz
open Go.RowKit
variable {k' key tl:List Bs}
def qtk (L:List Ent)(Ws:List Wk)(e:Ent):Bool:=sh0 L Ws e 0||sh1 L Ws e 0
def qct (L:List Ent)(Ws:List Wk):Bool:=L.any (qtk L Ws)
def errF (L:List Ent)(s:Bs):Int:=if qar s=false then 1 else if s=[] then 2 else if (qeq L (qac s)).isSome then 0 else 3
def qnt (L:List Ent)(s:Bs)(ok:Bool)(a b:Int):Int :=
 if errF L s≠0 then errF L s else match qeq L (qac s) with
 |none=>3
 |some x=>if ok=false then 6 else if (!x.leaf&&!(a == 0&&b == 0))=true then 6 else 0
def Ent.qbb(x:Ent)(a b c d:Int):Ent:={x with n0:=a,n1:=b,b0:=c,b1:=d}
def setL (L:List Ent)(k:List Bs)(a b c d:Int):List Ent:=L.map fun e=>if e.key=k then e.qbb a b c d else e
theorem qt1(L:List Ent)(k:List Bs)(a b c d:Int):(setL L k a b c d).map (·.key)=L.map (·.key):=by
 unfold setL;rw[List.map_map]
 exact List.map_congr_left fun e _=>by simp only[Function.comp];split<;>rfl
def kidE (s:Bs)(e:Ent):Bool:=inB (qaa e.key) s&&!decide (qaa e.key=s)
def atW (s:Bs)(x:Wk):Bool:=decide (qaa x.key=s)
def ql6 (L:List Ent)(Ws:List Wk)(s:Bs):Bool:=L.any (kidE s)||Ws.any (atW s)
def delL (L:List Ent)(k:List Bs):List Ent:=L.filter fun e=>!decide (e.key=k)
def mvK (k k' key:List Bs):List Bs:=if k.isPrefixOf key then k'++key.drop k.length else key
def mvE (k k':List Bs)(e:Ent):Ent:={e with key:=mvK k k' e.key}
def mvW (k k':List Bs)(x:Wk):Wk:={x with key:=mvK k k' x.key}
theorem qc0{k:List Bs}(h:k <+: key):mvK k k' key=k'++key.drop k.length:=by
 unfold mvK;rw[if_pos (xrw.2 h)]
theorem qbe{k:List Bs}(h:¬k <+: key):mvK k k' key=key:=by
 unfold mvK;rw[if_neg (fun e=>h (xrw.1 e))]
theorem qoe{k:List Bs}(hk:k≠[])(cx:k'≠[]):qaa k'++(qaa (k++tl)).drop (qaa k).length=qaa (k'++tl):=by
 by_cases ht:tl=[]
 ·subst ht;simp
 ·rw[qea k tl hk ht,qea k' tl cx ht];simp
end Go.Proofs.YtphclnolomgjoaaGreatDoor
