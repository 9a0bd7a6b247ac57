import Derived.Test.YtphclnolomgjoaaGreatDoorB21
import Derived.Test.YtphclnolomgjoaaGreatDoorB20
import Derived.Test.YtphclnolomgjoaaGreatDoorB08
set_option linter.unusedVariables false
set_option linter.unusedSimpArgs false
set_option maxRecDepth 100000
set_option maxHeartbeats 4000000
namespace Go.Proofs.YtphclnolomgjoaaGreatDoor
open Tryz
open Go.RowKit
variable {ar nodes:List Node}{Ws:List Wk}{aL an as_ ws:List Pw}{n:Node}{s:SS}{a cnt st:Int}
structure Tw where
 bt:Nat
 nodes:List Node
 last:Int
 vw:Value
 va:Value
 ws:List Pw
 as_:List Pw
 br:Nat
 g:Nat
 cap:Nat
 L:List Ent
 ao:Option Addr
 cW:Nat
 Ws:List Wk
 cnt:Int
 st:Int
theorem Rel.waits(R:Rel nodes Ws ws as_)(T:Tree nodes)(hB:qa1 nodes)(hn:n∈nodes):(qba ws n.blk).map (·.x)=qjo Ws n.key Ws.length:=by
 unfold qba qjo;rw[List.take_length];have e1:(ws.filter fun p=>p.q == n.blk)=ws.filter fun p=>decide (p.x.key=n.key):=List.filter_congr fun p hp=>R.qts T hB hn (xr9 _ hp)
 have e2:(ws.filter fun p=>decide (p.x.key=n.key)).map (·.x)=(ws.map (·.x)).filter fun y=>decide (y.key=n.key):=by rw[List.filter_map];rfl
 rw[e1,e2,R.w,List.filter_filter]
theorem Rel.qwo(R:Rel nodes Ws ws as_)(T:Tree nodes)(hB:qa1 nodes)(hn:n∈nodes):qg0 (qba ws n.blk)=qjb (qjo Ws n.key Ws.length)/\(qba ws n.blk).length=(qjo Ws n.key Ws.length).length:=by
 have h:=R.waits T hB hn
 refine⟨?_,by rw[<-h];simp⟩
 rw[<-h];unfold qg0 qjb;rw[List.map_map]
 rfl
theorem Rel.told(R:Rel nodes Ws ws as_)(T:Tree nodes)(hW:Wks Ws)(hn:n∈nodes)(v:Value):
  qrb (qaa n.key) n.leaf (pn0 nodes n.key) (pn1 nodes n.key) n.b0 n.b1 (ws0 (pun as_ n.key)) (ws1 (pun as_ n.key)) v=#[.string (sb (qaa n.ent.key)),.bool n.ent.leaf,.int .i64 (es0 (qai (nodes.map Node.ent) (qaa n.ent.key))),.int .i64 (es1 (qai (nodes.map Node.ent) (qaa n.ent.key))),.int .i64 n.ent.b0,.int .i64 n.ent.b1,.int .i64 (ws0 (qae Ws (qaa n.ent.key))),.int .i64 (ws1 (qae Ws (qaa n.ent.key))),v]:=by
 have hk:=(T.ok n hn).1;unfold qrb;rw[(qb7 T hk).1,(qb7 T hk).2,(R.use hW hk).1,(R.use hW hk).2]
 rfl
theorem qlg{f:SS->Option SS}{I:SS->Prop}(hI:∀s s',I s->f s=some s'->I s'/\s'.st=s.st+1):∀(n:Nat) (s:SS),I s->I (qbf f n s)/\s.st<=(qbf f n s).st/\(qbf f n s).st<=s.st+n
 |0,s,h=>⟨h,Int.le_refl _,by simp[qbf]⟩
 |n+1,s,h=>by
  unfold qbf
  cases hf:f s with
  |none=>exact⟨h,Int.le_refl _,by simp only;omega⟩
  |some s' =>
   obtain⟨h1,h2⟩:=hI s s' h hf;obtain⟨h3,h4,h5⟩:=qlg hI n s' h1
   simp only
   exact⟨h3,by omega,by omega⟩
theorem qkr(L:List Ent)(h:SInv s):SInv ⟨(qal L s).Ws,(qal L s).st,[]⟩/\s.st<=(qal L s).st/\(qal L s).st<=s.st+48:=by
 have hl:s.Ws.length<=24:=h.wks.wks.len;obtain⟨a1,a2,a3⟩:=qlg (f:=qbc L) (I:=SInv) (fun a b ha he=>⟨(ha.own he).1,(ha.own he).2.2.1⟩) s.Ws.length s h;obtain⟨b1,b2,b3⟩:=qlg (f:=qat L) (I:=SInv) (fun a b ha he=>⟨(ha.idle he).1,(ha.idle he).2.2.1⟩) s.Ws.length _ a1;have e:qal L s=qbf (qat L) s.Ws.length (qbf (qbc L) s.Ws.length s):=rfl;rw[e]
 exact⟨⟨b1.wks,b1.st0,b1.anti⟩,by omega,by omega⟩
structure Comm (nodes:List Node) (Ws:List Wk) (cnt st:Int) (ws as_:List Pw):Prop where
 tree:Tree nodes
 rel:Rel nodes Ws ws as_
 inv:SInv ⟨Ws,st,[]⟩
 wkl:WkL nodes Ws cnt
 cnt0:0<=cnt
theorem Comm.settled(T:Tree nodes)(I:SInv ⟨Ws,st,[]⟩)(L:WkL nodes Ws cnt)(hc:0<=cnt)(R:Rel nodes (qal (nodes.map Node.ent) ⟨Ws,st,[]⟩).Ws an aL):
  Comm nodes (qal (nodes.map Node.ent) ⟨Ws,st,[]⟩).Ws cnt (qal (nodes.map Node.ent) ⟨Ws,st,[]⟩).st an aL :=
 ⟨T,R,(qkr _ I).1,L.of (qt3 _ ⟨Ws,st,[]⟩),hc⟩
theorem Comm.qbk(C:Comm nodes Ws cnt st ws as_){s:Bs}{b:Int}(he:qfd nodes (ws.length+as_.length) s (qao a b)=0):
  SInv ⟨Ws++[qe4 cnt s a b],st,[]⟩/\WkL nodes (Ws++[qe4 cnt s a b]) (cnt+1):=by
 obtain⟨n,hn,hl,hf,pG⟩:=qhe he;obtain⟨bQ,bX⟩:=qan hn;rw[C.rel.length C.inv.wks]at pG
 exact⟨SInv.append C.tree C.inv C.wkl C.cnt0 bQ hl bX hf pG,C.wkl.append C.cnt0 bQ hl bX a b⟩
theorem Comm.finish(C:Comm nodes Ws cnt st ws as_)(i:Nat):SInv ⟨Ws.take i++Ws.drop (i+1),st,[]⟩/\WkL nodes (Ws.take i++Ws.drop (i+1)) cnt :=
 ⟨⟨C.inv.wks.sub (qe7 Ws i),C.inv.st0,C.inv.anti.sub (qe7 Ws i)⟩,C.wkl.sub (qe7 Ws i)⟩
theorem WkL.grown{x:Ent}(h:WkL nodes Ws cnt)(he:ar.map Node.ent=nodes.map Node.ent++[x]):WkL ar Ws cnt :=
 ⟨fun y hy=>by
  obtain⟨n,hn,e1,e2⟩:=h.leaf y hy
  have:n.ent∈ar.map Node.ent:=by rw[he];exact xr9 _ (xrj hn)
  obtain⟨n',dp,e⟩:=xrq.1 this;have k1:n'.key=n.key:=congrArg Ent.key e;have k2:n'.leaf=n.leaf:=congrArg Ent.leaf e
  exact⟨n',dp,k1.trans e1,k2.trans e2⟩,h.num⟩
structure qf9 (K:Nat) (x:Tw):Prop where
 L:x.L=x.nodes.map Node.ent
 cnt:x.cnt=x.last
 com:Comm x.nodes x.Ws x.cnt x.st x.ws x.as_
 cntK:x.cnt<=K
 stK:x.st<=48*K
structure Out where
 err:Int
 L:List Ent
 Ws:List Wk
 cnt:Int
 st:Int
 evs:List (Int×Int)
def POut (τ : Nat->Tag)(t:Nat)(W:World)(bt:Nat)(o:Out)(ev:Value)(w':World):Prop :=
 ∃τ' ar aI aO an aL,(∀b,b<W.heap.size -> τ' b = τ b)/\(∀b,W.heap.size<=b -> τ' b=.free\/(τ' b).prog t)/\qa2 τ' t w' bt ar o.cnt aI aO an aL/\ar.map Node.ent=o.L/\Comm ar o.Ws o.cnt o.st an aL /\
  w'.ownsRow 0 60 2 ev o.evs.length (qam o.evs)/\(∀b,ev.ownBlock=some b->W.heap.size<=b /\ τ' b=.free)/\Keep (fun b=>b<W.heap.size/\(τ b).prog t) W w'
section
variable {n₀ : Nat}{τ : Nat->Tag}{W:World}{bw:Nat}{uo:List Tw}{N:Nat}{t:Nat}{x:Tw}{o:Out}
end
end Go.Proofs.YtphclnolomgjoaaGreatDoor
