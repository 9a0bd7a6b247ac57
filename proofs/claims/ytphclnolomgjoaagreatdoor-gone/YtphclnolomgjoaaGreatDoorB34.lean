import Derived.Test.YtphclnolomgjoaaGreatDoorB33
set_option linter.unusedVariables false
set_option linter.unusedSimpArgs false
set_option maxRecDepth 100000
set_option maxHeartbeats 4000000
namespace Go.Proofs.YtphclnolomgjoaaGreatDoor
open Tryz
open Go.RowKit
variable {K i:Nat}{ev:Value}{G T:Nat->Prop}{evs:List (Int×Int)}{bU:Int}
section
variable {P:Nat->Prop}{W w':World}{bt:Nat}{k:KS}
theorem qyy(w:World):Calls prog 38 #[] w fun e w'=>∃bt P,e=.returned (.pointer (some ⟨bt,0,none⟩))/\KT P w' bt ⟨[⟨[],false,0,0,0,0⟩],[],0,0⟩/\(∀b,P b->w.heap.size<=b)/\Below w.heap.size w w':=by
 refine(qvw w).mono ?_
 rintro e w' ⟨nd,bt,rfl,hb,Ax,yk,h1,h2,h3⟩
 obtain⟨τ,hτ⟩:∃τ : Nat->Tag,τ = fun b=>if b=nd then .node 0 nd else if b=bt then .tow 0 else .free:=⟨_,rfl⟩
 have Dv : τ nd=.node 0 nd:=by rw[hτ];simp only;rw[if_pos trivial]
 have Du : τ bt=.tow 0:=by rw[hτ];simp only;rw[if_neg (by omega),if_pos trivial]
 have zu:qf1 τ 0 w' bt [qjj nd] (.int .i64 0) (.slice none 0 0) (.slice none 0 0):=by
  refine⟨qzt nd,?_,?_,⟨qjj nd,rfl,yk⟩,Du,fun a ha b hb _=>by simp at ha hb;rw[ha,hb]⟩
  ·intro n hn;simp at hn;subst hn
   exact⟨Ax,xrk _ _ _ _⟩
  ·intro i n hn
   match i,hn with
   |0,hn=>simp at hn;subst hn;exact⟨Dv,fun g hg=>by cases hg⟩
   |i+1,hn=>simp at hn
 refine⟨bt,fun b=>b<w'.heap.size/\(τ b).prog 0,rfl,⟨τ,[qjj nd],.slice none 0 0,.slice none 0 0,[],[],fun _=>Iff.rfl,⟨zu,⟨qjj nd,rfl,zu.ins,⟨yk,xrk _ _ _ _,xrk _ _ _ _,fun p hp=>(by cases hp),fun b hb=>(by cases hb),List.nodup_nil,fun a ha=>(by cases ha),by simp⟩,fun p hp=>(by cases hp),fun p hp=>(by cases hp)⟩,fun b hb=>(by rcases hb with hb|hb<;>cases hb),fun p hp=>(by cases hp)⟩,rfl,(qug bt nd 0 0 0).com⟩,fun b By=>?_,hb⟩
 have hp:=By.2;rw[hτ]at hp
 simp only at hp
 by_cases c1:b=nd
 ·omega
 ·rw[if_neg c1]at hp
  by_cases c2:b=bt
  ·omega
  ·rw[if_neg c2]at hp;exact hp.elim
theorem qpf(h:KT P W bt k)(s:ByteArray)(hs:s.size<=2000000)(c d:Int):
  Calls prog 27 #[.pointer (some ⟨bt,0,none⟩),.string s,.agg #[.int .i64 c,.int .i64 d]] W fun e w'=>∃ev,e=.returned (.tuple #[ev,.int .i64 (k.make (bl s) false 0 0 c d).err])/\KOut P W bt (k.make (bl s) false 0 0 c d) ev w':=by
 obtain⟨τ,x,K,h1,hP,A,rfl,e1,e2,e3,e4⟩:=h.tw;have kZ:qbj [(c,d)]=(qao 0 0&&qao c d):=by simp[qbj,qao]
 have gK:errE x.L (bl s) (qao 0 0&&qao c d)=qbo x.nodes (bl s) (qbj [(c,d)]):=by rw[kZ,A.L];exact qo6 _ _ _
 refine(qxg hP A.com.rel A.inv s hs c d).mono fun e w' hM=>?_
 obtain⟨ev,rfl,g1,g2⟩:=qm7 A hP hM;rw[<-gK]at g1 g2 ⊢;unfold KS.make KS.done KS.same;rw[<-e1,<- e2,<- e3,<- e4]
 by_cases he:errE x.L (bl s) (qao 0 0&&qao c d)=0
 ·rw[if_neg (by simpa using he)];rw[he]
  exact⟨ev,rfl,qdw h1 (g2 he)⟩
 ·rw[if_pos he]
  exact⟨ev,rfl,qdw h1 (g1 he)⟩
theorem qwx(h:KT P W bt k)(s:ByteArray)(hs:s.size<=2000000)(a b c d:Int):
  Calls prog 26 #[.pointer (some ⟨bt,0,none⟩),.string s,.agg #[.int .i64 a,.int .i64 b],.agg #[.int .i64 c,.int .i64 d]] W fun e w'=>∃ev,e=.returned (.tuple #[ev,.int .i64 (k.make (bl s) true a b c d).err])/\KOut P W bt (k.make (bl s) true a b c d) ev w':=by
 obtain⟨τ,x,K,h1,hP,A,rfl,e1,e2,e3,e4⟩:=h.tw;have kZ:qbj [(a,b),(c,d)]=(qao a b&&qao c d):=by simp[qbj]
 have gK:errE x.L (bl s) (qao a b&&qao c d)=qbo x.nodes (bl s) (qbj [(a,b),(c,d)]):=by rw[kZ,A.L];exact qo6 _ _ _
 refine(q0q hP A.com.rel A.inv s hs a b c d).mono fun e w' hM=>?_
 obtain⟨ev,rfl,g1,g2⟩:=qm7 A hP hM;rw[<-gK]at g1 g2 ⊢;unfold KS.make KS.done KS.same;rw[<-e1,<- e2,<- e3,<- e4]
 by_cases he:errE x.L (bl s) (qao a b&&qao c d)=0
 ·rw[if_neg (by simpa using he)];rw[he]
  exact⟨ev,rfl,qdw h1 (g2 he)⟩
 ·rw[if_pos he]
  exact⟨ev,rfl,qdw h1 (g1 he)⟩
theorem qlh(h:KT P W bt k)(hc:k.cnt<=1999999)(s:ByteArray)(hs:s.size<=2000000)(a b:Int):
  Calls prog 32 #[.pointer (some ⟨bt,0,none⟩),.string s,.agg #[.int .i64 a,.int .i64 b]] W fun e w'=>∃ev,e=.returned (.tuple #[.int .i64 (if errS k.L k.Ws (bl s) (qao a b)=0 then k.cnt+1 else 0),ev,.int .i64 (errS k.L k.Ws (bl s) (qao a b))])/\KOut P W bt (k.qbk (bl s) a b) ev w':=by
 obtain⟨τ,x,K,h1,hP,A,rfl,e1,e2,e3,e4⟩:=h.tw;obtain⟨r,eT,hb⟩:=hP.bk;obtain⟨eF,a_⟩:=qbp hP.pr.tree eT;have vN:=A.com.cnt0;have gK:qfd x.nodes (x.ws.length+x.as_.length) (bl s) (qao a b)=errS x.L x.Ws (bl s) (qao a b):=by rw[A.L];exact qnv A.com.rel A.inv.wks _ _
 unfold KS.qbk KS.done KS.same;rw[<-e3]at hc;rw[<-e1,<- e2,<- e3,<- e4]
 by_cases he:qfd x.nodes (x.ws.length+x.as_.length) (bl s) (qao a b)=0
 ·obtain⟨I2,L2⟩:=A.com.qbk (s:=bl s) (a:=a) (b:=b) he;have jF:=gK.symm.trans he;rw[if_pos jF,if_neg (by simpa using jF),jF];have I3:=I2;rw[A.cnt]at I3 L2 ⊢
  refine(qp1 hP.pr.tree hP.pr.qdk hb (by rw[<-A.cnt];exact vN) (by rw[<-A.cnt];omega) eF a_ s hs a b he A.com.rel I3).mono ?_
  rintro e w' ⟨ev,rfl,hS⟩
  exact⟨ev,rfl,qdw h1 (qpo hP A eT I3 L2 (by rw[<-A.cnt];omega) hS)⟩
 ·have jF:errS x.L x.Ws (bl s) (qao a b)≠0:=fun e=>he (gK.trans e)
  rw[if_neg jF,if_pos jF]
  refine(qp0 hP.pr.tree hb eF a_ s hs a b he).mono ?_
  rintro e w' ⟨rfl,dk⟩
  rw[gK]
  exact⟨_,rfl,qdw h1 (qev hP A dk _)⟩
theorem qpg(h:KT P W bt k)(m:Int):
  Calls prog 28 #[.pointer (some ⟨bt,0,none⟩),.int .i64 m] W fun e w'=>∃ev,e=.returned (.tuple #[ev,.int .i64 (k.finish m).err])/\KOut P W bt (k.finish m) ev w':=by
 obtain⟨τ,x,K,h1,hP,A,rfl,e1,e2,e3,e4⟩:=h.tw;obtain⟨r,eT,hb⟩:=hP.bk;obtain⟨eF,a_⟩:=qbp hP.pr.tree eT;unfold KS.finish KS.done KS.same;rw[<-e1,<- e2,<- e3,<- e4]
 cases hf:x.Ws.findIdx? (fun y=>y.num == m) with
 |some i =>
  simp only
  obtain⟨hi,hm,_⟩:=List.findIdx?_eq_some_iff_getElem.1 hf;obtain⟨y,hy⟩:∃y,y=x.Ws[i]:=⟨_,rfl⟩;rw[<-hy]at hm;have fD:x.Ws[i]?=some y:=by rw[hy];exact xr1 hi
  have nS:y.num=m:=by simpa using hm
  subst nS;obtain⟨I2,L2⟩:=A.com.finish i
  refine(qpx hP.pr.tree hP.pr.qdk hb eF a_ A.com.rel A.inv fD I2).mono ?_
  rintro e w' ⟨ev,rfl,hS⟩
  rw[<-A.cnt]at hS
  exact⟨ev,rfl,qdw h1 (qpo hP A eT I2 L2 A.com.cnt0 hS)⟩
 |none =>
  simp only
  have ay:∀y∈x.Ws,y.num≠m:=fun y hy e=>by
   have:=List.findIdx?_eq_none_iff.1 hf y hy
   simp[e]at this
  refine(qpw hb A.com.rel A.inv.wks ay).mono ?_
  rintro e w' ⟨rfl,dk⟩
  exact⟨_,rfl,qdw h1 (qev hP A dk _)⟩
end
section
variable {P:Nat->Prop}{W w':World}{bt:Nat}{k:KS}
theorem qv8{x:Tw}(A:qf9 K x)(s:Bs)(a b c d:Int):qg2 x s a b c d=KS.qbb ⟨x.L,x.Ws,x.cnt,x.st⟩ s a b c d:=by
 have kZ:qbj [(a,b),(c,d)]=(qao a b&&qao c d):=by simp[qbj]
 have gK:qnt x.L s (qao a b&&qao c d) a b=qdu x.nodes s (qbj [(a,b),(c,d)]) a b:=by rw[kZ,A.L];exact qnu _ _ _ _ _
 have T:=A.com.tree;unfold KS.qbb KS.done KS.same
 simp only
 rw[gK]
 by_cases he:qdu x.nodes s (qbj [(a,b),(c,d)]) a b=0
 ·obtain⟨hv,dw,n,hf,cg,eS⟩:=qgb he;obtain⟨hn,bX⟩:=qan hf;have en:qao a b=true/\qao c d=true:=by simpa [qbj] using cg
  have vg:setL x.L (qac s) a b c d=(setQ x.nodes n.key a b c d).map Node.ent:=by
   rw[A.L,bX]
   refine qnd _ _ _ _ _ _ (fun m hm hk hl=>?_)
   have:m=n:=T.inj m hm n hn (hk.trans bX.symm)
   subst this;obtain⟨e1,e2⟩:=eS hl
   have:=(T.num m hm).2.2.2.2 hl
   omega
  have fm:n.key≠[]:=by rw[bX];intro e;exact dw (qes e)
  have T':=T.setQ fm en.1 en.2;have mj:=qhi T' (A.com.rel.mapN (fun m _=>qcc n.key a b c d m)) A.inv.wks.wks;rw[if_neg (by simpa using he),vg];unfold qg2;simp only[hf];rw[if_neg (by simpa using he),mj]
  cases qct ((setQ x.nodes n.key a b c d).map Node.ent) x.Ws
  ·simp
  ·simp[Tw.same]
 ·rw[if_pos he];unfold qg2
  cases hf:findKey x.nodes (qac s) with
  |none=>rfl
  |some n=>simp only;rw[if_pos he];rfl
theorem qs3(h:KT P W bt k)(s:ByteArray)(hs:s.size<=2000000)(a b c d:Int):
  Calls prog 29 #[.pointer (some ⟨bt,0,none⟩),.string s,.agg #[.int .i64 a,.int .i64 b],.agg #[.int .i64 c,.int .i64 d]] W fun e w'=>∃ev,e=.returned (.tuple #[ev,.int .i64 (k.qbb (bl s) a b c d).err])/\KOut P W bt (k.qbb (bl s) a b c d) ev w':=by
 obtain⟨τ,x,K,h1,hP,A,rfl,e1,e2,e3,e4⟩:=h.tw
 refine(qzo hP A s hs a b c d).mono fun e w' hM=>?_
 obtain⟨ev,rfl,g1⟩:=hM;rw[qv8 A,e1,e2,e3,e4]at g1 ⊢
 exact⟨ev,rfl,qdw h1 g1⟩
theorem qwc{x:Tw}(A:qf9 K x)(hB:qa1 x.nodes)(s:Bs):qf6 x s=KS.remove ⟨x.L,x.Ws,x.cnt,x.st⟩ s:=by
 have T:=A.com.tree;have vr:∀y∈x.Ws,0<=y.st:=fun y hy=>(A.inv.wks.st y hy).1
 have gK:(if errF x.L s≠0 then errF x.L s else if ql6 x.L x.Ws s=true then 9 else 0)=qdl x.nodes (x.ws++x.as_) s:=by rw[A.L];exact qmc T hB A.com.rel vr A.inv.wks.wks s
 unfold KS.remove KS.done KS.same
 simp only
 by_cases he:qdl x.nodes (x.ws++x.as_) s=0
 ·obtain⟨hv,dw,q,hf,fm,ay⟩:=qgc he;obtain⟨hq,cT⟩:=qan hf;have hF:errF x.L s=0:=by unfold errF;rw[A.L,qb4,hf];simp[hv,dw]
  have mO:ql6 x.L x.Ws s=false:=by
   rw[he,if_neg (by simpa using hF)]at gK
   cases hb:ql6 x.L x.Ws s
   ·rfl
   ·rw[hb]at gK;simp at gK
  rw[if_neg (by simpa using hF),mO,<- cT];unfold qf6 brkE;simp only[hf];rw[if_neg (by simpa using he)]
  cases qct (delL x.L q.key) x.Ws
  ·simp
  ·simp[Tw.same]
 ·have ho:qf6 x s=x.same (qdl x.nodes (x.ws++x.as_) s):=by
   unfold qf6
   cases hf:findKey x.nodes (qac s) with
   |none=>rfl
   |some n=>simp only;rw[if_pos he]
  rw[ho,<- gK]
  by_cases hF:errF x.L s=0
  ·cases hb:ql6 x.L x.Ws s
   ·rw[hb]at gK;simp[hF]at gK;exact absurd gK.symm he
   ·simp[hF,Tw.same]
  ·simp[hF,Tw.same]
theorem qvi(h:KT P W bt k)(s:ByteArray)(hs:s.size<=2000000):
  Calls prog 31 #[.pointer (some ⟨bt,0,none⟩),.string s] W fun e w'=>∃ev,e=.returned (.tuple #[ev,.int .i64 (k.remove (bl s)).err])/\KOut P W bt (k.remove (bl s)) ev w':=by
 obtain⟨τ,x,K,h1,hP,A,rfl,e1,e2,e3,e4⟩:=h.tw
 refine(qx0 hP A s hs).mono fun e w' hM=>?_
 obtain⟨ev,rfl,g1⟩:=hM;rw[qwc A hP.pr.qdk,e1,e2,e3,e4]at g1 ⊢
 exact⟨ev,rfl,qdw h1 g1⟩
theorem qvq{x:Tw}(A:qf9 K x)(s s2:Bs):qh1 x s s2=KS.move ⟨x.L,x.Ws,x.cnt,x.st⟩ s s2:=by
 have T:=A.com.tree;have gK:qqc x.L s s2=qdt x.nodes s s2:=by rw[A.L];exact qis T _ _
 unfold KS.move KS.done KS.same mvTo
 simp only
 rw[gK]
 by_cases he:qdt x.nodes s s2=0
 ·obtain⟨hv,dw,q,tq,hf,pM,h1,h2,h3,h4⟩:=qga he;obtain⟨hq,cT⟩:=qan hf;obtain⟨ht,db⟩:=qan pM;rw[if_neg (by simpa using he),<- cT,<- db];unfold qh1 brkE;simp only[hf,pM];rw[if_neg (by simpa using he)]
  cases qct (x.L.map (mvE q.key (tq.key++[qad q.key]))) (x.Ws.map (mvW q.key (tq.key++[qad q.key])))
  ·simp
  ·simp[Tw.same]
 ·rw[qmz he,if_pos he];rfl
theorem qs2(h:KT P W bt k)(s s2:ByteArray)(hs:s.size<=2000000)(dW:s2.size<=2000000):
  Calls prog 30 #[.pointer (some ⟨bt,0,none⟩),.string s,.string s2] W fun e w'=>∃ev,e=.returned (.tuple #[ev,.int .i64 (k.move (bl s) (bl s2)).err])/\KOut P W bt (k.move (bl s) (bl s2)) ev w':=by
 obtain⟨τ,x,K,h1,hP,A,rfl,e1,e2,e3,e4⟩:=h.tw
 refine(q0s hP A s s2 hs dW).mono fun e w' hM=>?_
 obtain⟨ev,rfl,g1⟩:=hM;rw[qvq A,e1,e2,e3,e4]at g1 ⊢
 exact⟨ev,rfl,qdw h1 g1⟩
end
section
variable {P:Nat->Prop}{W w':World}{bt:Nat}{k:KS}
def KS.told(k:KS)(x:Ent)(v:Value):Array Value:=#[.string (sb (qaa x.key)),.bool x.leaf,.int .i64 (es0 (qai k.L (qaa x.key))),.int .i64 (es1 (qai k.L (qaa x.key))),.int .i64 x.b0,.int .i64 x.b1,.int .i64 (ws0 (qae k.Ws (qaa x.key))),.int .i64 (ws1 (qae k.Ws (qaa x.key))),v]
def KS.waits(k:KS)(x:Ent):List Wk:=qjo k.Ws x.key k.Ws.length
theorem qn5(h:KT P W bt k)(s:ByteArray)(hs:s.size<=2000000){x:Ent}(hv:qar (bl s)=true)(hx:qeq k.L (qac (bl s))=some x):
  Calls prog 34 #[.pointer (some ⟨bt,0,none⟩),.string s] W fun e w'=>∃v,e=.returned (.tuple #[.agg (k.told x v),.int .i64 0])/\w'.ownsRow 0 3 1 v (k.waits x).length (qjb (k.waits x))/\Below W.heap.size W w'/\(∀b,v.ownBlock=some b->W.heap.size<=b):=by
 obtain⟨τ,nodes,vw,va,ws,as_,h1,h2,h3,C⟩:=h;obtain⟨r,eT,hb⟩:=h2.bk;obtain⟨eF,a_⟩:=qbp h2.pr.tree eT
 refine(qoj h2.pr.tree h2.pr.qdk hb eF a_ s hs).mono ?_
 intro e w' hq;unfold QueR at hq;rw[hv]at hq;rw[<-h3,qb4]at hx
 cases hf:findKey nodes (qac (bl s)) with
 |none=>rw[hf]at hx;cases hx
 |some n =>
  rw[hf]at hx hq;simp only[Option.map_some,Option.some.injEq]at hx;simp only[Bool.true_eq_false,if_false]at hq;obtain⟨hn,bX⟩:=qan hf;obtain⟨v,rfl,g1,g2,g3⟩:=hq;obtain⟨e1,e2⟩:=C.rel.qwo h2.pr.tree h2.pr.qdk hn
  refine⟨v,?_,?_,g2,g3⟩
  ·rw[C.rel.told h2.pr.tree C.inv.wks.wks hn v,h3,hx];rfl
  ·unfold KS.waits;rw[<-hx];rw[e1,e2]at g1;exact g1
theorem KT.inv(h:KT P W bt k):∃nodes,nodes.map Node.ent=k.L/\Tree nodes/\SInv ⟨k.Ws,k.st,[]⟩/\WkL nodes k.Ws k.cnt/\0<=k.cnt:=by
 obtain⟨τ,nodes,vw,va,ws,as_,h1,h2,h3,C⟩:=h
 exact⟨nodes,h3,C.tree,C.inv,C.wkl,C.cnt0⟩
end
def KU (w W:World)(bt:Nat)(k:KS):Prop:=Below w.heap.size w W/\∃P,KT P W bt k/\∀b,P b->w.heap.size<=b
section
variable {w W w':World}{bt:Nat}{k:KS}
theorem KU.below(h:KU w W bt k)(hb:Below W.heap.size W w'):KU w w' bt k:=by
 obtain⟨h0,P,h1,h2⟩:=h
 exact⟨qab h0 hb,P,h1.below hb,h2⟩
theorem KU.step(h0:Below w.heap.size w W){P:Nat->Prop}(h2:∀b,P b->w.heap.size<=b){o:Out}(h:KOut P W bt o ev w'):KU w w' bt o.ks/\w'.ownsRow 0 60 2 ev o.evs.length (qam o.evs)/\(∀b,ev.ownBlock=some b->W.heap.size<=b):=by
 obtain⟨P',g1,g2,g3,g4,g5⟩:=h;have hz:=h0.size
 refine⟨⟨h0.trans (g5.toBelow hz (fun b hb e=>by have:=h2 b e;omega)),P',g1,fun b hb=>?_⟩,g3,fun b hb=>(g4 b hb).1⟩
 by_cases ak:b<W.heap.size
 ·exact h2 b ((g2 b ak).1 hb)
 ·omega
theorem qps(h:KU w W bt k)(s:ByteArray)(hs:s.size<=2000000)(c d:Int){o:Out}(ho:k.make (bl s) false 0 0 c d=o):
  Calls prog 27 #[.pointer (some ⟨bt,0,none⟩),.string s,.agg #[.int .i64 c,.int .i64 d]] W fun e w'=>∃ev,e=.returned (.tuple #[ev,.int .i64 o.err])/\KU w w' bt o.ks/\w'.ownsRow 0 60 2 ev o.evs.length (qam o.evs)/\(∀b,ev.ownBlock=some b->W.heap.size<=b):=by
 obtain⟨h0,P,h1,h2⟩:=h;subst ho
 refine(qpf h1 s hs c d).mono ?_
 rintro e w' ⟨ev,rfl,g⟩
 exact⟨ev,rfl,KU.step h0 h2 g⟩
theorem qpt(h:KU w W bt k)(s:ByteArray)(hs:s.size<=2000000)(a b c d:Int){o:Out}(ho:k.make (bl s) true a b c d=o):
  Calls prog 26 #[.pointer (some ⟨bt,0,none⟩),.string s,.agg #[.int .i64 a,.int .i64 b],.agg #[.int .i64 c,.int .i64 d]] W fun e w'=>∃ev,e=.returned (.tuple #[ev,.int .i64 o.err])/\KU w w' bt o.ks/\w'.ownsRow 0 60 2 ev o.evs.length (qam o.evs)/\(∀b,ev.ownBlock=some b->W.heap.size<=b):=by
 obtain⟨h0,P,h1,h2⟩:=h;subst ho
 refine(qwx h1 s hs a b c d).mono ?_
 rintro e w' ⟨ev,rfl,g⟩
 exact⟨ev,rfl,KU.step h0 h2 g⟩
theorem qik(h:KU w W bt k)(hc:k.cnt<=1999999)(s:ByteArray)(hs:s.size<=2000000)(a b:Int){o:Out}(ho:k.qbk (bl s) a b=o)(he:errS k.L k.Ws (bl s) (qao a b)=0):
  Calls prog 32 #[.pointer (some ⟨bt,0,none⟩),.string s,.agg #[.int .i64 a,.int .i64 b]] W fun e w'=>∃ev,e=.returned (.tuple #[.int .i64 (k.cnt+1),ev,.int .i64 0])/\KU w w' bt o.ks/\w'.ownsRow 0 60 2 ev o.evs.length (qam o.evs)/\(∀b,ev.ownBlock=some b->W.heap.size<=b):=by
 obtain⟨h0,P,h1,h2⟩:=h;subst ho
 refine(qlh h1 hc s hs a b).mono ?_
 rintro e w' ⟨ev,rfl,g⟩
 rw[he,if_pos rfl]
 exact⟨ev,rfl,KU.step h0 h2 g⟩
theorem qwh(h:KU w W bt k)(m:Int){o:Out}(ho:k.finish m=o):
  Calls prog 28 #[.pointer (some ⟨bt,0,none⟩),.int .i64 m] W fun e w'=>∃ev,e=.returned (.tuple #[ev,.int .i64 o.err])/\KU w w' bt o.ks/\w'.ownsRow 0 60 2 ev o.evs.length (qam o.evs)/\(∀b,ev.ownBlock=some b->W.heap.size<=b):=by
 obtain⟨h0,P,h1,h2⟩:=h;subst ho
 refine(qpg h1 m).mono ?_
 rintro e w' ⟨ev,rfl,g⟩
 exact⟨ev,rfl,KU.step h0 h2 g⟩
theorem qui(h:KU w W bt k)(s:ByteArray)(hs:s.size<=2000000)(a b c d:Int){o:Out}(ho:k.qbb (bl s) a b c d=o):
  Calls prog 29 #[.pointer (some ⟨bt,0,none⟩),.string s,.agg #[.int .i64 a,.int .i64 b],.agg #[.int .i64 c,.int .i64 d]] W fun e w'=>∃ev,e=.returned (.tuple #[ev,.int .i64 o.err])/\KU w w' bt o.ks/\w'.ownsRow 0 60 2 ev o.evs.length (qam o.evs)/\(∀b,ev.ownBlock=some b->W.heap.size<=b):=by
 obtain⟨h0,P,h1,h2⟩:=h;subst ho
 refine(qs3 h1 s hs a b c d).mono ?_
 rintro e w' ⟨ev,rfl,g⟩
 exact⟨ev,rfl,KU.step h0 h2 g⟩
theorem qwi(h:KU w W bt k)(s:ByteArray)(hs:s.size<=2000000){o:Out}(ho:k.remove (bl s)=o):
  Calls prog 31 #[.pointer (some ⟨bt,0,none⟩),.string s] W fun e w'=>∃ev,e=.returned (.tuple #[ev,.int .i64 o.err])/\KU w w' bt o.ks/\w'.ownsRow 0 60 2 ev o.evs.length (qam o.evs)/\(∀b,ev.ownBlock=some b->W.heap.size<=b):=by
 obtain⟨h0,P,h1,h2⟩:=h;subst ho
 refine(qvi h1 s hs).mono ?_
 rintro e w' ⟨ev,rfl,g⟩
 exact⟨ev,rfl,KU.step h0 h2 g⟩
theorem qzu(h:KU w W bt k)(s s2:ByteArray)(hs:s.size<=2000000)(dW:s2.size<=2000000){o:Out}(ho:k.move (bl s) (bl s2)=o):
  Calls prog 30 #[.pointer (some ⟨bt,0,none⟩),.string s,.string s2] W fun e w'=>∃ev,e=.returned (.tuple #[ev,.int .i64 o.err])/\KU w w' bt o.ks/\w'.ownsRow 0 60 2 ev o.evs.length (qam o.evs)/\(∀b,ev.ownBlock=some b->W.heap.size<=b):=by
 obtain⟨h0,P,h1,h2⟩:=h;subst ho
 refine(qs2 h1 s s2 hs dW).mono ?_
 rintro e w' ⟨ev,rfl,g⟩
 exact⟨ev,rfl,KU.step h0 h2 g⟩
theorem qx7(h:KU w W bt k)(s:ByteArray)(hs:s.size<=2000000){x:Ent}(hv:qar (bl s)=true)(hx:qeq k.L (qac (bl s))=some x):
  Calls prog 34 #[.pointer (some ⟨bt,0,none⟩),.string s] W fun e w'=>∃v,e=.returned (.tuple #[.agg (k.told x v),.int .i64 0])/\KU w w' bt k/\w'.ownsRow 0 3 1 v (k.waits x).length (qjb (k.waits x))/\Below W.heap.size W w':=by
 obtain⟨h0,P,h1,h2⟩:=h
 refine(qn5 h1 s hs hv hx).mono ?_
 rintro e w' ⟨v,rfl,g1,g2,g3⟩
 exact⟨v,rfl,KU.below ⟨h0,P,h1,h2⟩ g2,g1,g2⟩
theorem qzv(w W:World)(h0:Below w.heap.size w W):Calls prog 38 #[] W fun e w'=>∃bt,e=.returned (.pointer (some ⟨bt,0,none⟩))/\KU w w' bt ⟨[⟨[],false,0,0,0,0⟩],[],0,0⟩:=by
 refine(qyy W).mono ?_
 rintro e w' ⟨bt,P,rfl,h1,h2,h3⟩
 have hz:=h0.size
 exact⟨bt,rfl,qab h0 h3,P,h1,fun b hb=>by have:=h2 b hb;omega⟩
end
structure KR where
 k:KS
 paths:List (List Bs)
 works:List KW
 qav:Int
 last:List (Int×Int)
def qfl (l:List (List Bs)):List Value:=l.map fun p=>.string (sb (qaa p))
structure RunM (F:Nat->Prop) (W:World) (rb:Nat) (R:KR) (P:Nat->Prop) (bt:Nat) (vp vw vl:Value):Prop where
 tw:KT P W bt R.k
 at_:Blk W rb 50 #[.pointer (some ⟨bt,0,none⟩),vp,vw,.int .i64 R.qav,vl]
 prow:W.ownsRow 0 9 1 vp R.paths.length (qfl R.paths)
 wrow:W.ownsRow 0 41 6 vw R.works.length (qak R.works)
 lrow:W.ownsRow 0 60 2 vl R.last.length (qam R.last)
 nP:∀b,(b=rb\/vp.ownBlock=some b\/vw.ownBlock=some b\/vl.ownBlock=some b)->¬P b
 lo:∀b,(P b\/b=rb\/vp.ownBlock=some b\/vw.ownBlock=some b\/vl.ownBlock=some b)->¬F b
 fo:∀b,F b->b<W.heap.size
 ne:vp.ownBlock≠some rb/\vw.ownBlock≠some rb/\vl.ownBlock≠some rb
 pw:∀b,vp.ownBlock=some b->vw.ownBlock≠some b/\vl.ownBlock≠some b
 wl:∀b,vw.ownBlock=some b->vl.ownBlock≠some b
def qau (F:Nat->Prop)(W:World)(rb:Nat)(R:KR):Prop:=∃P bt vp vw vl,RunM F W rb R P bt vp vw vl
section
variable {F:Nat->Prop}{W w':World}{rb:Nat}{R:KR}{P:Nat->Prop}{bt:Nat}{vp vw vl:Value}
theorem RunM.keep(h:RunM F W rb R P bt vp vw vl)(hk:Keep T W w')(hT:∀b,(P b\/b=rb\/vp.ownBlock=some b\/vw.ownBlock=some b\/vl.ownBlock=some b)->¬T b):RunM F w' rb R P bt vp vw vl :=
 ⟨h.tw.keep hk (fun b hb=>hT b (.inl hb)),h.at_.keep hk (hT rb (.inr (.inl rfl))),qaf h.prow hk (fun b hb=>hT b (.inr (.inr (.inl hb)))),qaf h.wrow hk (fun b hb=>hT b (.inr (.inr (.inr (.inl hb))))),qaf h.lrow hk (fun b hb=>hT b (.inr (.inr (.inr (.inr hb))))),h.nP,h.lo,fun b hb=>xrg (h.fo b hb) hk.size,h.ne,h.pw,h.wl⟩
theorem RunM.below(h:RunM F W rb R P bt vp vw vl)(hb:Below W.heap.size W w'):RunM F w' rb R P bt vp vw vl:=h.keep (T:=fun _=>False) (Keep.new hb) (fun _ _ h=>h)
theorem qau.below(h:qau F W rb R)(hb:Below W.heap.size W w'):qau F w' rb R:=by
 obtain⟨P,bt,vp,vw,vl,h⟩:=h
 exact⟨P,bt,vp,vw,vl,h.below hb⟩
theorem RunM.size(h:RunM F W rb R P bt vp vw vl):¬F rb/\rb<W.heap.size:=⟨h.lo rb (.inr (.inl rfl)),h.at_.lt⟩
theorem qau.more(h:qau F W rb R)(hb:Below W.heap.size W w')(hG:∀b,G b->F b\/(W.heap.size<=b/\b<w'.heap.size)):qau G w' rb R:=by
 obtain⟨P,bt,vp,vw,vl,h⟩:=h;have h2:=h.below hb;have ak:∀b,(P b\/b=rb\/vp.ownBlock=some b\/vw.ownBlock=some b\/vl.ownBlock=some b)->b<W.heap.size:=fun b hb=>by
  rcases hb with hb|rfl|hb|hb|hb
  ·exact h.tw.lt b hb
  ·exact h.at_.lt
  ·exact qap h.prow hb
  ·exact qap h.wrow hb
  ·exact qap h.lrow hb
 refine⟨P,bt,vp,vw,vl,h2.tw,h2.at_,h2.prow,h2.wrow,h2.lrow,h2.nP,fun b hb e=>?_,fun b hb=>?_,h2.ne,h2.pw,h2.wl⟩
 ·rcases hG b e with e|e
  ·exact h.lo b hb e
  ·have:=ak b hb;omega
 ·rcases hG b hb with e|e
  ·exact h2.fo b e
  ·exact e.2
theorem qau.less(h:qau F W rb R)(hG:∀b,G b->F b):qau G W rb R:=by
 obtain⟨P,bt,vp,vw,vl,h⟩:=h
 exact⟨P,bt,vp,vw,vl,h.tw,h.at_,h.prow,h.wrow,h.lrow,h.nP,fun b hb e=>h.lo b hb (hG b e),fun b hb=>h.fo b (hG b hb),h.ne,h.pw,h.wl⟩
theorem RunM.called(h:RunM F W rb R P bt vp vw vl){o:Out}(ho:KOut P W bt o ev w'):∃P',RunM F w' rb {R with k:=o.ks} P' bt vp vw vl/\w'.ownsRow 0 60 2 ev o.evs.length (qam o.evs)/\(∀b,ev.ownBlock=some b->W.heap.size<=b/\¬P' b)/\Keep (fun b=>¬F b) W w':=by
 obtain⟨P',g1,g2,g3,g4,g5⟩:=ho;have hz:=h.size;have fq:=g5.size;have ak:∀b,(b=rb\/vp.ownBlock=some b\/vw.ownBlock=some b\/vl.ownBlock=some b)->b<W.heap.size:=fun b hb=>by
  rcases hb with rfl|hb|hb|hb
  ·exact hz.2
  ·exact qap h.prow hb
  ·exact qap h.wrow hb
  ·exact qap h.lrow hb
 refine⟨P',⟨g1,h.at_.keep g5 (h.nP rb (.inl rfl)),qaf h.prow g5 (fun b hb=>h.nP b (.inr (.inl hb))),qaf h.wrow g5 (fun b hb=>h.nP b (.inr (.inr (.inl hb)))),qaf h.lrow g5 (fun b hb=>h.nP b (.inr (.inr (.inr hb)))),fun b hb e=>h.nP b hb ((g2 b (ak b hb)).1 e),fun b hb=>?_,fun b hb=>xrg (h.fo b hb) fq,h.ne,h.pw,h.wl⟩,g3,g4,g5.mono (fun b e=>h.lo b (.inl e))⟩
 rcases hb with hb|hb
 ·by_cases dk:b<W.heap.size
  ·exact h.lo b (.inl ((g2 b dk).1 hb))
  ·exact fun e=>dk (h.fo b e)
 ·exact h.lo b (.inr hb)
theorem RunM.tk(h:RunM F W rb R P bt vp vw vl):TkAt W rb (.pointer (some ⟨bt,0,none⟩)) vp vw vl R.works R.qav W:=⟨h.at_,h.wrow,h.ne.2.1,Keep.refl _ _⟩
theorem RunM.took(h:RunM F W rb R P bt vp vw vl)(hr:W.ownsRow 0 60 2 ev evs.length (qam evs))(aW:∀b,ev.ownBlock=some b->¬F b/\¬P b/\b≠rb/\vp.ownBlock≠some b/\vw.ownBlock≠some b){an:List KW}(ht:TkAt W rb (.pointer (some ⟨bt,0,none⟩)) vp vw ev an bU w'):
  RunM F w' rb ⟨R.k,R.paths,an,bU,evs⟩ P bt vp vw ev/\Keep (fun b=>¬F b) W w':=by
 have hT:∀b,(fun b=>b=rb\/vw.ownBlock=some b) b->¬F b/\¬P b:=fun b hb=>by
  rcases hb with rfl|hb
  ·exact⟨h.lo b (.inr (.inl rfl)),h.nP b (.inl rfl)⟩
  ·exact⟨h.lo b (.inr (.inr (.inr (.inl hb)))),h.nP b (.inr (.inr (.inl hb)))⟩
 refine⟨⟨h.tw.keep ht.keep (fun b hb e=>(hT b e).2 hb),ht.at_,qaf h.prow ht.keep (fun b hb e=>?_),ht.row,qaf hr ht.keep (fun b hb e=>?_),fun b hb=>?_,fun b hb=>?_,fun b hb=>xrg (h.fo b hb) ht.keep.size,⟨h.ne.1,h.ne.2.1,fun e=>(aW rb e).2.2.1 rfl⟩,fun b hb=>⟨(h.pw b hb).1,fun e=>(aW b e).2.2.2.1 hb⟩,fun b hb e=>(aW b e).2.2.2.2 hb⟩,ht.keep.mono (fun b e=>(hT b e).1)⟩
 ·rcases e with rfl|e
  ·exact h.ne.1 hb
  ·exact(h.pw b hb).1 e
 ·rcases e with rfl|e
  ·exact(aW b hb).2.2.1 rfl
  ·exact(aW b hb).2.2.2.2 e
 ·rcases hb with hb|hb|hb|hb
  ·exact h.nP b (.inl hb)
  ·exact h.nP b (.inr (.inl hb))
  ·exact h.nP b (.inr (.inr (.inl hb)))
  ·exact(aW b hb).2.1
 ·rcases hb with hb|hb|hb|hb|hb
  ·exact h.lo b (.inl hb)
  ·exact h.lo b (.inr (.inl hb))
  ·exact h.lo b (.inr (.inr (.inl hb)))
  ·exact h.lo b (.inr (.inr (.inr (.inl hb))))
  ·exact(aW b hb).1
theorem RunM.takes(h:RunM F W rb R P bt vp vw vl)(hr:W.ownsRow 0 60 2 ev evs.length (qam evs))(aW:∀b,ev.ownBlock=some b->¬F b/\¬P b/\b≠rb/\vp.ownBlock≠some b/\vw.ownBlock≠some b)(hn:R.works.length<=24)(hm:evs.length<=1000)(cJ:0<=R.qav/\R.qav<=1000000){an:List KW}(db:qdj (R.works,R.qav) evs=some (an,bU)):
  Calls prog 48 #[.pointer (some ⟨rb,0,none⟩),ev] W fun e w'=>e=.returned (.bool true)/\RunM F w' rb ⟨R.k,R.paths,an,bU,evs⟩ P bt vp vw ev/\Keep (fun b=>¬F b) W w':=by
 obtain⟨al,cl,rfl,_,_⟩:=qa7 hr
 refine(qrn h.tk hr (fun b hb=>⟨(aW b hb).2.2.1,(aW b hb).2.2.2.2⟩) hn hm cJ db).mono ?_
 rintro e w' ⟨rfl,ht⟩
 exact⟨rfl,h.took hr aW ht⟩
theorem RunM.path(h:RunM F W rb R P bt vp vw vl){p:List Bs}(hp:R.paths[i]?=some p):∃g c,vp=.slice (some ⟨g,0,none⟩) R.paths.length c/\g<W.heap.size/\g≠rb/\R.paths.length<=c/\c<=maxLen/\W.cell? ⟨g,i,none⟩=some (.string (sb (qaa p))):=by
 have ak:=(xr0.1 hp).1;obtain⟨g,c,rfl,h1,h2⟩:=qa9 h.prow (by omega)
 have:=h.prow.cells (g:=g) rfl i (.string (sb (qaa p))) (by unfold qfl;rw[xrs,hp];rfl)
 rw[Addr.add_lit,Nat.zero_add]at this
 exact⟨g,c,rfl,qap h.prow rfl,fun e=>h.ne.1 (by rw[<-e];rfl),h1,h2,this⟩
end
theorem un47:prog.underlying 47=some (.slice 41):=by kernel_rfl
theorem i41a:(prog.info? 41).map (fun i=>(i.size,i.bytes))=some (6,48):=by kernel_rfl
theorem i41b:(prog.info? 41).bind (fun i=>i.zero)=some (.agg #[.int .i64 0,.int .i64 0,.int .i64 0,.int .i64 0,.bool false,.int .i64 0]):=by kernel_rfl
theorem qxn:qfa 41 6 48:=qge i41a i41b rfl
section
variable {F:Nat->Prop}{W w':World}{rb:Nat}{R:KR}{P:Nat->Prop}{bt:Nat}{vp vw vl:Value}
theorem RunM.more(h:RunM F W rb R P bt vp vw vl)(hn:R.works.length<=24)(x:KW)(nb:Nat)(dI:Blk W nb 41 #[.int .i64 x.num,.int .i64 x.leaf,.int .i64 x.d0,.int .i64 x.d1,.bool x.inn,.int .i64 x.qav]):
  ∃v' w',(∀ty,(Builtin.append_ #[47,47] ty #[vw,.slice (some ⟨nb,0,none⟩) 1 1]).run prog W=.ok v' w')/\∃g' av,v'=.slice (some ⟨g',0,none⟩) (R.works.length+1) av/\Blk w' rb 50 #[.pointer (some ⟨bt,0,none⟩),vp,vw,.int .i64 R.qav,vl]/\Hid (RunM F (w'.setCell ⟨rb,2,none⟩ v') rb {R with works:=R.works++[x]} P bt vp v' vl/\Keep (fun b=>b=rb\/vw.ownBlock=some b) W (w'.setCell ⟨rb,2,none⟩ v')/\∀b,v'.ownBlock=some b->vw.ownBlock=some b\/W.heap.size<=b):=by
 obtain⟨v',w',hr,g',av,rfl,A⟩:=qey un47 qxn (by omega) W _ R.works.length (qak R.works) h.wrow nb 1 1 (by omega) (qak [x]) rfl (by simpa [qak,qbz] using dI) (qn7 _) (by unfold maxLen;omega) (by omega);have hz:=h.size;have wW:¬(vw.ownBlock=some rb):=h.ne.2.1;have bh:=h.at_.keep A.keep wW;have ak:∀b,(P b\/b=rb\/vp.ownBlock=some b\/vl.ownBlock=some b)->b<W.heap.size:=fun b hb=>by
  rcases hb with hb|rfl|hb|hb
  ·exact h.tw.lt b hb
  ·exact hz.2
  ·exact qap h.prow hb
  ·exact qap h.lrow hb
 have kr:∀b,(P b\/b=rb\/vp.ownBlock=some b\/vl.ownBlock=some b)->¬(vw.ownBlock=some b):=fun b hb e=>by
  rcases hb with hb|rfl|hb|hb
  ·exact h.nP b (.inr (.inr (.inl e))) hb
  ·exact h.ne.2.1 e
  ·exact(h.pw b hb).1 e
  ·exact h.wl b e hb
 have cd:∀b,(P b\/b=rb\/vp.ownBlock=some b\/vl.ownBlock=some b)->b≠g':=fun b hb e=>by
  subst e
  rcases A.new with e2|e2
  ·exact kr b hb e2
  ·have:=ak b hb;omega
 have oR:¬F g':=by
  rcases A.new with e2|e2
  ·exact h.lo g' (.inr (.inr (.inr (.inl e2))))
  ·exact fun e=>by have:=h.fo g' e;omega
 have hk:Keep (fun b=>b=rb\/vw.ownBlock=some b) W (w'.setCell ⟨rb,2,none⟩ (.slice (some ⟨g',0,none⟩) (R.works.length+1) av)):=(A.keep.mono (fun b e=>.inr e)).setCell (p:=⟨rb,2,none⟩) (.inl rfl) _
 refine⟨_,w',hr,g',av,rfl,bh,⟨?_,?_,?_,?_,?_,?_,?_,fun b hb=>xrg (h.fo b hb) hk.size,?_,?_,?_⟩,?_,?_⟩
 ·exact h.tw.keep hk (fun b hb e=>by rcases e with rfl|e;exact h.nP b (.inl rfl) hb;exact kr b (.inl hb) e)
 ·have:=bh.set 2 (.slice (some ⟨g',0,none⟩) (R.works.length+1) av);simpa using this
 ·exact qaf h.prow hk (fun b hb e=>by rcases e with rfl|e;exact h.ne.1 hb;exact(h.pw b hb).1 e)
 ·simp only[List.length_append,List.length_cons,List.length_nil];rw[qfi]
  exact xrl A.own (fun e=>by simp[Value.ownBlock]at e;exact cd rb (.inr (.inl rfl)) e.symm) _
 ·exact qaf h.lrow hk (fun b hb e=>by rcases e with rfl|e;exact h.ne.2.2 hb;exact h.wl b e hb)
 ·intro b hb
  rcases hb with hb|hb|hb|hb
  ·exact h.nP b (.inl hb)
  ·exact h.nP b (.inr (.inl hb))
  ·simp[Value.ownBlock]at hb;subst hb;exact fun e=>cd _ (.inl e) rfl
  ·exact h.nP b (.inr (.inr (.inr hb)))
 ·intro b hb
  rcases hb with hb|hb|hb|hb|hb
  ·exact h.lo b (.inl hb)
  ·exact h.lo b (.inr (.inl hb))
  ·exact h.lo b (.inr (.inr (.inl hb)))
  ·simp[Value.ownBlock]at hb;subst hb;exact oR
  ·exact h.lo b (.inr (.inr (.inr (.inr hb))))
 ·exact⟨h.ne.1,fun e=>by simp[Value.ownBlock]at e;exact cd rb (.inr (.inl rfl)) e.symm,h.ne.2.2⟩
 ·exact fun b hb=>⟨fun e=>by simp[Value.ownBlock]at e;exact cd b (.inr (.inr (.inl hb))) e.symm,(h.pw b hb).2⟩
 ·exact fun b hb e=>by simp[Value.ownBlock]at hb;exact cd b (.inr (.inr (.inr e))) hb.symm
 ·exact hk
 ·intro b hb
  simp[Value.ownBlock]at hb
  subst hb
  exact A.new
theorem qxs(h:qau F W rb R){leaf:Nat}{p:List Bs}(hp:R.paths[leaf]?=some p)(dg:(sb (qaa p)).size<=2000000)(dU:R.paths.length<=100)(a b:Int)(he:errS R.k.L R.k.Ws (qaa p) (qao a b)=0)(a9:R.works.length<24)(eK:0<=R.k.cnt/\R.k.cnt<=1999999)(cJ:0<=R.qav/\R.qav<=1000000)
  {o:Out} (ho:R.k.qbk (qaa p) a b=o) (hm:o.evs.length<=1000) {an:List KW} (db:qdj (R.works++[⟨R.k.cnt+1,leaf,a,b,false,0⟩],R.qav) o.evs=some (an,bU)) :
  Calls prog 24 #[.pointer (some ⟨rb,0,none⟩),.int .i64 leaf,.agg #[.int .i64 a,.int .i64 b]] W fun e w'=>e=.returned (.bool true)/\qau F w' rb ⟨o.ks,R.paths,an,bU,o.evs⟩/\Keep (fun b=>¬F b) W w':=by
 obtain⟨P,bt,vp,vw,vl,h⟩:=h;obtain⟨gp,cp,cu,bK,eL,b_,cO,q0⟩:=h.path hp;have mZ:=(xr0.1 hp).1;obtain⟨aw,cw,cV,fX,jE⟩:=qa7 h.wrow;have hz:=h.size;have gG:=h.tw.lt;have aD:∀Wx,Below W.heap.size W Wx->Blk Wx W.heap.size 35 #[.int .i64 a,.int .i64 b]->Calls prog 32 #[.pointer (some ⟨bt,0,none⟩),.string (sb (qaa p)),.agg #[.int .i64 a,.int .i64 b]] Wx fun e w1=>∃a1 c1 P1,e=.returned (.tuple #[.int .i64 (R.k.cnt+1),.slice a1 o.evs.length c1,.int .i64 0])/\Blk w1 rb 50 #[.pointer (some ⟨bt,0,none⟩),vp,vw,.int .i64 R.qav,vl]/\w1.cell? ⟨gp,leaf,none⟩=some (.string (sb (qaa p)))/\Blk w1 W.heap.size 35 #[.int .i64 a,.int .i64 b] /\
   Hid (RunM F w1 rb {R with k:=o.ks} P1 bt vp vw vl/\w1.ownsRow 0 60 2 (.slice a1 o.evs.length c1) o.evs.length (qam o.evs)/\(∀b,(Value.slice a1 o.evs.length c1).ownBlock=some b->W.heap.size<=b/\¬P1 b)/\Keep (fun b=>¬F b) W w1/\W.heap.size<=w1.heap.size):=fun Wx hb hB=>by
  have hx:=h.below hb
  refine(qlh hx.tw eK.2 (sb (qaa p)) dg a b).mono ?_
  rw[qbs,he,ho]
  rintro e w1 ⟨ev,rfl,hO⟩
  obtain⟨P1,g1,g2,g3,g4⟩:=hx.called hO;obtain⟨a1,c1,rfl,_,_⟩:=qa7 g2;obtain⟨_,_,e1,_,_,_,_,q1⟩:=g1.path (i:=leaf) (p:=p) hp;have lV:=cu.symm.trans e1;injection lV with e2;injection e2 with e2;injection e2 with e2;subst e2;obtain⟨_,_,_,_,_,k5⟩:=hO
  exact⟨a1,c1,P1,by rw[if_pos rfl],g1.at_,q1,hB.keep k5 (fun e=>by have:=gG _ e;omega),g1,g2,fun b bh=>⟨Nat.le_trans hb.size (g3 b bh).1,(g3 b bh).2⟩,(Keep.new hb).trans g4,Nat.le_trans hb.size k5.size⟩
 have cB:∀(w1 Wx:World) (P1:Nat->Prop) (nb:Nat),Hid (RunM F w1 rb {R with k:=o.ks} P1 bt vp vw vl)->Below w1.heap.size w1 Wx->Blk Wx nb 41 #[.int .i64 (R.k.cnt+1),.int .i64 leaf,.int .i64 a,.int .i64 b,.bool false,.int .i64 0]->∃v' w',(∀ty,(Builtin.append_ #[47,47] ty #[vw,.slice (some ⟨nb,0,none⟩) 1 1]).run prog Wx=.ok v' w')/\∃g' av,v'=.slice (some ⟨g',0,none⟩) (R.works.length+1) av/\Blk w' rb 50 #[.pointer (some ⟨bt,0,none⟩),vp,vw,.int .i64 R.qav,vl]/\Hid (RunM F (w'.setCell ⟨rb,2,none⟩ v') rb ⟨o.ks,R.paths,R.works++[⟨R.k.cnt+1,leaf,a,b,false,0⟩],R.qav,R.last⟩ P1 bt vp v' vl/\Keep (fun b=>b=rb\/vw.ownBlock=some b) Wx (w'.setCell ⟨rb,2,none⟩ v')/\∀b,v'.ownBlock=some b->vw.ownBlock=some b\/Wx.heap.size<=b) :=
  fun w1 Wx P1 nb hR hb hB=>(hR.out.below hb).more (by simp only;omega) ⟨R.k.cnt+1,leaf,a,b,false,0⟩ nb hB
 have ny:∀(w2:World) (P1:Nat->Prop) (v':Value) (a1:Option Addr) (c1:Nat),Hid (RunM F w2 rb ⟨o.ks,R.paths,R.works++[⟨R.k.cnt+1,leaf,a,b,false,0⟩],R.qav,R.last⟩ P1 bt vp v' vl)->Hid (w2.ownsRow 0 60 2 (.slice a1 o.evs.length c1) o.evs.length (qam o.evs)/\∀b,(Value.slice a1 o.evs.length c1).ownBlock=some b->¬F b/\¬P1 b/\b≠rb/\vp.ownBlock≠some b/\v'.ownBlock≠some b)->Calls prog 48 #[.pointer (some ⟨rb,0,none⟩),.slice a1 o.evs.length c1] w2 fun e w3=>e=.returned (.bool true)/\Hid (qau F w3 rb ⟨o.ks,R.paths,an,bU,o.evs⟩/\Keep (fun b=>¬F b) w2 w3):=fun w2 P1 v' a1 c1 hR hr=>by
  refine(hR.out.takes hr.out.1 hr.out.2 (by simp;omega) hm cJ db).mono ?_
  rintro e w3 ⟨rfl,g1,g2⟩
  exact⟨rfl,⟨_,_,_,_,_,g1⟩,g2⟩
 have HF:Hid (∀(w1 Wx W2:World) (P1:Nat->Prop) (a1:Option Addr) (c1:Nat) (v':Value),(RunM F w1 rb {R with k:=o.ks} P1 bt vp vw vl/\w1.ownsRow 0 60 2 (.slice a1 o.evs.length c1) o.evs.length (qam o.evs)/\(∀b,(Value.slice a1 o.evs.length c1).ownBlock=some b->W.heap.size<=b/\¬P1 b)/\Keep (fun b=>¬F b) W w1/\W.heap.size<=w1.heap.size)->Below w1.heap.size w1 Wx->Keep (fun b=>b=rb\/vw.ownBlock=some b) Wx W2->(∀b,v'.ownBlock=some b->vw.ownBlock=some b\/Wx.heap.size<=b)->Hid (W2.ownsRow 0 60 2 (.slice a1 o.evs.length c1) o.evs.length (qam o.evs)/\∀b,(Value.slice a1 o.evs.length c1).ownBlock=some b->¬F b/\¬P1 b/\b≠rb/\vp.ownBlock≠some b/\v'.ownBlock≠some b)/\Keep (fun b=>¬F b) W W2):=by
  intro w1 Wx W2 P1 a1 c1 v' ⟨g1,g2,g3,g4,g5⟩ hb hk dd;have ob:∀b,vw.ownBlock=some b->¬F b/\b<W.heap.size:=fun b hb=>⟨h.lo b (.inr (.inr (.inr (.inl hb)))),qap h.wrow hb⟩
  refine⟨⟨qaf (qfq g2 hb) hk (fun b bh e=>?_),fun b bh=>?_⟩,(g4.trans (Keep.new hb)).trans (hk.mono (fun b e=>?_))⟩
  ·have:=(g3 b bh).1
   rcases e with rfl|e
   ·omega
   ·have:=(ob b e).2;omega
  ·have h1:=g3 b bh;have h2:=qap g2 bh
   refine⟨fun e=>by have:=h.fo b e;omega,h1.2,by omega,fun e=>?_,fun e=>?_⟩
   ·have:=qap h.prow e;omega
   ·rcases dd b e with e2|e2
    ·have:=(ob b e2).2;omega
    ·have:=hb.size;omega
  ·rcases e with rfl|e
   ·exact hz.1
   ·exact(ob b e).1
 have b0:Blk (W.alloc (.cells #[.int .i64 a,.int .i64 b] 35)) W.heap.size 35 #[.int .i64 a,.int .i64 b]:=Blk.new W 35 _;have c0:=h.at_.cell 0;have c1:=h.at_.cell 1;simp only[xq0,xq1,xq2]at c0 c1;rw[cu]at c1;have sV:=World.new_ne W _ c0;have sY:=World.new_ne W _ c1;have s_:=World.new_ne W _ q0;have fF:(leaf:Int)<R.paths.length:=by omega
 have jJ:(0:Int)<=leaf:=by omega
 have DL:Hid (∀b,vp.ownBlock=some b->b<W.heap.size):=fun b hb=>qap h.prow hb
 have DM:Hid (∀b,vw.ownBlock=some b->b<W.heap.size):=fun b hb=>qap h.wrow hb
 generalize R.paths.length=np at *;obtain⟨n,hn⟩:∃n,n=R.works.length:=⟨_,rfl⟩;rw[<-hn]at cV fX a9 cB;clear hn db hm he ho h hp
 go_enter func24,ntmps24
 go_upto_region 1 with fail
 go_region_held3 (fun w'=>w'.cell? ⟨rb,0,none⟩=some (.pointer (some ⟨bt,0,none⟩))/\w'.cell? ⟨rb,1,none⟩=some (.slice (some ⟨gp,0,none⟩) np cp)/\w'.cell? ⟨gp,leaf,none⟩=some (.string (sb (qaa p)))/\w'.cell? ⟨W.heap.size,0,none⟩=some (.int .i64 a)/\w'.cell? ⟨W.heap.size,1,none⟩=some (.int .i64 b)) (go_keep)
  (first
   |(go_at_call 32;refine(aD _ ?_ ?_).mono ?_;(focus exact bel2);(focus exact blk2);rintro e w1 ⟨a1,dr,P1,rfl,bL,dV,jB,dQ⟩;have d0:=bL.cell 0;have d1:=bL.cell 1;have d2:=bL.cell 2;have d3:=jB.cell 0;have d4:=jB.cell 1;simp only[xq0,xq1,xq2]at d0 d1 d2 d3 d4;rw[cu]at d1;rw[cV]at d2))
 have zr:¬((n:Int)=24):=by omega
 have zb:(0:Int)<R.k.cnt+1:=by omega
 have eI:Hid (RunM F w1 rb {R with k:=o.ks} P1 bt vp vw vl):=dQ.out.1;have Bx:=jB.lt;have Cs:=bL.lt;clear c0 c1 sV sY s_ b0 aD q0
 go_upto_region 4 with fail
 have ow:=fun Wx nb=>cB w1 Wx P1 nb eI
 clear cB eI;rw[cV]at ow
 go_region_law (refine qa8 rfl (.tmp 49) (.tmp 54) 47 47 rfl _ _ ?_ ?_ (ow _ w1.heap.size ?_ ?_) ?_;(focus (simp[Act.eval,Act.put]));(focus ((try simp[Act.eval,Act.put]);(try rfl)));(focus exact bel2);(focus exact blk2);rintro v' wA ⟨g',av,rfl,eD,aF⟩;have B9:=eD.cell 2;have Es:=eD.frozen 2;simp only[xq0,xq1,xq2]at B9)
 all_goals have aY:=aF.out.2.1
 all_goals have et:=aF.out.2.2
 all_goals rw[<-cV]at aY et
 all_goals obtain⟨Cq,aP⟩:=HF.out w1 _ _ P1 a1 dr _ dQ.out (by exact bel2) aY et
 all_goals clear aY et
 all_goals clear ow HF
 all_goals go_wp2_with (go_at_call 48;refine(ny _ P1 _ a1 dr aF.out.1 Cq).mono ?_;rintro e w3 ⟨rfl,aV⟩)
 all_goals go_ret
 all_goals exact⟨rfl,aV.out.1,aP.trans aV.out.2⟩
end
section
variable {F:Nat->Prop}{W w':World}{rb:Nat}{R:KR}
theorem qmt(h:qau F W rb R){leaf:Nat}{p:List Bs}(hp:R.paths[leaf]?=some p)(dg:(sb (qaa p)).size<=2000000)(dU:R.paths.length<=100)(a b:Int)(he:errS R.k.L R.k.Ws (qaa p) (qao a b)=7)(a9:R.works.length=24)(eK:R.k.cnt<=1999999):
  Calls prog 24 #[.pointer (some ⟨rb,0,none⟩),.int .i64 leaf,.agg #[.int .i64 a,.int .i64 b]] W fun e w'=>e=.returned (.bool true)/\qau F w' rb R/\Keep (fun b=>¬F b) W w':=by
 obtain⟨P,bt,vp,vw,vl,h⟩:=h;obtain⟨gp,cp,cu,bK,eL,b_,cO,q0⟩:=h.path hp;have mZ:=(xr0.1 hp).1;obtain⟨aw,cw,cV,fX,jE⟩:=qa7 h.wrow;have hz:=h.size;have gG:=h.tw.lt;have ho:R.k.qbk (qaa p) a b=R.k.same 7:=by unfold KS.qbk;rw[he];rfl
 have aD:∀Wx,Below W.heap.size W Wx->Blk Wx W.heap.size 35 #[.int .i64 a,.int .i64 b]->Calls prog 32 #[.pointer (some ⟨bt,0,none⟩),.string (sb (qaa p)),.agg #[.int .i64 a,.int .i64 b]] Wx fun e w1=>∃a1 c1,e=.returned (.tuple #[.int .i64 0,.slice a1 0 c1,.int .i64 7])/\Blk w1 rb 50 #[.pointer (some ⟨bt,0,none⟩),vp,vw,.int .i64 R.qav,vl]/\w1.cell? ⟨gp,leaf,none⟩=some (.string (sb (qaa p)))/\Blk w1 W.heap.size 35 #[.int .i64 a,.int .i64 b] /\
   Hid (qau F w1 rb R/\Keep (fun b=>¬F b) W w1):=fun Wx hb hB=>by
  have hx:=h.below hb
  refine(qlh hx.tw eK (sb (qaa p)) dg a b).mono ?_
  rw[qbs,he,ho]
  rintro e w1 ⟨ev,rfl,hO⟩
  obtain⟨P1,g1,g2,g3,g4⟩:=hx.called hO;obtain⟨a1,c1,rfl,_,_⟩:=qa7 g2;obtain⟨_,_,e1,_,_,_,_,q1⟩:=g1.path (i:=leaf) (p:=p) hp;have lV:=cu.symm.trans e1;injection lV with e2;injection e2 with e2;injection e2 with e2;subst e2;obtain⟨_,_,_,_,_,k5⟩:=hO
  exact⟨a1,c1,rfl,g1.at_,q1,hB.keep k5 (fun e=>by have:=gG _ e;omega),⟨_,_,_,_,_,g1⟩,(Keep.new hb).trans g4⟩
 have b0:Blk (W.alloc (.cells #[.int .i64 a,.int .i64 b] 35)) W.heap.size 35 #[.int .i64 a,.int .i64 b]:=Blk.new W 35 _;have c0:=h.at_.cell 0;have c1:=h.at_.cell 1;simp only[xq0,xq1,xq2]at c0 c1;rw[cu]at c1;have sV:=World.new_ne W _ c0;have sY:=World.new_ne W _ c1;have s_:=World.new_ne W _ q0;have fF:(leaf:Int)<R.paths.length:=by omega
 have jJ:(0:Int)<=leaf:=by omega
 generalize R.paths.length=np at *;rw[a9]at cV fX;clear he ho h hp
 go_enter func24,ntmps24
 go_upto_region 1 with fail
 go_region_held3 (fun w'=>w'.cell? ⟨rb,0,none⟩=some (.pointer (some ⟨bt,0,none⟩))/\w'.cell? ⟨rb,1,none⟩=some (.slice (some ⟨gp,0,none⟩) np cp)/\w'.cell? ⟨gp,leaf,none⟩=some (.string (sb (qaa p)))/\w'.cell? ⟨W.heap.size,0,none⟩=some (.int .i64 a)/\w'.cell? ⟨W.heap.size,1,none⟩=some (.int .i64 b)) (go_keep)
  (first
   |(go_at_call 32;refine(aD _ ?_ ?_).mono ?_;(focus exact bel2);(focus exact blk2);rintro e w1 ⟨a1,dr,rfl,bL,dV,jB,dQ⟩;have d0:=bL.cell 0;have d1:=bL.cell 1;have d2:=bL.cell 2;have d3:=jB.cell 0;have d4:=jB.cell 1;simp only[xq0,xq1,xq2]at d0 d1 d2 d3 d4;rw[cu]at d1;rw[cV]at d2))
 clear c0 c1 sV sY s_ b0 aD q0
 go_wp2_with fail
 go_ret
 exact⟨rfl,dQ.out⟩
end
end Go.Proofs.YtphclnolomgjoaaGreatDoor
