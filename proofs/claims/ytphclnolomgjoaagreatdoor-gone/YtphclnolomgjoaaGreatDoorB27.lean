import Derived.Test.YtphclnolomgjoaaGreatDoorB26
import Derived.Test.YtphclnolomgjoaaGreatDoorB20
import Derived.Defers
import Derived.Test.YtphclnolomgjoaaGreatDoorB21
set_option linter.unusedVariables false
set_option linter.unusedSimpArgs false
set_option maxRecDepth 100000
set_option maxHeartbeats 4000000
namespace Go.Proofs.YtphclnolomgjoaaGreatDoor
open Tryz
open Go.RowKit
variable {W' w:World}{n q qn r r':Node}{k':List Bs}{b i:Nat}{l:List Pw}{τ':Nat->Tag}{ar:List Node}{T:Nat->Prop}{sl x1 y1 y2 y3:Value}{a c d er:Int}
theorem qpc{p:Node}(hP:qag w p)(hQ:qag w qn){ks:List Node}(K:qf0 w p ks)(nm:Bs)(bQ:qbr nm=true)(ay:∀k∈ks,qad k.key≠nm)(cx:qad k'=nm)
  (dK:qn.blk≠p.blk) (lD:p.sl.ownBlock≠some qn.blk) (dg:p.sl.ownBlock≠some p.blk) (fk:qn.sl.ownBlock≠some qn.blk) (vE:qn.sl.ownBlock≠some p.blk) (t_:∀g,p.sl.ownBlock=some g->qn.sl.ownBlock≠some g) :
  Calls prog 82 #[.pointer (some ⟨p.blk,0,none⟩),.string (sb nm),.pointer (some ⟨qn.blk,0,none⟩)] w fun e w'=>e=.returned (.tuple #[])/\∃at_ sl,Found (ks.map fun k=>qad k.key) nm at_ false/\qag w' (p.qd4 at_ qn.blk sl)/\qag w' {qn with key:=k',up:=some p.blk}/\Keep (fun x=>x=p.blk\/x=qn.blk\/p.sl.ownBlock=some x) w w'/\(sl.ownBlock=p.sl.ownBlock\/∃g,sl.ownBlock=some g/\w.heap.size<=g):=by
 have hq:Blk w qn.blk 136 #[.string (sb (qad qn.key)),.bool qn.leaf,.int .i64 qn.n0,.int .i64 qn.n1,.int .i64 qn.b0,.int .i64 qn.b1,uptr qn.up,qn.sl]:=hQ.at_;have dq:=(qm4 hP K (sb nm)).mono (R':=fun e w'=>(∃at_:Nat,e=.returned (.tuple #[.int .i64 at_,.bool false])/\Found (ks.map fun k=>qad k.key) nm at_ false)/\w=w') (by
  rintro e w' ⟨⟨at_,th,rfl,hF⟩,rfl⟩
  rw[qbs]at hF
  cases th with
  |false=>exact⟨⟨at_,rfl,hF⟩,rfl⟩
  |true =>
   exfalso
   have h1:=hF.2.2.2.1 rfl;simp only[xrs,Option.map_eq_some_iff]at h1;obtain⟨k,cf,aY⟩:=h1
   exact ay k (xr2 cf) aY)
 have hk:=K.kids;have bm:=fun W=>qhn (sb nm) W (by rw[qco];have:=(qdr bQ).2;omega)
 have dU:=hP.lt;have jd:=hq.lt;obtain⟨uu,Cy⟩:∃uu,uu=uptr qn.up:=⟨_,rfl⟩;obtain⟨ua,sm⟩:∃ua,uptr qn.up=.pointer ua:=⟨_,rfl⟩;rw[sm]at hq;generalize sb (qad qn.key)=ss at hq;clear Cy uu
 go_enter func82,ntmps82
 go_wp2_with (first
  |(go_at_call 104;refine dq.mono ?_;rintro e w1 ⟨⟨at_,rfl,hF⟩,ck⟩;subst ck)
  |(go_at_call 129;refine(bm _).mono ?_;rintro e w1 ⟨rfl,aa⟩;have dV:=hq.below aa jd;have q0:=dV.cell 0;have q6:=dV.cell 6;have r0:=dV.frozen 0;have r6:=dV.frozen 6;have iP:=hP.below aa;have p7:w1.cell? ⟨p.blk,7,none⟩=some p.sl:=iP.cell rfl;have Dq:=iP.frozen 7))
 have fO:p.kids.length=ks.length:=by rw[hk];simp
 have rC:ks.length<=1000:=K.len;obtain⟨W2,du⟩:∃W2,W2=(w1.setCell ⟨qn.blk,0,none⟩ (.string (sb nm))).setCell ⟨qn.blk,6,none⟩ (.pointer (some ⟨p.blk,0,none⟩)):=⟨_,rfl⟩;have aY:Keep (fun x=>x=qn.blk) w1 W2:=by rw[du];exact((Keep.refl (fun x=>x=qn.blk) _).setCell (p:=⟨qn.blk,0,none⟩) rfl _).setCell (p:=⟨qn.blk,6,none⟩) rfl _
 have po:W2.heap.size=w1.heap.size:=by rw[du];simp[World.setCell]
 have gU:Blk W2 qn.blk 136 #[.string (sb nm),.bool qn.leaf,.int .i64 qn.n0,.int .i64 qn.n1,.int .i64 qn.b0,.int .i64 qn.b1,.pointer (some ⟨p.blk,0,none⟩),qn.sl]:=by
  rw[du];simpa using (dV.set 0 (.string (sb nm))).set 6 (.pointer (some ⟨p.blk,0,none⟩))
 have oi:=iP.keep aY (fun e=>dK e.symm) (fun g hg e=>lD (by rw[hg,e]));rw[<-du,<- po];have cU:Blk (W2.alloc (.cells #[.pointer (some ⟨qn.blk,0,none⟩)] 97)) W2.heap.size 97 #[nptr qn.blk]:=Blk.new W2 97 _;have gE:=oi.below (W':=W2.alloc (.cells #[.pointer (some ⟨qn.blk,0,none⟩)] 97)) ((Below.refl _ _).alloc (Nat.le_refl _) _);have rU:=gU.alloc (.cells #[.pointer (some ⟨qn.blk,0,none⟩)] 97);have bW:Keep (fun x=>x=qn.blk) w1 (W2.alloc (.cells #[.pointer (some ⟨qn.blk,0,none⟩)] 97)):=aY.alloc _;have pt:w1.heap.size<=(W2.alloc (.cells #[.pointer (some ⟨qn.blk,0,none⟩)] 97)).heap.size:=by simp;omega
 obtain⟨W3,dZ⟩:∃W3,W3=W2.alloc (.cells #[.pointer (some ⟨qn.blk,0,none⟩)] 97):=⟨_,rfl⟩;rw[<-dZ]at cU gE rU bW pt ⊢;clear du dZ;have aS:=gE.row
 refine(qkh p.sl p.kids.length at_ W2.heap.size (p.kids.map nptr) (nptr qn.blk) W3 (by omega) (by have:=hF.1;simp at this;omega) rfl (fun u hu=>by obtain⟨x,_,rfl⟩:=xrq.1 hu;rfl) aS cU (fun e=>by have:=(oi.row.lt _ e).2;omega)).mono ?_
 rintro e w4 ⟨dj,rfl,eA,gL,gT⟩
 obtain⟨g,cap,je⟩:∃g cap,dj=.slice (some ⟨g,0,none⟩) (p.kids.length+1) cap:=by
  rcases eA.2 with ⟨_,h0⟩|⟨g,cap,aH,h,_⟩
  ·omega
  ·exact⟨g,cap,h⟩
 have Dp:w4.cell? ⟨p.blk,7,none⟩=some p.sl:=(gL.cell (p:=⟨p.blk,7,none⟩) gE.lt dg).trans (gE.cell rfl);have xJ:w4.frozen? ⟨p.blk,7,none⟩=false:=(gL.frozen (p:=⟨p.blk,7,none⟩) gE.lt dg).trans (gE.frozen 7);have qm:Hid (dj=.slice (some ⟨g,0,none⟩) (p.kids.length+1) cap):=je;rw[je];have HK:Hid (p.kids=ks.map (·.blk)):=hk;have ux:Hid (p.kids.length=ks.length):=fO;clear je hk fO
 go_wp2
 go_end0
 have hk:=HK.out;have fO:=ux.out;have oj:Blk w4 p.blk 136 p.cells:=(gL.block p.blk gE.lt dg).trans gE.at_;have k1:Keep (fun x=>x=p.blk\/x=qn.blk\/p.sl.ownBlock=some x) w w1:=Keep.new aa;have k2:=k1.trans (bW.mono (fun x h=>.inr (.inl h)));have k3:=k2.trans (gL.mono (fun x h=>.inr (.inr h)));have k4:=k3.setCell (p:=⟨p.blk,7,none⟩) (.inl rfl) (.slice (some ⟨g,0,none⟩) (p.kids.length+1) cap)
 refine⟨rfl,at_,dj,hF,?_,?_,k4,?_⟩
 ·refine⟨?_,?_⟩
  ·have:=oj.set 7 dj
   rw[<-qm.out]
   refine this.trans ?_
   simp[Node.cells,Node.qd4]
  ·have aW:dj.ownBlock≠some p.blk:=by
    rcases gT with h|⟨g',h,cd⟩
    ·rw[h];exact dg
    ·rw[h];intro e;injection e with e;have:=gE.lt;omega
   have h1:=eA.kept (row:=some p.blk) (w':=w4.setCell ⟨p.blk,7,none⟩ (.slice (some ⟨g,0,none⟩) (p.kids.length+1) cap)) ⟨rfl,rfl,rfl,by simp[World.setCell],fun k cx oU=>Below.heap_setCell _ _ _ _ (fun e=>oU (by rw[e]))⟩ (.inr aW);have e1:(p.qd4 at_ qn.blk dj).kids.length=p.kids.length+1:=by
    have:=hF.1;simp[Node.qd4]at this ⊢;omega
   have e2:(p.qd4 at_ qn.blk dj).kids.map nptr=(p.kids.map nptr).take at_++nptr qn.blk::(p.kids.map nptr).drop at_:=by
    simp[Node.qd4]
   rw[e1,e2];exact h1
 ·have rV:¬(p.sl.ownBlock=some qn.blk):=lD;have h4:Blk w4 qn.blk 136 _:=rU.keep gL rV;have h5:=h4.other ⟨p.blk,7,none⟩ (.slice (some ⟨g,0,none⟩) (p.kids.length+1) cap) dK
  refine⟨?_,?_⟩
  ·refine h5.trans ?_
   simp[Node.cells,cx,uptr]
  ·refine qaf hQ.row k4 (fun g hg e=>?_)
   have hg:qn.sl.ownBlock=some g:=hg
   rcases e with e|e|e
   ·exact vE (by rw[hg,e])
   ·exact fk (by rw[hg,e])
   ·exact t_ g e hg
 ·rcases gT with h|⟨g',h,cd⟩
  ·exact .inl h
  ·exact .inr ⟨g',h,by have:=aa.size;omega⟩
theorem qjy(hn:qag w n):Calls prog 92 #[.pointer (some ⟨n.blk,0,none⟩)] w fun e w'=>e=.returned (uptr n.up)/\w'=w:=by
 have h6:w.cell? ⟨n.blk,6,none⟩=some (uptr n.up):=hn.cell rfl;unfold uptr at h6 ⊢
 go_enter func92,ntmps92
 go_wp2
 go_ret
 exact⟨rfl,rfl⟩
theorem qqb(hn:qag w n)(hl:n.kids.length<=1000):Calls prog 144 #[.pointer (some ⟨n.blk,0,none⟩)] w fun e w'=>e=.returned (.bool (n.kids.length == 0))/\w'=w:=by
 have h7:w.cell? ⟨n.blk,7,none⟩=some n.sl:=hn.cell rfl;obtain⟨a,c,dh⟩:=qnc hn.row;rw[dh]at h7;generalize n.kids.length=k at *;have hk:((k:Int) == 0)=(k == 0):=by
  cases k with
  |zero=>rfl
  |succ k=>simp;omega
 go_enter func144,ntmps144
 go_wp2
 go_ret
 rw[<-hk]
 exact⟨rfl,rfl⟩
def remN (nodes:List Node)(q p:Node)(i:Nat)(sl:Value):List Node :=
 (nodes.filter fun n=>!decide (n.key=q.key)).map fun n=>if n.key=p.key then p.qb6 i sl else n
theorem qc5{a b:List Bs}{x y:Bs}(h:a++[x]=b++[y]):a=b/\x=y:=by
 have:=List.append_inj' h rfl
 exact⟨this.1,by simpa using this.2⟩
theorem qlt(nodes:List Node)(q p:Node)(i:Nat)(sl:Value)(n:Node):n∈remN nodes q p i sl↔∃z∈nodes,z.key≠q.key/\n=if z.key=p.key then p.qb6 i sl else z:=by
 unfold remN;simp only[xrq,xrr,Bool.not_eq_true',decide_eq_false_iff_not]
 exact⟨fun ⟨z,⟨h1,h2⟩,h3⟩=>⟨z,h1,h2,h3.symm⟩,fun ⟨z,h1,h2,h3⟩=>⟨z,⟨h1,h2⟩,h3.symm⟩⟩
theorem qlk{ks:List Node}(hs:(ks.map fun k=>qad k.key).Pairwise fun a b=>cmpB a b<0):ks.Nodup:=by
 have:(ks.map fun k=>qad k.key).Nodup:=hs.imp (fun {a b} h e=>by subst e;rw[show cmpB a a=0 from qdc a]at h;omega)
 exact qb1 this
theorem qob{α : Type}[DecidableEq α]{l:List α}(hn:l.Nodup){q : α}(hi:l[i]?=some q)(y : α):y∈l.take i++l.drop (i+1)↔y∈l/\y≠q:=by
 have ep:=(xr0.1 hi).1;have e:l=l.take i++q::l.drop (i+1):=by
  conv=>lhs;rw[<-List.take_append_drop i l]
  congr 1
  rw[List.drop_eq_getElem_cons ep];rw[xr1 ep]at hi;injection hi with hi;rw[hi]
 have dp:(l.take i++q::l.drop (i+1)).Nodup:=by rw[<-e];exact hn
 have hq:q ∉ l.take i++l.drop (i+1):=by
  rw[List.nodup_append]at dp;obtain⟨_,h2,h3⟩:=dp;intro h
  rcases xri.1 h with h|h
  ·exact h3 q h q (by simp) rfl
  ·exact(List.nodup_cons.1 h2).1 h
 constructor
 ·intro h
  refine⟨?_,fun e2=>hq (e2 ▸ h)⟩
  rw[e]
  rcases xri.1 h with h|h
  ·exact xr9 _ h
  ·exact xra _ (xru _ h)
 ·rintro⟨h,aW⟩
  rw[e]at h
  rcases xri.1 h with h|h
  ·exact xr9 _ h
  ·rcases List.mem_cons.1 h with h|h
   ·exact absurd h aW
   ·exact xra _ h
theorem qcw{l:List Node}(hn:l.Nodup)(hi:l[i]?=some q)(y:Node):y∈l.take i++l.drop (i+1)↔y∈l/\y≠q:=by
 classical
 exact qob hn hi y
theorem Tree.remN{nodes:List Node}(T:Tree nodes){p:Node}(hq:q∈nodes)(hp:p∈nodes){x:Bs}(dK:q.key=p.key++[x])(jU:q.kids=[])
  {ks:List Node} (hk:p.kids=ks.map (·.blk)) (hm:∀k,k∈ks↔(k∈nodes/\∃x,k.key=p.key++[x])) (hs:(ks.map fun k=>qad k.key).Pairwise fun a b=>cmpB a b<0) (hi:ks[i]?=some q) (sl:Value):Tree (remN nodes q p i sl):=by
 have af:=qlt nodes q p i sl;have cT:q.key≠[]:=by rw[dK];simp
 have nu:p.key≠q.key:=by rw[dK];intro e;have:=congrArg List.length e;simp at this
 have f1:∀z,(if z.key=p.key then p.qb6 i sl else z).key=z.key:=fun z=>by
  by_cases h:z.key=p.key
  ·rw[if_pos h];exact h.symm
  ·rw[if_neg h]
 have f2:∀z∈nodes,(if z.key=p.key then p.qb6 i sl else z).leaf=z.leaf/\(if z.key=p.key then p.qb6 i sl else z).n0=z.n0/\(if z.key=p.key then p.qb6 i sl else z).n1=z.n1/\(if z.key=p.key then p.qb6 i sl else z).b0=z.b0/\(if z.key=p.key then p.qb6 i sl else z).b1=z.b1/\(if z.key=p.key then p.qb6 i sl else z).up=z.up/\(if z.key=p.key then p.qb6 i sl else z).blk=z.blk:=fun z hz=>by
  by_cases h:z.key=p.key
  ·obtain rfl:=T.inj z hz p hp h;rw[if_pos rfl];exact⟨rfl,rfl,rfl,rfl,rfl,rfl,rfl⟩
  ·rw[if_neg h];exact⟨rfl,rfl,rfl,rfl,rfl,rfl,rfl⟩
 have oX:∀n∈nodes,∀y,n.key≠q.key++[y]:=fun n hn y e=>by
  obtain⟨kq,g1,g2,_⟩:=T.kids q hq;have h5:n∈kq:=(g2 n).2 ⟨hn,y,e⟩;rw[jU]at g1;have h6:kq=[]:=by simpa using g1.symm
  rw[h6]at h5
  cases h5
 refine⟨?_,?_,?_,?_,?_,?_,?_,?_,?_⟩
 ·obtain⟨r,h0,h1,h2,h3,h4⟩:=T.root;have eF:=xr2 h0;obtain⟨g1,g2,g3,g4,g5,g6,g7⟩:=f2 r eF
  refine⟨if r.key=p.key then p.qb6 i sl else r,?_,(f1 r).trans h1,g1.trans h2,g4.trans h3,g5.trans h4⟩
  cases bT:nodes with
  |nil=>rw[bT]at h0;simp at h0
  |cons a l =>
   rw[bT]at h0
   simp at h0
   subst h0
   have:a.key≠q.key:=by rw[h1];exact fun e=>cT e.symm
   simp[Go.Proofs.YtphclnolomgjoaaGreatDoor.remN,this]
 ·intro n hn m nS e;obtain⟨z,hz,_,rfl⟩:=(af n).1 hn;obtain⟨y,hy,_,rfl⟩:=(af m).1 nS;rw[f1,f1]at e;rw[T.inj z hz y hy e]
 ·have e:(Go.Proofs.YtphclnolomgjoaaGreatDoor.remN nodes q p i sl).map (·.key)=(nodes.filter fun n=>!decide (n.key=q.key)).map (·.key):=by
   unfold Go.Proofs.YtphclnolomgjoaaGreatDoor.remN;rw[List.map_map]
   exact List.map_congr_left fun z _=>f1 z
  rw[e]
  exact T.nodup.sublist (List.filter_sublist.map _)
 ·intro n hn;obtain⟨z,hz,_,rfl⟩:=(af n).1 hn;rw[f1];exact T.ok z hz
 ·intro n hn;obtain⟨z,hz,_,rfl⟩:=(af n).1 hn;obtain⟨g1,g2,g3,g4,g5,g6,g7⟩:=f2 z hz;rw[g1,g2,g3,g4,g5];exact T.num z hz
 ·intro n hn cx;obtain⟨z,hz,_,rfl⟩:=(af n).1 hn;rw[f1]at cx;rw[(f2 z hz).2.2.2.2.2.1];exact T.top z hz cx
 ·intro n hn k y cx;obtain⟨z,hz,_,rfl⟩:=(af n).1 hn;rw[f1]at cx;obtain⟨pp,g1,g2,g3,g4⟩:=T.par z hz k y cx;have aW:pp.key≠q.key:=fun e=>oX z hz y (by rw[cx,<- g2,e])
  exact⟨_,(af _).2 ⟨pp,g1,aW,rfl⟩,(f1 pp).trans g2,(f2 pp g1).1.trans g3,by rw[(f2 z hz).2.2.2.2.2.1,(f2 pp g1).2.2.2.2.2.2];exact g4⟩
 ·intro n hn;obtain⟨z,hz,qb,rfl⟩:=(af n).1 hn
  by_cases sN:z.key=p.key
  ·obtain rfl:=T.inj z hz p hp sN;rw[if_pos rfl];have gr:=qlk hs
   refine⟨(ks.take i++ks.drop (i+1)).map fun n=>if n.key=z.key then z.qb6 i sl else n,?_,fun k=>?_,?_⟩
   ·rw[List.map_map]
    show z.kids.take i++z.kids.drop (i+1)=_
    rw[hk,<- List.map_take,<- List.map_drop,<- List.map_append]
    refine List.map_congr_left fun n hn=>?_
    exact((f2 n ((hm n).1 ((qcw gr hi n).1 hn).1).1).2.2.2.2.2.2).symm
   ·constructor
    ·intro h;obtain⟨y,hy,rfl⟩:=xrq.1 h;obtain⟨h1,h2⟩:=(qcw gr hi y).1 hy;obtain⟨h3,u,h4⟩:=(hm y).1 h1
     exact⟨(af _).2 ⟨y,h3,fun e=>h2 (T.inj y h3 q hq e),rfl⟩,u,by rw[f1];exact h4⟩
    ·rintro⟨h1,u,h2⟩
     obtain⟨y,hy,sJ,rfl⟩:=(af k).1 h1;rw[f1]at h2
     exact xrq.2 ⟨y,(qcw gr hi y).2 ⟨(hm y).2 ⟨hy,u,h2⟩,fun e=>sJ (by rw[e])⟩,rfl⟩
   ·have e:((ks.take i++ks.drop (i+1)).map fun n=>if n.key=z.key then z.qb6 i sl else n).map (fun k=>qad k.key)=(ks.take i++ks.drop (i+1)).map fun k=>qad k.key:=by
     rw[List.map_map];exact List.map_congr_left fun n _=>by simp only[Function.comp];rw[f1]
    rw[e]
    refine List.Pairwise.sublist ?_ hs
    refine List.Sublist.map _ ?_
    conv=>rhs;rw[<-List.take_append_drop i ks]
    exact List.Sublist.append (List.Sublist.refl _) (List.drop_sublist_drop_left ks (Nat.le_succ i))
  ·rw[if_neg sN];obtain⟨kz,g1,g2,g3⟩:=T.kids z hz
   refine⟨kz.map fun n=>if n.key=p.key then p.qb6 i sl else n,?_,fun k=>?_,?_⟩
   ·rw[g1,List.map_map]
    exact List.map_congr_left fun n hn=>((f2 n ((g2 n).1 hn).1).2.2.2.2.2.2).symm
   ·constructor
    ·intro h;obtain⟨y,hy,rfl⟩:=xrq.1 h;obtain⟨h3,u,h4⟩:=(g2 y).1 hy
     exact⟨(af _).2 ⟨y,h3,fun e=>sN (qc5 (h4.symm.trans (e.trans dK))).1,rfl⟩,u,by rw[f1];exact h4⟩
    ·rintro⟨h1,u,h2⟩
     obtain⟨y,hy,sJ,rfl⟩:=(af k).1 h1;rw[f1]at h2
     exact xrq.2 ⟨y,(g2 y).2 ⟨hy,u,h2⟩,rfl⟩
   ·have e:(kz.map fun n=>if n.key=p.key then p.qb6 i sl else n).map (fun k=>qad k.key)=kz.map fun k=>qad k.key:=by
     rw[List.map_map];exact List.map_congr_left fun n _=>by simp only[Function.comp];rw[f1]
    rw[e];exact g3
 ·unfold Go.Proofs.YtphclnolomgjoaaGreatDoor.remN;rw[List.length_map]
  exact Nat.le_trans (xrh _ _) T.len
structure qnk (a b:Pw):Prop where
 blk:b.blk=a.blk
 q:b.q=a.q
 num:b.x.num=a.x.num
 d0:b.x.d0=a.x.d0
 d1:b.x.d1=a.x.d1
theorem qnk.cells{a b:Pw}(h:qnk a b):b.cells=a.cells:=by unfold Pw.cells;rw[h.q,h.num,h.d0,h.d1]
theorem qm8{f:Pw->Pw}(h:∀y∈l,qnk y (f y)):qa0 (l.map f)=qa0 l:=by
 unfold qa0;rw[List.map_map]
 exact List.map_congr_left fun y hy=>by simp only[Function.comp];rw[(h y hy).blk]
theorem qa2.new{τ : Nat->Tag}{t:Nat}{W:World}{bt:Nat}{nodes:List Node}{last:Int}{vw va:Value}{ws as_:List Pw}(h:qa2 τ t W bt nodes last vw va ws as_)(T':Tree ar)(bD:∀n∈ar,qag W' n)
  (gi:∀n∈ar,τ' n.blk=.node t n.blk/\∀g,n.sl.ownBlock=some g -> τ' g=.row t n.blk) (vK:∀a∈ar,∀b∈ar,a.blk=b.blk->a=b) (hr:nodes[0]?=some r) (pW:ar[0]?=some r') (Cr:r'.blk=r.blk)
  (k:Keep T W W') (hT:∀b,b<W.heap.size->T b->(τ b).k=1\/(τ b).k=2) (hτ : ∀b,b<W.heap.size -> τ' b = τ b) {f:Pw->Pw} (hf:∀y∈ws++as_,qnk y (f y)) (eS:∀y∈ws++as_,∃n∈ar,n.blk=y.q/\n.key=(f y).x.key) :
  qa2 τ' t W' bt ar last vw va (ws.map f) (as_.map f):=by
 obtain⟨l1,l2,l3⟩:=h.lts;obtain⟨r0,eT,hb⟩:=h.bk;rw[hr]at eT
 cases eT
 have ay:∀b tg,b<W.heap.size -> τ b=tg->tg.k≠1->tg.k≠2->¬T b:=fun b tg bh e h1 h2 ht=>by
  rcases hT b bh ht with e2|e2
  ·rw[e]at e2;exact h1 e2
  ·rw[e]at e2;exact h2 e2
 have cD:Blk W' bt 102 #[nptr r'.blk,.int .i64 last,vw,va]:=by
  rw[Cr]
  exact hb.bk.at_.keep k (ay _ _ l1 h.pr.ttag (by simp) (by simp))
 have hB:=hb.bk;have ew:(ws.map f)++(as_.map f)=(ws++as_).map f:=by rw[List.map_append]
 have pR:∀y∈(ws.map f)++(as_.map f),∃z∈ws++as_,y=f z:=fun y hy=>by
  rw[ew]at hy;obtain⟨z,hz,rfl⟩:=xrq.1 hy
  exact⟨z,hz,rfl⟩
 have ob:∀y∈ws,qnk y (f y):=fun y hy=>hf y (xr9 _ hy)
 have de:∀y∈as_,qnk y (f y):=fun y hy=>hf y (xra _ hy)
 refine⟨⟨T',bD,fun i n hi=>gi n (xr2 hi),⟨r',pW,cD⟩,by rw[hτ _ l1];exact h.pr.ttag,vK⟩,⟨r',pW,bD,?_,fun p hp=>?_,fun p hp=>?_⟩,fun b e=>by rw[hτ b (l2 b e)];exact h.wtag b e,fun p hq=>?_⟩
 ·refine⟨cD,?_,?_,fun p hp=>?_,hB.sep,?_,fun a ha b bh e=>?_,by simpa using hB.len⟩
  ·rw[qm8 ob,List.length_map]
   exact qaf hB.wrow k (fun g hg=>ay _ _ (l2 g (.inl hg)) (h.wtag g (.inl hg)) (by simp) (by simp))
  ·rw[qm8 de,List.length_map]
   exact qaf hB.arow k (fun g hg=>ay _ _ (l2 g (.inr hg)) (h.wtag g (.inr hg)) (by simp) (by simp))
  ·obtain⟨z,hz,rfl⟩:=pR p hp;rw[(hf z hz).cells,(hf z hz).blk]
   exact(hB.works z hz).keep k (ay _ _ (l3 z hz) (h.ptag z hz) (by simp) (by simp))
  ·rw[ew];have bT:=hB.nd;unfold List.Nodup at bT ⊢;rw[List.pairwise_map]
   refine List.Pairwise.imp_of_mem (fun {a b} ha bh aW e=>aW ?_) bT
   have:=congrArg Pw.blk e
   rw[(hf a ha).blk,(hf b bh).blk]at this
   exact hB.inj a ha b bh this
  ·obtain⟨z,hz,rfl⟩:=pR a ha;obtain⟨y,hy,rfl⟩:=pR b bh;rw[(hf z hz).blk,(hf y hy).blk]at e;rw[hB.inj z hz y hy e]
 ·obtain⟨z,hz,rfl⟩:=pR p hp;rw[(hf z hz).q];exact eS z hz
 ·obtain⟨z,hz,rfl⟩:=pR p hp;rw[(hf z hz).d0,(hf z hz).d1];exact hb.nm z hz
 ·obtain⟨z,hz,rfl⟩:=pR p hq;rw[(hf z hz).blk,hτ _ (l3 z hz)];exact h.ptag z hz
theorem qa2.apart{τ : Nat->Tag}{t:Nat}{W:World}{bt:Nat}{nodes:List Node}{last:Int}{vw va:Value}{ws as_:List Pw}(h:qa2 τ t W bt nodes last vw va ws as_){a b:Node}(ha:a∈nodes)(hb:b∈nodes):
  a.sl.ownBlock≠some b.blk/\(a≠b->a.blk≠b.blk)/\(a≠b->∀g,a.sl.ownBlock=some g->b.sl.ownBlock≠some g):=by
 obtain⟨i,hi⟩:=xre ha;obtain⟨j,hj⟩:=xre hb;obtain⟨t1,t2⟩:=h.pr.tags i a hi;obtain⟨u1,u2⟩:=h.pr.tags j b hj
 refine⟨fun e=>?_,fun aW e=>aW (h.pr.binj a ha b hb e),fun aW g e1 e2=>aW (h.pr.binj a ha b hb ?_)⟩
 ·have:=t2 _ e;rw[u1]at this;cases this
 ·have x1:=t2 g e1;rw[u2 g e2]at x1;injection x1 with _ _ x1
  exact x1.symm
theorem qul{a:Nat}(h:w.cell? ⟨a,0,none⟩=some (.int .i64 0)):
  CallsD prog 140 #[.pointer (some ⟨a,0,none⟩),.pointer (some ⟨b,0,none⟩)] .returning w fun e u' w'=>u'=.returning/\(e=.returned (.tuple #[])/\w'=w):=by
 go_enter_d func140,ntmps140
 go_wp2
 go_end0
 exact⟨rfl,rfl⟩
theorem qrt{a:Nat}(he:(er != 0)=true)(h:w.cell? ⟨a,0,none⟩=some (.int .i64 er))(hb:w.cell? ⟨b,0,none⟩=some (.func (.func 98) #[] #[y1,y2,y3])){M:World->Prop}
  (hU:Calls prog 98 #[y1,y2,y3] w fun e w'=>e=.returned (.tuple #[])/\M w') :
  CallsD prog 140 #[.pointer (some ⟨a,0,none⟩),.pointer (some ⟨b,0,none⟩)] .returning w fun e u' w'=>u'=.returning/\(e=.returned (.tuple #[])/\M w'):=by
 go_enter_d func140,ntmps140
 go_wp2_with (go_at_call 98;refine hU.mono ?_;rintro e w1 ⟨rfl,hM⟩)
 go_end0
 exact⟨rfl,hM⟩
theorem qr4{bt:Nat}{M1 M2 M3:World->Prop}(cD:bt<w.heap.size)
  (hC:∀W1,Below w.heap.size w W1->Calls prog 97 #[x1] W1 fun e w'=>e=.returned (.tuple #[])/\Keep (fun b=>b<w.heap.size) W1 w'/\M1 w')
  (hO:∀W1,M1 W1->Calls prog 141 #[.pointer (some ⟨bt,0,none⟩)] W1 fun e w'=>e=.returned (.int .i64 er)/\Below W1.heap.size W1 w')
  (h2:er=0->∀W1 W2,M1 W1->w.heap.size<=W1.heap.size->Keep (fun b=>w.heap.size<=b) W1 W2->M2 W2)
  (hU:er≠0->∀W1 W2,M1 W1->w.heap.size<=W1.heap.size->Keep (fun b=>w.heap.size<=b) W1 W2->Calls prog 98 #[y1,y2,y3] W2 fun e w'=>e=.returned (.tuple #[])/\Keep (fun b=>b<w.heap.size) W2 w'/\M3 w') :
  Calls prog 87 #[.pointer (some ⟨bt,0,none⟩),.func (.func 97) #[x1] #[],.func (.func 98) #[] #[y1,y2,y3]] w fun e w'=>e=.returned (.int .i64 er)/\(er=0->M2 w')/\(er≠0->M3 w'):=by
 have jL:∀(fn:Fn) (first cap:Array Value) (w:World),(Instr.makeFunc fn first cap).run prog w=.ok (.func fn first cap) w:=fun _ _ _ _=>rfl
 obtain⟨W0,bg⟩:∃W0,W0=(w.alloc (.cells #[.func (.func 98) #[] #[y1,y2,y3]] 1)).alloc (.cells #[.int .i64 0] 53):=⟨_,rfl⟩;have b1:Box W0 w.heap.size 1 (.func (.func 98) #[] #[y1,y2,y3]):=by rw[bg];exact(Box.new w 1 _).alloc _
 have b2:Box W0 (w.heap.size+1) 53 (.int .i64 0):=by
  rw[bg];have:=Box.new (w.alloc (.cells #[.func (.func 98) #[] #[y1,y2,y3]] 1)) 53 (.int .i64 0)
  rwa[xrt]at this
 have bj:Below w.heap.size w W0:=by rw[bg];exact bel2
 have fM:w.heap.size+2<=W0.heap.size:=by rw[bg];simp
 go_enter_defers func87,ntmps87
 go_upto_region 1 with fail
 rw[<-bg];clear bg
 go_wp2_with (first
  |(go_at_call 97;refine(hC _ (by exact bel2)).mono ?_;rintro e w1 ⟨rfl,cf,j7⟩;have d1:=b1.keep cf (by omega);have d2:=b2.keep cf (by omega);have dz:=cf.size)
  |(go_at_call 141;refine(hO _ j7).mono ?_;rintro e w2 ⟨rfl,ag⟩;have f1:=d1.below ag d1.lt;have f2:=d2.below ag d2.lt;have q2:=f2.cell;have p2:=f2.frozen))
 have aY:Keep (fun b=>w.heap.size<=b) w1 (w2.setCell ⟨w.heap.size+1,0,none⟩ (.int .i64 er)):=(Keep.new (T:=fun b=>w.heap.size<=b) ag).setCell (p:=⟨w.heap.size+1,0,none⟩) (by simp) _;have g1:=(f1.other ⟨w.heap.size+1,0,none⟩ (.int .i64 er) (by simp)).cell;have g2:=(f2.set (.int .i64 er)).cell
 by_cases he:er=0
 ·subst he
  refine leaves_cons (f:=140) (args:=#[.pointer (some ⟨w.heap.size+1,0,none⟩),.pointer (some ⟨w.heap.size,0,none⟩)]) (by simp) (by simp[go_sem]) ?_
  refine(qul (b:=w.heap.size) g2).mono ?_
  rintro e u' kx ⟨rfl,rfl,rfl⟩
  simp[Leaves,settle,results,results87,go_sem,g2]
  exact h2 rfl _ _ j7 (by omega) aY
 ·refine leaves_cons (f:=140) (args:=#[.pointer (some ⟨w.heap.size+1,0,none⟩),.pointer (some ⟨w.heap.size,0,none⟩)]) (by simp) (by simp[go_sem]) ?_
  refine(qrt (by simpa using he) g2 g1 (hU he _ _ j7 (by omega) aY)).mono ?_
  rintro e u' kx ⟨rfl,rfl,bW,qH⟩
  have g3:=((f2.set (.int .i64 er)).keep bW (by omega)).cell
  simp[Leaves,settle,results,results87,go_sem,g3]
  exact⟨fun e=>absurd e he,fun _=>qH⟩
structure qyh (n n':Node):Prop where
 blk:n'.blk=n.blk
 key:n'.key=n.key
 leaf:n'.leaf=n.leaf
 up:n'.up=n.up
 kids:n'.kids=n.kids
theorem Tree.mapS{nodes:List Node}(T:Tree nodes){f:Node->Node}(hf:∀n∈nodes,qyh n (f n))
  (ef:∀n∈nodes,(0<=(f n).n0/\(f n).n0<=1000)/\(0<=(f n).n1/\(f n).n1<=1000)/\(0<=(f n).b0/\(f n).b0<=1000)/\(0<=(f n).b1/\(f n).b1<=1000)/\((f n).leaf=false->(f n).n0=0/\(f n).n1=0))
  (iE:∀n∈nodes,n.key=[]->(f n).b0=0/\(f n).b1=0):Tree (nodes.map f):=by
 have af:∀x,x∈nodes.map f↔∃n∈nodes,x=f n:=fun x=>by simp only[xrq];exact⟨fun ⟨n,h,e⟩=>⟨n,h,e.symm⟩,fun ⟨n,h,e⟩=>⟨n,h,e.symm⟩⟩
 refine⟨?_,?_,?_,?_,?_,?_,?_,?_,by simpa using T.len⟩
 ·obtain⟨r,h0,h1,h2,h3,h4⟩:=T.root;have hr:=xr2 h0;have k:=hf r hr
  exact⟨f r,by simp[h0],k.key.trans h1,k.leaf.trans h2,(iE r hr h1).1,(iE r hr h1).2⟩
 ·intro n hn m hm e;obtain⟨x,hx,rfl⟩:=(af n).1 hn;obtain⟨y,hy,rfl⟩:=(af m).1 hm;rw[(hf x hx).key,(hf y hy).key]at e;rw[T.inj x hx y hy e]
 ·rw[List.map_map]
  have:nodes.map ((fun n=>n.key) ∘ f)=nodes.map (·.key):=List.map_congr_left (fun n hn=>(hf n hn).key)
  rw[this];exact T.nodup
 ·intro n hn;obtain⟨x,hx,rfl⟩:=(af n).1 hn;rw[(hf x hx).key];exact T.ok x hx
 ·intro n hn;obtain⟨x,hx,rfl⟩:=(af n).1 hn
  exact ef x hx
 ·intro n hn hk;obtain⟨x,hx,rfl⟩:=(af n).1 hn;rw[(hf x hx).key]at hk;rw[(hf x hx).up];exact T.top x hx hk
 ·intro n hn k z hk;obtain⟨x,hx,rfl⟩:=(af n).1 hn;rw[(hf x hx).key]at hk;obtain⟨p,h1,h2,h3,h4⟩:=T.par x hx k z hk
  exact⟨f p,(af _).2 ⟨p,h1,rfl⟩,(hf p h1).key.trans h2,(hf p h1).leaf.trans h3,by rw[(hf x hx).up,(hf p h1).blk];exact h4⟩
 ·intro p hp;obtain⟨x,hx,rfl⟩:=(af p).1 hp;obtain⟨ks,k1,k2,k3⟩:=T.kids x hx
  refine⟨ks.map f,?_,fun k=>?_,?_⟩
  ·rw[(hf x hx).kids,k1,List.map_map]
   exact List.map_congr_left (fun n hn=>((hf n ((k2 n).1 hn).1).blk).symm)
  ·rw[(hf x hx).key]
   constructor
   ·intro h;obtain⟨z,hz,rfl⟩:=xrq.1 h;obtain⟨g1,y,g2⟩:=(k2 z).1 hz
    exact⟨(af _).2 ⟨z,g1,rfl⟩,y,by rw[(hf z g1).key];exact g2⟩
   ·rintro⟨h,y,hy⟩
    obtain⟨z,hz,rfl⟩:=(af k).1 h;rw[(hf z hz).key]at hy
    exact xrq.2 ⟨z,(k2 z).2 ⟨hz,y,hy⟩,rfl⟩
  ·have:(ks.map f).map (fun k=>qad k.key)=ks.map fun k=>qad k.key:=by
    rw[List.map_map];exact List.map_congr_left (fun n hn=>by simp only[Function.comp];rw[(hf n ((k2 n).1 hn).1).key])
   rw[this];exact k3
def reSl (nodes:List Node)(p:Node)(sl:Value):List Node:=nodes.map fun n=>if n.key=p.key then {n with sl:=sl} else n
theorem qjg(p:Node)(sl:Value)(n:Node):qyh n (if n.key=p.key then {n with sl:=sl} else n):=by
 by_cases h:n.key=p.key
 ·rw[if_pos h];exact⟨rfl,rfl,rfl,rfl,rfl⟩
 ·rw[if_neg h];exact⟨rfl,rfl,rfl,rfl,rfl⟩
theorem qwb(nodes:List Node)(p:Node)(sl:Value):(reSl nodes p sl).map Node.ent=nodes.map Node.ent:=by
 unfold reSl;rw[List.map_map]
 exact List.map_congr_left fun n _=>by simp only[Function.comp];split<;>rfl
theorem Tree.reSl{nodes:List Node}(T:Tree nodes)(p:Node)(sl:Value):Tree (reSl nodes p sl):=by
 refine T.mapS (fun n _=>qjg p sl n) (fun n hn=>?_) (fun n hn fm=>?_)
 ·have:=T.num n hn
  by_cases h:n.key=p.key
  ·rw[if_pos h];exact this
  ·rw[if_neg h];exact this
 ·obtain⟨r,g0,g1,g2,g3,g4⟩:=T.root
  have:n=r:=T.inj n hn r (xr2 g0) (fm.trans g1.symm)
  subst this
  by_cases h:n.key=p.key
  ·rw[if_pos h];exact⟨g3,g4⟩
  ·rw[if_neg h];exact⟨g3,g4⟩
def TchQ (p q:Node)(x:Nat):Prop:=x=p.blk\/x=q.blk\/p.sl.ownBlock=some x
structure LvM (W:World) (p q:Node) (i:Nat) (sl:Value) (w':World):Prop where
 own:sl.ownBlock=p.sl.ownBlock
 par:qag w' (p.qb6 i sl)
 kid:qag w' q.loose
 keep:Keep (TchQ p q) W w'
structure BkM (W:World) (p q:Node) (sl:Value) (w':World):Prop where
 par:qag w' {p with sl:=sl}
 kid:qag w' q
 keep:Keep (TchQ p q) W w'
 own:sl.ownBlock=p.sl.ownBlock\/∃g,sl.ownBlock=some g/\W.heap.size<=g
section
variable {τ : Nat->Tag}{t:Nat}{W w':World}{bt:Nat}{nodes:List Node}{last:Int}{vw va:Value}{ws as_:List Pw}
theorem qa2.tch(h:qa2 τ t W bt nodes last vw va ws as_){p:Node}(hq:q∈nodes)(hp:p∈nodes):∀b,TchQ p q b->((τ b).k=1\/(τ b).k=2)/\(τ b).prog t:=fun b hb=>by
 obtain⟨i,hi⟩:=xre hp;obtain⟨j,hj⟩:=xre hq;obtain⟨t1,t2⟩:=h.pr.tags i p hi;obtain⟨u1,u2⟩:=h.pr.tags j q hj
 rcases hb with rfl|rfl|e
 ·rw[t1];exact⟨.inl rfl,rfl⟩
 ·rw[u1];exact⟨.inl rfl,rfl⟩
 ·rw[t2 b e];exact⟨.inr rfl,rfl⟩
theorem qa2.other(h:qa2 τ t W bt nodes last vw va ws as_){p z:Node}(hq:q∈nodes)(hp:p∈nodes)(hz:z∈nodes)(h1:z≠p)(h2:z≠q)(k:Keep (TchQ p q) W w'):qag w' z:=by
 refine(h.pr.ins z hz).keep k (fun e=>?_) (fun g hg e=>?_)
 ·rcases e with e|e|e
  ·exact(h.apart hz hp).2.1 h1 e
  ·exact(h.apart hz hq).2.1 h2 e
  ·exact(h.apart hp hz).1 e
 ·rcases e with e|e|e
  ·exact(h.apart hz hp).1 (by rw[hg,e])
  ·exact(h.apart hz hq).1 (by rw[hg,e])
  ·exact(h.apart hz hp).2.2 h1 g hg e
theorem qa2.left(h:qa2 τ t W bt nodes last vw va ws as_){p:Node}(hq:q∈nodes)(hp:p∈nodes){x:Bs}(dK:q.key=p.key++[x])(jU:q.kids=[])
  {ks:List Node} (hk:p.kids=ks.map (·.blk)) (hm:∀k,k∈ks↔(k∈nodes/\∃x,k.key=p.key++[x])) (hs:(ks.map fun k=>qad k.key).Pairwise fun a b=>cmpB a b<0) (hi:ks[i]?=some q) (ay:∀y∈ws++as_,y.q≠q.blk) (M:LvM W p q i sl w') :
  qa2 (qcq τ W.heap.size) t w' bt (remN nodes q p i sl) last vw va ws as_:=by
 have T:=h.pr.tree;have T':=T.remN hq hp dK jU hk hm hs hi sl;have af:=qlt nodes q p i sl;have cT:q.key≠[]:=by rw[dK];simp
 obtain⟨r,hr,hb⟩:=h.bk;obtain⟨eF,a_⟩:=qbp T hr;have pL:∀z∈nodes,(if z.key=p.key then p.qb6 i sl else z).blk=z.blk/\(if z.key=p.key then p.qb6 i sl else z).key=z.key:=fun z hz=>by
  by_cases e:z.key=p.key
  ·obtain rfl:=T.inj z hz p hp e;rw[if_pos rfl];exact⟨rfl,rfl⟩
  ·rw[if_neg e];exact⟨rfl,rfl⟩
 have:=h.new (τ':=qcq τ W.heap.size) (f:=id) T' (fun n hn=>?_) (fun n hn=>?_) (fun a ha b bh e=>?_) hr (r':=if r.key=p.key then p.qb6 i sl else r) ?_ (pL r eF).1 M.keep (fun b _ e=>(h.tch hq hp b e).1) (fun b bh=>qa5 bh) (fun y _=>⟨rfl,rfl,rfl,rfl,rfl⟩) (fun y hy=>?_)
 ·simpa using this
 ·obtain⟨z,hz,qb,rfl⟩:=(af n).1 hn
  by_cases e:z.key=p.key
  ·rw[if_pos e];exact M.par
  ·rw[if_neg e];exact h.other hq hp hz (fun e2=>e (by rw[e2])) (fun e2=>qb (by rw[e2])) M.keep
 ·obtain⟨z,hz,qb,rfl⟩:=(af n).1 hn;obtain⟨j,hj⟩:=xre hz;obtain⟨t1,t2⟩:=h.pr.tags j z hj;rw[(pL z hz).1]
  refine⟨by rw[qa5 (h.pr.ins z hz).lt];exact t1,fun g hg=>?_⟩
  by_cases e:z.key=p.key
  ·obtain rfl:=T.inj z hz p hp e;rw[if_pos rfl]at hg;have hg:sl.ownBlock=some g:=hg;rw[M.own]at hg;rw[qa5 ((h.pr.ins z hz).row.lt g hg).2];exact t2 g hg
  ·rw[if_neg e]at hg;rw[qa5 ((h.pr.ins z hz).row.lt g hg).2];exact t2 g hg
 ·obtain⟨z,hz,_,rfl⟩:=(af a).1 ha;obtain⟨y,hy,_,rfl⟩:=(af b).1 bh;rw[(pL z hz).1,(pL y hy).1]at e;rw[h.pr.binj z hz y hy e]
 ·cases bT:nodes with
  |nil=>rw[bT]at hr;simp at hr
  |cons a l =>
   rw[bT]at hr
   simp at hr
   subst hr
   have:a.key≠q.key:=by rw[a_];exact fun e=>cT e.symm
   simp[remN,this]
 ·obtain⟨n,hn,e1,e2⟩:=hb.lf y hy;have gv:n.key≠q.key:=fun e=>ay y hy (by rw[<-e1,T.inj n hn q hq e])
  exact⟨_,(af _).2 ⟨n,hn,gv,rfl⟩,(pL n hn).1.trans e1,(pL n hn).2.trans e2⟩
theorem qa2.back(h:qa2 τ t W bt nodes last vw va ws as_){p:Node}(hq:q∈nodes)(hp:p∈nodes)(aW:q≠p)(M:BkM W p q sl w'):
  ∃τ',(∀b,b<W.heap.size -> τ' b = τ b)/\(∀b,W.heap.size<=b -> τ' b=.free\/(τ' b).prog t)/\qa2 τ' t w' bt (reSl nodes p sl) last vw va ws as_:=by
 have T:=h.pr.tree;obtain⟨r,hr,hb⟩:=h.bk;obtain⟨eF,a_⟩:=qbp T hr;obtain⟨τ',gY⟩:∃τ':Nat->Tag,τ'=fun x=>if x<W.heap.size then τ x else if sl.ownBlock=some x then .row t p.blk else .free:=⟨_,rfl⟩
 have fr:∀x,x<W.heap.size -> τ' x = τ x:=fun x hx=>by rw[gY];simp[hx]
 have hS:=fun z=>qjg p sl z
 have af:∀n,n∈reSl nodes p sl↔∃z∈nodes,n=if z.key=p.key then {z with sl:=sl} else z:=fun n=>by
  unfold reSl;simp only[xrq];exact⟨fun ⟨z,h1,h2⟩=>⟨z,h1,h2.symm⟩,fun ⟨z,h1,h2⟩=>⟨z,h1,h2.symm⟩⟩
 refine⟨τ',fr,fun x hx=>?_,?_⟩
 ·rw[gY];simp only[Nat.not_lt.2 hx,if_false]
  split
  ·exact .inr rfl
  ·exact .inl rfl
 have:=h.new (τ' := τ') (f:=id) (T.reSl p sl) (fun n hn=>?_) (fun n hn=>?_) (fun a ha b bh e=>?_) hr (r':=if r.key=p.key then {r with sl:=sl} else r) ?_ (hS r).blk M.keep (fun b _ e=>(h.tch hq hp b e).1) fr (fun y _=>⟨rfl,rfl,rfl,rfl,rfl⟩) (fun y hy=>?_)
 ·simpa using this
 ·obtain⟨z,hz,rfl⟩:=(af n).1 hn
  by_cases e:z.key=p.key
  ·obtain rfl:=T.inj z hz p hp e;rw[if_pos rfl];exact M.par
  ·rw[if_neg e]
   by_cases e2:z=q
   ·rw[e2];exact M.kid
   ·exact h.other hq hp hz (fun e3=>e (by rw[e3])) e2 M.keep
 ·obtain⟨z,hz,rfl⟩:=(af n).1 hn;obtain⟨j,hj⟩:=xre hz;obtain⟨t1,t2⟩:=h.pr.tags j z hj;rw[(hS z).blk]
  refine⟨by rw[fr _ (h.pr.ins z hz).lt];exact t1,fun g hg=>?_⟩
  by_cases e:z.key=p.key
  ·obtain rfl:=T.inj z hz p hp e;rw[if_pos rfl]at hg;have hg:sl.ownBlock=some g:=hg
   rcases M.own with e2|⟨g',e2,cd⟩
   ·rw[e2]at hg;rw[fr _ ((h.pr.ins z hz).row.lt g hg).2];exact t2 g hg
   ·rw[hg]at e2;cases e2;rw[gY]
    simp[Nat.not_lt.2 cd,hg]
  ·rw[if_neg e]at hg;rw[fr _ ((h.pr.ins z hz).row.lt g hg).2];exact t2 g hg
 ·obtain⟨z,hz,rfl⟩:=(af a).1 ha;obtain⟨y,hy,rfl⟩:=(af b).1 bh;rw[(hS z).blk,(hS y).blk]at e;rw[h.pr.binj z hz y hy e]
 ·unfold reSl;rw[xrs,hr];rfl
 ·obtain⟨n,hn,e1,e2⟩:=hb.lf y hy
  exact⟨_,(af _).2 ⟨n,hn,rfl⟩,(hS n).blk.trans e1,(hS n).key.trans e2⟩
end
def Node.qbb(n:Node)(a b c d:Int):Node:={n with n0:=if n.leaf then a else n.n0,n1:=if n.leaf then b else n.n1,b0:=c,b1:=d}
theorem qg6(hn:qag w n)(dh:n.sl.ownBlock≠some n.blk)(a b c d:Int):
  Calls prog 89 #[.pointer (some ⟨n.blk,0,none⟩),.agg #[.int .i64 a,.int .i64 b],.agg #[.int .i64 c,.int .i64 d]] w fun e w'=>e=.returned (.tuple #[])/\qag w' (n.qbb a b c d)/\Keep (fun x=>x=n.blk) w w':=by
 have ak:=hn.lt;have hB:Blk w n.blk 136 n.cells:=hn.at_;obtain⟨W0,bg⟩:∃W0,W0=(w.alloc (.cells #[.int .i64 a,.int .i64 b] 35)).alloc (.cells #[.int .i64 c,.int .i64 d] 35):=⟨_,rfl⟩;have bn:Blk W0 n.blk 136 n.cells:=by rw[bg];exact(hB.alloc _).alloc _
 have b1:Blk W0 w.heap.size 35 #[.int .i64 a,.int .i64 b]:=by rw[bg];exact(Blk.new w 35 _).alloc _
 have b2:Blk W0 (w.heap.size+1) 35 #[.int .i64 c,.int .i64 d]:=by rw[bg];exact Blk.new' (by simp)
 have fm:Keep (fun x=>x=n.blk) w W0:=by rw[bg];exact((Keep.refl _ _).alloc _).alloc _
 have n1:¬(n.blk=w.heap.size):=by omega
 have n2:¬(n.blk=w.heap.size+1):=by omega
 have n3:¬(w.heap.size=n.blk):=by omega
 have n4:¬(w.heap.size+1=n.blk):=by omega
 have c1:=bn.cell 1;have c2:=bn.cell 2;have c3:=bn.cell 3;have c4:=bn.cell 4;have c5:=bn.cell 5;have f2:=bn.frozen 2;have f3:=bn.frozen 3;have f4:=bn.frozen 4;have f5:=bn.frozen 5;have d0:=b1.cell 0;have d1:=b1.cell 1;have e0:=b2.cell 0;have e1:=b2.cell 1;simp only[Node.cells,xq0,xq1,xq2]at c1 c2 c3 c4 c5 d0 d1 e0 e1;have aS:=hn.row
 cases hl:n.leaf with
 |true =>
  rw[hl]at c1
  go_enter func89,ntmps89
  go_upto_region 1 with fail
  rw[<-bg];clear bg
  go_wp2
  go_end0
  have hk:=((((fm.setCell (p:=⟨n.blk,2,none⟩) rfl (.int .i64 a)).setCell (p:=⟨n.blk,3,none⟩) rfl (.int .i64 b)).setCell (p:=⟨n.blk,4,none⟩) rfl (.int .i64 c)).setCell (p:=⟨n.blk,5,none⟩) rfl (.int .i64 d))
  refine⟨rfl,⟨?_,qaf aS hk (fun g hg e=>dh (by rw[<-e];exact hg))⟩,hk⟩
  refine((((bn.set 2 (.int .i64 a)).set 3 (.int .i64 b)).set 4 (.int .i64 c)).set 5 (.int .i64 d)).trans ?_
  simp[Node.cells,Node.qbb,hl]
 |false =>
  rw[hl]at c1
  go_enter func89,ntmps89
  go_upto_region 1 with fail
  rw[<-bg];clear bg
  go_wp2
  go_end0
  have hk:=(fm.setCell (p:=⟨n.blk,4,none⟩) rfl (.int .i64 c)).setCell (p:=⟨n.blk,5,none⟩) rfl (.int .i64 d)
  refine⟨rfl,⟨?_,qaf aS hk (fun g hg e=>dh (by rw[<-e];exact hg))⟩,hk⟩
  refine((bn.set 4 (.int .i64 c)).set 5 (.int .i64 d)).trans ?_
  simp[Node.cells,Node.qbb,hl]
structure qrx (n n':Node):Prop where
 blk:n'.blk=n.blk
 key:n'.key=n.key
 leaf:n'.leaf=n.leaf
 up:n'.up=n.up
 sl:n'.sl=n.sl
 kids:n'.kids=n.kids
theorem Tree.mapN{nodes:List Node}(T:Tree nodes){f:Node->Node}(hf:∀n∈nodes,qrx n (f n))
  (ef:∀n∈nodes,(0<=(f n).n0/\(f n).n0<=1000)/\(0<=(f n).n1/\(f n).n1<=1000)/\(0<=(f n).b0/\(f n).b0<=1000)/\(0<=(f n).b1/\(f n).b1<=1000)/\((f n).leaf=false->(f n).n0=0/\(f n).n1=0))
  (iE:∀n∈nodes,n.key=[]->(f n).b0=0/\(f n).b1=0):Tree (nodes.map f):=by
 have af:∀x,x∈nodes.map f↔∃n∈nodes,x=f n:=fun x=>by simp only[xrq];exact⟨fun ⟨n,h,e⟩=>⟨n,h,e.symm⟩,fun ⟨n,h,e⟩=>⟨n,h,e.symm⟩⟩
 refine⟨?_,?_,?_,?_,?_,?_,?_,?_,by simpa using T.len⟩
 ·obtain⟨r,h0,h1,h2,h3,h4⟩:=T.root;have hr:=xr2 h0;have k:=hf r hr
  exact⟨f r,by simp[h0],k.key.trans h1,k.leaf.trans h2,(iE r hr h1).1,(iE r hr h1).2⟩
 ·intro n hn m hm e;obtain⟨x,hx,rfl⟩:=(af n).1 hn;obtain⟨y,hy,rfl⟩:=(af m).1 hm;rw[(hf x hx).key,(hf y hy).key]at e;rw[T.inj x hx y hy e]
 ·rw[List.map_map]
  have:nodes.map ((fun n=>n.key) ∘ f)=nodes.map (·.key):=List.map_congr_left (fun n hn=>(hf n hn).key)
  rw[this];exact T.nodup
 ·intro n hn;obtain⟨x,hx,rfl⟩:=(af n).1 hn;rw[(hf x hx).key];exact T.ok x hx
 ·intro n hn;obtain⟨x,hx,rfl⟩:=(af n).1 hn
  exact ef x hx
 ·intro n hn hk;obtain⟨x,hx,rfl⟩:=(af n).1 hn;rw[(hf x hx).key]at hk;rw[(hf x hx).up];exact T.top x hx hk
 ·intro n hn k z hk;obtain⟨x,hx,rfl⟩:=(af n).1 hn;rw[(hf x hx).key]at hk;obtain⟨p,h1,h2,h3,h4⟩:=T.par x hx k z hk
  exact⟨f p,(af _).2 ⟨p,h1,rfl⟩,(hf p h1).key.trans h2,(hf p h1).leaf.trans h3,by rw[(hf x hx).up,(hf p h1).blk];exact h4⟩
 ·intro p hp;obtain⟨x,hx,rfl⟩:=(af p).1 hp;obtain⟨ks,k1,k2,k3⟩:=T.kids x hx
  refine⟨ks.map f,?_,fun k=>?_,?_⟩
  ·rw[(hf x hx).kids,k1,List.map_map]
   exact List.map_congr_left (fun n hn=>((hf n ((k2 n).1 hn).1).blk).symm)
  ·rw[(hf x hx).key]
   constructor
   ·intro h;obtain⟨z,hz,rfl⟩:=xrq.1 h;obtain⟨g1,y,g2⟩:=(k2 z).1 hz
    exact⟨(af _).2 ⟨z,g1,rfl⟩,y,by rw[(hf z g1).key];exact g2⟩
   ·rintro⟨h,y,hy⟩
    obtain⟨z,hz,rfl⟩:=(af k).1 h;rw[(hf z hz).key]at hy
    exact xrq.2 ⟨z,(k2 z).2 ⟨hz,y,hy⟩,rfl⟩
  ·have:(ks.map f).map (fun k=>qad k.key)=ks.map fun k=>qad k.key:=by
    rw[List.map_map];exact List.map_congr_left (fun n hn=>by simp only[Function.comp];rw[(hf n ((k2 n).1 hn).1).key])
   rw[this];exact k3
theorem qa2.mapN{τ : Nat->Tag}{t:Nat}{W:World}{bt:Nat}{nodes:List Node}{last:Int}{vw va:Value}{ws as_:List Pw}(h:qa2 τ t W bt nodes last vw va ws as_){f:Node->Node}(hf:∀n∈nodes,qrx n (f n))(T':Tree (nodes.map f))
  (k:Keep T W W') (hT:∀b,b<W.heap.size->T b->∃n∈nodes,n.blk=b) (bD:∀n∈nodes,qag W' (f n)) (hτ : ∀b,b<W.heap.size -> τ' b = τ b):qa2 τ' t W' bt (nodes.map f) last vw va ws as_:=by
 obtain⟨l1,l2,l3⟩:=h.lts;obtain⟨r,hr,hb⟩:=h.bk;have eF:=xr2 hr;have gi:∀b,b<W.heap.size->T b->(τ b).k=1:=fun b bh e=>by
  obtain⟨n,hn,rfl⟩:=hT b bh e;obtain⟨i,hi⟩:=xre hn;rw[(h.pr.tags i n hi).1]
 have rv:∀n∈nodes.map f,qag W' n:=fun n hn=>by obtain⟨x,hx,rfl⟩:=xrq.1 hn;exact bD x hx
 have cD:Blk W' bt 102 #[nptr (f r).blk,.int .i64 last,vw,va]:=by
  rw[(hf r eF).blk]
  exact hb.bk.at_.keep k (fun e=>by have:=gi _ l1 e;rw[h.pr.ttag]at this;simp at this)
 refine⟨⟨T',rv,fun i n hi=>?_,⟨f r,by simp[hr],cD⟩,by rw[hτ _ l1];exact h.pr.ttag,fun a ha b hb e=>by
  obtain⟨x,hx,rfl⟩:=xrq.1 ha;obtain⟨y,hy,rfl⟩:=xrq.1 hb;rw[(hf x hx).blk,(hf y hy).blk]at e;rw[h.pr.binj x hx y hy e]⟩,⟨f r,by simp[hr],rv,?_,fun p hp=>?_,hb.nm⟩,fun b e=>by rw[hτ b (l2 b e)];exact h.wtag b e,fun p hq=>by rw[hτ _ (l3 p hq)];exact h.ptag p hq⟩
 ·simp only[xrs,Option.map_eq_some_iff]at hi;obtain⟨x,hx,rfl⟩:=hi;have cm:=xr2 hx;obtain⟨t1,t2⟩:=h.pr.tags i x hx;have hn:=h.pr.ins x cm
  exact⟨by rw[(hf x cm).blk,hτ _ hn.lt];exact t1,fun g hg=>by rw[(hf x cm).sl]at hg;rw[(hf x cm).blk,hτ _ (hn.row.lt g hg).2];exact t2 g hg⟩
 ·have hB:=hb.bk
  refine⟨cD,qaf hB.wrow k (fun g hg e=>by have:=gi _ (l2 g (.inl hg)) e;rw[h.wtag g (.inl hg)]at this;simp at this),qaf hB.arow k (fun g hg e=>by have:=gi _ (l2 g (.inr hg)) e;rw[h.wtag g (.inr hg)]at this;simp at this),fun p hp=>(hB.works p hp).keep k (fun e=>by have:=gi _ (l3 p hp) e;rw[h.ptag p hp]at this;simp at this),hB.sep,hB.nd,hB.inj,hB.len⟩
 ·obtain⟨n,hn,e1,e2⟩:=hb.lf p hp
  exact⟨f n,xrj hn,(hf n hn).blk.trans e1,(hf n hn).key.trans e2⟩
def setQ (nodes:List Node)(k:List Bs)(a b c d:Int):List Node:=nodes.map fun n=>if n.key=k then n.qbb a b c d else n
theorem qcc(k:List Bs)(a b c d:Int)(n:Node):qrx n (if n.key=k then n.qbb a b c d else n):=by
 by_cases h:n.key=k
 ·rw[if_pos h];exact⟨rfl,rfl,rfl,rfl,rfl,rfl⟩
 ·rw[if_neg h];exact⟨rfl,rfl,rfl,rfl,rfl,rfl⟩
theorem Tree.setQ{nodes:List Node}(T:Tree nodes){k:List Bs}(hk:k≠[]){b:Int}(h1:qao a b=true)(h2:qao c d=true):Tree (setQ nodes k a b c d):=by
 simp[qao]at h1 h2
 refine T.mapN (fun n _=>qcc k a b c d n) (fun n hn=>?_) (fun n hn fm=>?_)
 ·have:=T.num n hn
  by_cases h:n.key=k
  ·rw[if_pos h]
   cases hl:n.leaf
   ·have h3:=this.2.2.2.2 hl;simp only[Node.qbb,hl,Bool.false_eq_true,if_false]
    exact⟨this.1,this.2.1,by omega,by omega,fun _=>h3⟩
   ·simp only[Node.qbb,hl,if_true]
    exact⟨by omega,by omega,by omega,by omega,fun e=>by cases e⟩
  ·rw[if_neg h];exact this
 ·rw[if_neg (fun e=>hk (by rw[<-e,fm]))];obtain⟨r,g0,g1,g2,g3,g4⟩:=T.root;rw[T.inj n hn r (xr2 g0) (fm.trans g1.symm)]
  exact⟨g3,g4⟩
end Go.Proofs.YtphclnolomgjoaaGreatDoor
