import Derived.Test.YtphclnolomgjoaaGreatDoorB29
set_option linter.unusedVariables false
set_option linter.unusedSimpArgs false
set_option maxRecDepth 100000
set_option maxHeartbeats 4000000
namespace Go.Proofs.YtphclnolomgjoaaGreatDoor
open Tryz
open Go.RowKit
variable {kk ns:List Bs}{b bq bt2 gp gq gt:Nat}{W2 w':World}{td te x1 x2 y2:Value}{er:Int}{aE ar:List Node}{l qt tj:List Pw}{τ':Nat->Tag}{n:Node}{Ws:List Wk}
theorem qsr(hs:ns.Pairwise fun a b=>cmpB a b<0){nm:Bs}{at_:Nat}(h:Found ns nm at_ false):(ns.take at_++nm::ns.drop at_).Pairwise fun a b=>cmpB a b<0:=by
 obtain⟨f1,f2,f3,f4⟩:=h;have dw:=hs;have gW:=List.take_append_drop at_ ns;rw[<-gW]at hs;obtain⟨s1,s2,s3⟩:=xrx.1 hs
 refine xrx.2 ⟨s1,List.pairwise_cons.2 ⟨?_,s2⟩,?_⟩
 ·intro y hy;obtain⟨i,hi⟩:=xre hy;rw[List.getElem?_drop]at hi;have g1:=f3 (at_+i) y (by omega) hi;have g2:cmpB y nm≠0:=fun e0=>by
   have:=qic _ _ e0
   subst this
   rcases Nat.eq_zero_or_pos i with rfl|dC
   ·have:=f4.2 (by simpa using hi);cases this
   ·have bN:at_<ns.length:=by have:=(xr0.1 hi).1;omega
    have g3:=f3 at_ _ (Nat.le_refl _) (xr1 bN);have g5:=List.pairwise_iff_getElem.1 dw at_ (at_+i) bN (xr0.1 hi).1 (by omega);rw[(xr0.1 hi).2]at g5
    omega
  have g6:cmpB nm y = - cmpB y nm:=qk5 _ _
  omega
 ·intro x hx y hy;obtain⟨i,hi⟩:=xre hx;rw[List.getElem?_take]at hi
  split at hi
  ·rename_i bN
   have g1:=f2 i x bN hi
   rcases List.mem_cons.1 hy with rfl|hy
   ·exact g1
   ·exact s3 x hx y hy
  ·cases hi
theorem qv5{k:List Bs}{x:Bs}(h:k <+: kk++[x])(aW:k≠kk++[x]):k <+: kk:=by
 obtain⟨t,ht⟩:=h;have pZ:t≠[]:=fun e=>aW (by rw[<-ht,e,List.append_nil])
 have e:t=t.dropLast++[t.getLast pZ]:=(List.dropLast_concat_getLast pZ).symm;rw[e,<- List.append_assoc]at ht
 exact⟨_,(qc5 ht).1⟩
structure Mv (nodes:List Node) (q p tq:Node) (nm:Bs) (ks:List Node) (i:Nat) (kt:List Node) (at_:Nat):Prop where
 T:Tree nodes
 hq:q∈nodes
 hp:p∈nodes
 ht:tq∈nodes
 qp:q.key=p.key++[nm]
 tl:tq.leaf=false
 qq7:¬q.key <+: tq.key
 no:∀n∈nodes,n.key≠tq.key++[nm]
 deep:∀n∈nodes,q.key <+: n.key->tq.key.length+1+(n.key.length-q.key.length)<=4
 pk:p.kids=ks.map (·.blk)
 pm:∀k,k∈ks↔(k∈nodes/\∃x,k.key=p.key++[x])
 ps:(ks.map fun k=>qad k.key).Pairwise fun a b=>cmpB a b<0
 pi:ks[i]?=some q
 tk:tq.kids=kt.map (·.blk)
 tm:∀k,k∈kt↔(k∈nodes/\∃x,k.key=tq.key++[x])
 ts:(kt.map fun k=>qad k.key).Pairwise fun a b=>cmpB a b<0
 tf:Found (kt.map fun k=>qad k.key) nm at_ false
def gM (q p tq:Node)(nm:Bs)(i:Nat)(aQ:Value)(at_:Nat)(aR:Value)(n:Node):Node :=
 if n.key=q.key then {q with key:=tq.key++[nm],up:=some tq.blk}
 else if n.key=p.key then p.qb6 i aQ
 else if n.key=tq.key then tq.qd4 at_ q.blk aR
 else {n with key:=mvK q.key (tq.key++[nm]) n.key}
section
variable {nodes:List Node}{q p tq:Node}{nm:Bs}{ks kt:List Node}{i at_:Nat} (h:Mv nodes q p tq nm ks i kt at_) (aQ aR:Value)
include h
theorem Mv.ne:q.key≠[]/\p.key≠q.key/\¬q.key <+: p.key/\p.key≠tq.key/\tq.key≠q.key:=by
 have hl:q.key.length=p.key.length+1:=by rw[h.qp];simp
 refine⟨by rw[h.qp];simp,fun e=>by rw[e]at hl;omega,fun e=>by have:=e.length_le;omega,fun e=>h.no q h.hq (by rw[h.qp,e]),fun e=>h.qq7 (e ▸ List.prefix_refl _)⟩
theorem Mv.fresh(n:Node)(hn:n∈nodes):¬(tq.key++[nm]) <+: n.key:=fun ⟨t,ht⟩=>by
 obtain⟨m,hm,e⟩:=h.T.pre t (tq.key++[nm]) n hn ht.symm
 exact h.no m hm e
theorem Mv.qvr{x y:Node}(hx:x∈nodes)(hy:y∈nodes)(e:mvK q.key (tq.key++[nm]) x.key=mvK q.key (tq.key++[nm]) y.key):x=y:=by
 refine h.T.inj x hx y hy ?_
 by_cases h1:q.key <+: x.key
 ·rw[qc0 h1]at e
  by_cases h2:q.key <+: y.key
  ·rw[qc0 h2]at e;have e:=List.append_cancel_left e;obtain⟨t1,e1⟩:=h1;obtain⟨t2,e2⟩:=h2;rw[<-e1,<- e2]at e ⊢
   simp at e
   rw[e]
  ·rw[qbe h2]at e
   exact absurd ⟨_,e⟩ (h.fresh y hy)
 ·rw[qbe h1]at e
  by_cases h2:q.key <+: y.key
  ·rw[qc0 h2]at e
   exact absurd ⟨_,e.symm⟩ (h.fresh x hx)
  ·rw[qbe h2]at e;exact e
theorem Mv.g(n:Node)(hn:n∈nodes):(gM q p tq nm i aQ at_ aR n).key=mvK q.key (tq.key++[nm]) n.key/\(gM q p tq nm i aQ at_ aR n).blk=n.blk/\(gM q p tq nm i aQ at_ aR n).leaf=n.leaf/\(gM q p tq nm i aQ at_ aR n).n0=n.n0/\(gM q p tq nm i aQ at_ aR n).n1=n.n1/\(gM q p tq nm i aQ at_ aR n).b0=n.b0/\(gM q p tq nm i aQ at_ aR n).b1=n.b1/\(n≠q->(gM q p tq nm i aQ at_ aR n).up=n.up):=by
 obtain⟨n1,n2,n3,n4,n5⟩:=h.ne;unfold gM
 by_cases e1:n.key=q.key
 ·rw[if_pos e1];obtain rfl:=h.T.inj n hn q h.hq e1;rw[qc0 (List.prefix_refl _)]
  exact⟨by simp,rfl,rfl,rfl,rfl,rfl,rfl,fun e=>absurd rfl e⟩
 ·rw[if_neg e1]
  by_cases e2:n.key=p.key
  ·rw[if_pos e2];obtain rfl:=h.T.inj n hn p h.hp e2;rw[qbe n3]
   exact⟨rfl,rfl,rfl,rfl,rfl,rfl,rfl,fun _=>rfl⟩
  ·rw[if_neg e2]
   by_cases e3:n.key=tq.key
   ·rw[if_pos e3];obtain rfl:=h.T.inj n hn tq h.ht e3;rw[qbe h.qq7]
    exact⟨rfl,rfl,rfl,rfl,rfl,rfl,rfl,fun _=>rfl⟩
   ·rw[if_neg e3]
    exact⟨rfl,rfl,rfl,rfl,rfl,rfl,rfl,fun _=>rfl⟩
theorem Mv.below(y z:Node)(hy:y∈nodes)(hz:z∈nodes):(∃x,(gM q p tq nm i aQ at_ aR y).key=(gM q p tq nm i aQ at_ aR z).key++[x])↔(y=q/\z=tq)\/(y≠q/\∃x,y.key=z.key++[x]):=by
 obtain⟨n1,n2,n3,n4,n5⟩:=h.ne;rw[(h.g aQ aR y hy).1,(h.g aQ aR z hz).1]
 by_cases e:y=q
 ·subst e;rw[qc0 (List.prefix_refl _),List.drop_length,List.append_nil]
  constructor
  ·rintro⟨x,hx⟩
   obtain⟨h1,_⟩:=qc5 hx
   left
   refine⟨rfl,(h.qvr h.ht hz ?_).symm⟩
   rw[qbe h.qq7];exact h1
  ·rintro(⟨_,rfl⟩|⟨h1,_⟩)
   ·exact⟨nm,by rw[qbe h.qq7]⟩
   ·exact absurd rfl h1
 ·have sH:y.key≠q.key:=fun e2=>e (h.T.inj y hy q h.hq e2)
  rcases List.eq_nil_or_concat y.key with h0|⟨kk,x0,h0⟩
  ·have ay:¬q.key <+: y.key:=fun e2=>n1 (by rw[h0]at e2;exact List.prefix_nil.1 e2)
   rw[qbe ay,h0]
   constructor
   ·rintro⟨x,hx⟩;simp at hx
   ·rintro(⟨e2,_⟩|⟨_,x,hx⟩)
    ·exact absurd e2 e
    ·simp at hx
  ·have h0:y.key=kk++[x0]:=by rw[h0,List.concat_eq_append]
   obtain⟨pp,g1,g2,_⟩:=h.T.par y hy kk x0 h0;have gQ:mvK q.key (tq.key++[nm]) y.key=mvK q.key (tq.key++[nm]) pp.key++[x0]:=by
    rw[h0,g2]
    by_cases e2:q.key <+: kk
    ·rw[qc0 e2,qc0 (e2.trans (xry _ _)),List.drop_append_of_le_length e2.length_le];simp only[List.append_assoc]
    ·rw[qbe e2,qbe (fun e3=>e2 (qv5 e3 (fun e4=>sH (by rw[h0];exact e4.symm))))]
   rw[gQ]
   constructor
   ·rintro⟨x,hx⟩
    obtain⟨h1,_⟩:=qc5 hx
    have:=h.qvr g1 hz h1
    right
    exact⟨e,x0,by rw[h0,<- g2,this]⟩
   ·rintro(⟨e2,_⟩|⟨_,x,hx⟩)
    ·exact absurd e2 e
    ·rw[h0]at hx;obtain⟨h1,h2⟩:=qc5 hx
     have:pp=z:=h.T.inj pp g1 z hz (g2.trans h1)
     rw[this];exact⟨x0,rfl⟩
theorem Mv.last(y:Node)(hy:y∈nodes):qad (gM q p tq nm i aQ at_ aR y).key=qad y.key:=by
 obtain⟨n1,n2,n3,n4,n5⟩:=h.ne;rw[(h.g aQ aR y hy).1]
 by_cases e:q.key <+: y.key
 ·rw[qc0 e];obtain⟨t,ht⟩:=e;rw[<-ht,List.drop_left]
  rcases List.eq_nil_or_concat t with h0|⟨kk,x0,h0⟩
  ·rw[h0,List.append_nil,List.append_nil,qaq,h.qp,qaq]
  ·have h0:t=kk++[x0]:=by rw[h0,List.concat_eq_append]
   rw[h0,<- List.append_assoc,<- List.append_assoc,qaq,qaq]
 ·rw[qbe e]
theorem Mv.tree:Tree (nodes.map (gM q p tq nm i aQ at_ aR)):=by
 obtain⟨n1,n2,n3,n4,n5⟩:=h.ne;have T:=h.T;have hg:=h.g aQ aR;have fu:=h.below aQ aR;have nQ:=h.last aQ aR;have af:∀x,x∈nodes.map (gM q p tq nm i aQ at_ aR)↔∃n∈nodes,x=gM q p tq nm i aQ at_ aR n:=fun x=>by simp only[xrq];exact⟨fun ⟨n,h,e⟩=>⟨n,h,e.symm⟩,fun ⟨n,h,e⟩=>⟨n,h,e.symm⟩⟩
 have e1:gM q p tq nm i aQ at_ aR q={q with key:=tq.key++[nm],up:=some tq.blk}:=by unfold gM;rw[if_pos rfl]
 have e2:gM q p tq nm i aQ at_ aR p=p.qb6 i aQ:=by unfold gM;rw[if_neg n2,if_pos rfl]
 have e3:gM q p tq nm i aQ at_ aR tq=tq.qd4 at_ q.blk aR:=by unfold gM;rw[if_neg n5,if_neg (fun e=>n4 e.symm),if_pos rfl]
 have e4:∀n∈nodes,n≠p->n≠tq->(gM q p tq nm i aQ at_ aR n).kids=n.kids:=fun n hn h1 h2=>by
  unfold gM
  by_cases c1:n.key=q.key
  ·rw[if_pos c1];rw[T.inj n hn q h.hq c1]
  ·rw[if_neg c1,if_neg (fun e=>h1 (T.inj n hn p h.hp e)),if_neg (fun e=>h2 (T.inj n hn tq h.ht e))]
 have bQ:qbr nm=true:=qby (T.ok q h.hq).1 (by rw[h.qp];simp);generalize gM q p tq nm i aQ at_ aR=g at *
 refine⟨?_,?_,?_,?_,?_,?_,?_,?_,by simpa using T.len⟩
 ·obtain⟨r,h0,h1,h2,h3,h4⟩:=T.root;have hr:=xr2 h0;obtain⟨g1,g2,g3,g4,g5,g6,g7,_⟩:=hg r hr
  refine⟨g r,by simp[h0],?_,g3.trans h2,g6.trans h3,g7.trans h4⟩
  rw[g1,qbe (fun e=>n1 (by rw[h1]at e;exact List.prefix_nil.1 e)),h1]
 ·intro n hn m hm e;obtain⟨x,hx,rfl⟩:=(af n).1 hn;obtain⟨y,hy,rfl⟩:=(af m).1 hm;rw[(hg x hx).1,(hg y hy).1]at e;rw[h.qvr hx hy e]
 ·rw[List.map_map];have bT:=T.nd;unfold List.Nodup at bT ⊢;rw[List.pairwise_map]
  refine List.Pairwise.imp_of_mem (fun {a b} ha hb aW e=>aW ?_) bT
  simp only[Function.comp]at e;rw[(hg a ha).1,(hg b hb).1]at e
  exact h.qvr ha hb e
 ·intro n hn;obtain⟨x,hx,rfl⟩:=(af n).1 hn;rw[(hg x hx).1];have uh:=T.ok x hx
  by_cases c:q.key <+: x.key
  ·rw[qc0 c];have hd:=h.deep x hx c;have uc:=(T.ok tq h.ht).1
   refine⟨?_,by simp;omega⟩
   unfold qbx at uc uh ⊢;rw[List.all_append,List.all_append,uc];have h1:(x.key.drop q.key.length).all qbr=true:=by
    rw[List.all_eq_true]at uh ⊢
    exact fun y hy=>uh.1 y (List.mem_of_mem_drop hy)
   rw[h1];simp[bQ]
  ·rw[qbe c];exact uh
 ·intro n hn;obtain⟨x,hx,rfl⟩:=(af n).1 hn;obtain⟨g1,g2,g3,g4,g5,g6,g7,_⟩:=hg x hx;rw[g3,g4,g5,g6,g7];exact T.num x hx
 ·intro n hn hk;obtain⟨x,hx,rfl⟩:=(af n).1 hn;obtain⟨g1,_,_,_,_,_,_,g8⟩:=hg x hx;rw[g1]at hk;have C9:x≠q:=fun e=>by rw[e,qc0 (List.prefix_refl _)]at hk;simp at hk
  rw[g8 C9]
  refine T.top x hx ?_
  by_cases c:q.key <+: x.key
  ·rw[qc0 c]at hk;simp at hk
  ·rw[qbe c]at hk;exact hk
 ·intro n hn k z hk;obtain⟨x,hx,rfl⟩:=(af n).1 hn
  by_cases c:x=q
  ·subst c;rw[e1]at hk ⊢;have hk:tq.key++[nm]=k++[z]:=hk
   refine⟨g tq,(af _).2 ⟨tq,h.ht,rfl⟩,?_,(hg tq h.ht).2.2.1.trans h.tl,?_⟩
   ·rw[(hg tq h.ht).1,qbe h.qq7];exact(qc5 hk).1
   ·show some tq.blk=some (g tq).blk
    rw[(hg tq h.ht).2.1]
  ·obtain⟨g1,_,_,_,_,_,_,g8⟩:=hg x hx;rw[g8 c]
   rcases List.eq_nil_or_concat x.key with h0|⟨kk,x0,h0⟩
   ·rw[g1,qbe (fun e=>n1 (by rw[h0]at e;exact List.prefix_nil.1 e)),h0]at hk
    simp at hk
   ·have h0:x.key=kk++[x0]:=by rw[h0,List.concat_eq_append]
    obtain⟨pp,a1,a2,a3,a4⟩:=T.par x hx kk x0 h0;obtain⟨x1,sF⟩:=(fu x pp hx a1).2 (.inr ⟨c,x0,by rw[h0,a2]⟩)
    refine⟨g pp,(af _).2 ⟨pp,a1,rfl⟩,?_,(hg pp a1).2.2.1.trans a3,by rw[(hg pp a1).2.1];exact a4⟩
    exact(qc5 (sF.symm.trans hk)).1
 ·intro n hn;obtain⟨z,hz,rfl⟩:=(af n).1 hn;have ta:∀l:List Node,(∀y∈l,y∈nodes)->(l.map g).map (fun k=>qad k.key)=l.map fun k=>qad k.key:=fun l hl=>by
   rw[List.map_map];exact List.map_congr_left fun y hy=>nQ y (hl y hy)
  have blks:∀l:List Node,(∀y∈l,y∈nodes)->(l.map g).map (·.blk)=l.map (·.blk):=fun l hl=>by
   rw[List.map_map];exact List.map_congr_left fun y hy=>(hg y (hl y hy)).2.1
  have aT:∀l:List Node,(∀y,y∈l↔(y∈nodes/\((y=q/\z=tq)\/(y≠q/\∃x,y.key=z.key++[x]))))->(g z).kids=l.map (·.blk)->(l.map fun k=>qad k.key).Pairwise (fun a b=>cmpB a b<0)->∃ks:List Node,(g z).kids=ks.map (·.blk)/\(∀k,k∈ks↔(k∈nodes.map g/\∃x,k.key=(g z).key++[x]))/\(ks.map fun k=>qad k.key).Pairwise fun a b=>cmpB a b<0:=fun l hl h1 h2=>by
   have jK:∀y∈l,y∈nodes:=fun y hy=>((hl y).1 hy).1
   refine⟨l.map g,by rw[blks l jK];exact h1,fun k=>?_,by rw[ta l jK];exact h2⟩
   constructor
   ·intro hk;obtain⟨y,hy,rfl⟩:=xrq.1 hk;obtain⟨a1,a2⟩:=(hl y).1 hy
    exact⟨(af _).2 ⟨y,a1,rfl⟩,(fu y z a1 hz).2 a2⟩
   ·rintro⟨hk,hx⟩
    obtain⟨y,hy,rfl⟩:=(af k).1 hk
    exact xrj ((hl y).2 ⟨hy,(fu y z hy hz).1 hx⟩)
  by_cases c1:z=p
  ·subst c1;have gr:=qlk h.ps
   refine aT (ks.take i++ks.drop (i+1)) (fun y=>?_) ?_ ?_
   ·rw[qcw gr h.pi y,h.pm]
    constructor
    ·rintro⟨⟨a1,a2⟩,a3⟩;exact⟨a1,.inr ⟨a3,a2⟩⟩
    ·rintro⟨a1,(⟨_,a2⟩|⟨a2,a3⟩)⟩
     ·exact absurd (by rw[a2]) n4
     ·exact⟨⟨a1,a3⟩,a2⟩
   ·rw[e2]
    show z.kids.take i++z.kids.drop (i+1)=_
    rw[h.pk,List.map_append,List.map_take,List.map_drop]
   ·refine List.Pairwise.sublist (List.Sublist.map _ ?_) h.ps
    conv=>rhs;rw[<-List.take_append_drop i ks]
    exact List.Sublist.append (List.Sublist.refl _) (List.drop_sublist_drop_left ks (Nat.le_succ i))
  ·by_cases c2:z=tq
   ·subst c2;have cT:q ∉ kt:=fun e=>by
     obtain⟨_,x,hx⟩:=(h.tm q).1 e;rw[h.qp]at hx
     exact n4 (qc5 hx).1
    refine aT (kt.take at_++q::kt.drop at_) (fun y=>?_) ?_ ?_
    ·have bD:y∈kt.take at_++q::kt.drop at_↔y=q\/y∈kt:=by
      conv=>rhs;rw[<-List.take_append_drop at_ kt]
      simp only[xri,List.mem_cons]
      constructor
      ·rintro(a|a|a)
       ·exact .inr (.inl a)
       ·exact .inl a
       ·exact .inr (.inr a)
      ·rintro(a|a|a)
       ·exact .inr (.inl a)
       ·exact .inl a
       ·exact .inr (.inr a)
     rw[bD,h.tm]
     constructor
     ·rintro(rfl|⟨a1,a2⟩)
      ·exact⟨h.hq,.inl ⟨rfl,rfl⟩⟩
      ·exact⟨a1,.inr ⟨fun e=>cT (by rw[<-e];exact(h.tm y).2 ⟨a1,a2⟩),a2⟩⟩
     ·rintro⟨a1,(⟨a2,_⟩|⟨_,a3⟩)⟩
      ·exact .inl a2
      ·exact .inr ⟨a1,a3⟩
    ·rw[e3]
     show z.kids.take at_++q.blk::z.kids.drop at_=_
     rw[h.tk,List.map_append,List.map_cons,List.map_take,List.map_drop]
    ·have:=qsr h.ts h.tf
     rw[List.map_append,List.map_cons,List.map_take,List.map_drop,show qad q.key=nm by rw[h.qp,qaq]]
     exact this
   ·obtain⟨kz,k1,k2,k3⟩:=T.kids z hz;have cT:q ∉ kz:=fun e=>by
     obtain⟨_,x,hx⟩:=(k2 q).1 e;rw[h.qp]at hx
     exact c1 (T.inj z hz p h.hp (qc5 hx).1.symm)
    refine aT kz (fun y=>?_) (by rw[e4 z hz c1 c2];exact k1) k3
    rw[k2]
    constructor
    ·rintro⟨a1,a2⟩;exact⟨a1,.inr ⟨fun e=>cT (by rw[<-e];exact(k2 y).2 ⟨a1,a2⟩),a2⟩⟩
    ·rintro⟨a1,(⟨_,a2⟩|⟨_,a3⟩)⟩
     ·exact absurd a2 c2
     ·exact⟨a1,a3⟩
end
theorem qqr{x:Bs}{a:Nat}{s t:Bool}(h1:Found ns x a s)(h2:Found ns x b t):a=b:=by
 rcases Nat.lt_trichotomy a b with h|h|h
 ·have hl:a<ns.length:=by have:=h2.1;omega
  have e:=xr1 hl;have c1:=h2.2.1 a _ h e;have c2:=h1.2.2.1 a _ (Nat.le_refl _) e
  omega
 ·exact h
 ·have hl:b<ns.length:=by have:=h1.1;omega
  have e:=xr1 hl;have c1:=h1.2.1 b _ h e;have c2:=h2.2.2.1 b _ (Nat.le_refl _) e
  omega
theorem qlb{nm:Bs}:∀(ns:List Bs),ns.Pairwise (fun a b=>cmpB a b<0)->nm ∉ ns->∃at_,Found ns nm at_ false
 | [],_,_=>⟨0,qmh _⟩
 |a::l,hs,hn=>by
  obtain⟨h1,h2⟩:=List.pairwise_cons.1 hs
  by_cases c:cmpB a nm<0
  ·obtain⟨at_,f1,f2,f3,f4⟩:=qlb l h2 (fun e=>hn (xru _ e))
   refine⟨at_+1,by simp;omega,fun j n hj i_=>?_,fun j n hj i_=>?_,?_⟩
   ·cases j with
    |zero=>simp at i_;rw[<-i_];exact c
    |succ j=>exact f2 j n (by omega) (by simpa using i_)
   ·cases j with
    |zero=>omega
    |succ j=>exact f3 j n (by omega) (by simpa using i_)
   ·rw[f4];simp
  ·refine⟨0,Nat.zero_le _,fun j n hj=>by omega,fun j n _ i_=>?_,?_⟩
   ·cases j with
    |zero=>simp at i_;rw[<-i_];omega
    |succ j =>
     have hm:n∈l:=xr2 (by simpa using i_);have c2:=h1 n hm
     rcases Int.lt_or_le (cmpB n nm) 0 with c3|c3
     ·exact absurd (qgp a n nm c2 c3) c
     ·exact c3
   ·constructor
    ·intro e;cases e
    ·intro e;simp at e;exact absurd (by rw[e];simp) hn
def Tch3 (q p tq:Node)(x:Nat):Prop:=TchQ p q x\/x=tq.blk\/tq.sl.ownBlock=some x
structure MoM (W:World) (q p tq:Node) (nm:Bs) (i:Nat) (aQ:Value) (at_:Nat) (aR:Value) (w':World):Prop where
 own1:aQ.ownBlock=p.sl.ownBlock
 own2:aR.ownBlock=tq.sl.ownBlock\/∃g,aR.ownBlock=some g/\W.heap.size<=g
 par:qag w' (p.qb6 i aQ)
 tar:qag w' (tq.qd4 at_ q.blk aR)
 kid:qag w' {q with key:=tq.key++[nm],up:=some tq.blk}
 keep:Keep (Tch3 q p tq) W w'
theorem qoc{w:World}{nm:ByteArray}{P1:World->Prop}{P2:World->Prop}
  (h1:Calls prog 97 #[.pointer (some ⟨bq,0,none⟩)] w fun e w'=>e=.returned (.tuple #[])/\w'.cell? ⟨bq,0,none⟩=some (.string nm)/\P1 w')
  (h2:∀W1,P1 W1->Calls prog 82 #[.pointer (some ⟨bt2,0,none⟩),.string nm,.pointer (some ⟨bq,0,none⟩)] W1 fun e w'=>e=.returned (.tuple #[])/\P2 w') :
  Calls prog 94 #[.pointer (some ⟨bq,0,none⟩),.pointer (some ⟨bt2,0,none⟩)] w fun e w'=>e=.returned (.tuple #[])/\P2 w':=by
 go_enter func94,ntmps94
 go_wp2_with (first
  |(go_at_call 97;refine h1.mono ?_;rintro e w1 ⟨rfl,hc,iP⟩)
  |(go_at_call 82;refine(h2 _ iP).mono ?_;rintro e w2 ⟨rfl,oi⟩))
 go_end0
 exact⟨rfl,oi⟩
section
variable {τ : Nat->Tag}{t:Nat}{w:World}{bt:Nat}{nodes:List Node}{last:Int}{vw va:Value}{ws as_:List Pw}{q p tq:Node}{nm:Bs}{ks kt:List Node}{i at_:Nat}
theorem qi6(h:qa2 τ t w bt nodes last vw va ws as_)(M:Mv nodes q p tq nm ks i kt at_):
  Calls prog 94 #[.pointer (some ⟨q.blk,0,none⟩),.pointer (some ⟨tq.blk,0,none⟩)] w fun e w'=>e=.returned (.tuple #[])/\∃aQ aR,MoM w q p tq nm i aQ at_ aR w':=by
 have T:=h.pr.tree;obtain⟨n1,n2,n3,n4,n5⟩:=M.ne;have dK:q≠p:=fun e=>n2 (by rw[e])
 have tW:q≠tq:=fun e=>n5 (by rw[e])
 have tT:p≠tq:=fun e=>n4 (by rw[e])
 obtain⟨pp,a1,a2,_,di⟩:=T.par q M.hq p.key nm M.qp
 have:pp=p:=T.inj pp a1 p M.hp a2
 subst this;have jr:qad q.key=nm:=by rw[M.qp];exact qaq _ _
 have ri:∀ {z:Node} {l:List Node},z∈nodes->z.kids=l.map (·.blk)->l.length<=1000:=fun hz e=>by have:=qlj T hz;rw[e]at this;simpa using this
 have KP:qf0 w pp ks:=⟨M.pk,fun k hk=>h.pr.ins k ((M.pm k).1 hk).1,M.ps,ri M.hp M.pk⟩;have A1:=h.apart M.hp M.hq;have A2:=h.apart M.hq M.hp;have A3:=h.apart M.hp M.hp;have A4:=h.apart M.hq M.hq;have B1:=h.apart M.ht M.hq;have B2:=h.apart M.hq M.ht;have B3:=h.apart M.ht M.ht;have B4:=h.apart M.ht M.hp;have B5:=h.apart M.hp M.ht;have hl:=qmx (h.pr.ins pp M.hp) (h.pr.ins q M.hq) KP M.pi di (A1.2.1 (fun e=>dK e.symm)) A3.1 A1.1 A4.1 A2.1 (A1.2.2 (fun e=>dK e.symm))
 refine qoc (nm:=sb nm) (P1:=fun W1=>∃aQ,LvM w pp q i aQ W1) (hl.mono ?_) (fun W1 j7=>?_)
 ·rintro e w' ⟨rfl,sl,e1,e2,e3,e4⟩
  refine⟨rfl,?_,sl,⟨e1,e2,e3,e4⟩⟩
  have:=e3.cell (i:=0) (v:=.string (sb (qad q.key))) rfl
  rw[jr]at this;exact this
 ·obtain⟨aQ,L⟩:=j7;have l_:qag W1 tq:=h.other M.hq M.hp M.ht (fun e=>tT e.symm) (fun e=>tW e.symm) L.keep;have hf:∀k∈kt,(if k.key=pp.key then pp.qb6 i aQ else k).blk=k.blk/\(if k.key=pp.key then pp.qb6 i aQ else k).key=k.key:=fun k hk=>by
   by_cases c:k.key=pp.key
   ·have:k=pp:=T.inj k ((M.tm k).1 hk).1 pp M.hp c
    subst this;rw[if_pos rfl];exact⟨rfl,rfl⟩
   ·rw[if_neg c];exact⟨rfl,rfl⟩
  have yv:(kt.map fun k=>if k.key=pp.key then pp.qb6 i aQ else k).map (fun k=>qad k.key)=kt.map fun k=>qad k.key:=by
   rw[List.map_map];exact List.map_congr_left fun k hk=>by simp only[Function.comp];rw[(hf k hk).2]
  have KT:qf0 W1 tq (kt.map fun k=>if k.key=pp.key then pp.qb6 i aQ else k):=by
   refine⟨?_,fun k hk=>?_,by rw[yv];exact M.ts,by rw[List.length_map];exact ri M.ht M.tk⟩
   ·rw[List.map_map,M.tk];exact List.map_congr_left fun k hk=>((hf k hk).1).symm
   ·obtain⟨z,hz,rfl⟩:=xrq.1 hk;obtain⟨b1,x,b2⟩:=(M.tm z).1 hz
    by_cases c:z.key=pp.key
    ·rw[if_pos c];exact L.par
    ·rw[if_neg c]
     exact h.other M.hq M.hp b1 (fun e=>c (by rw[e])) (fun e=>n4 (by rw[e,M.qp]at b2;exact(qc5 b2).1)) L.keep
  have bQ:qbr nm=true:=qby (T.ok q M.hq).1 (by rw[M.qp];simp);have ay:∀k∈kt.map fun k=>if k.key=pp.key then pp.qb6 i aQ else k,qad k.key≠nm:=fun k hk e=>by
   obtain⟨z,hz,rfl⟩:=xrq.1 hk;rw[(hf z hz).2]at e;obtain⟨b1,x,b2⟩:=(M.tm z).1 hz;rw[b2,qaq]at e
   exact M.no z b1 (by rw[b2,e])
  refine(qpc l_ L.kid KT nm bQ ay (k':=tq.key++[nm]) (qaq _ _) (fun e=>B2.2.1 tW e) B1.1 B3.1 A4.1 B2.1 (B1.2.2 (fun e=>tW e.symm))).mono ?_
  rintro e w' ⟨rfl,Ao,aR,hF,f1,f2,f3,f4⟩
  rw[yv]at hF;have bJ:Ao=at_:=qqr hF M.tf;subst bJ
  refine⟨rfl,aQ,aR,⟨L.own,?_,?_,f1,f2,?_⟩⟩
  ·rcases f4 with e|⟨g,e,hg⟩
   ·exact .inl e
   ·exact .inr ⟨g,e,by have:=L.keep.size;omega⟩
  ·refine L.par.keep f3 (fun e=>?_) (fun g hg e=>?_)
   ·rcases e with e|e|e
    ·exact B5.2.1 tT e
    ·exact A1.2.1 (fun e2=>dK e2.symm) e
    ·exact B4.1 e
   ·have hg:aQ.ownBlock=some g:=hg;rw[L.own]at hg
    rcases e with e|e|e
    ·exact B5.1 (by rw[hg,e])
    ·exact A1.1 (by rw[hg];exact congrArg some e)
    ·exact B5.2.2 tT g hg e
  ·exact(L.keep.mono (fun b e=>.inl e)).trans (f3.mono (fun b e=>by
    rcases e with e|e|e
    ·exact .inr (.inl e)
    ·exact .inl (.inr (.inl e))
    ·exact .inr (.inr e)))
def mvP (k k':List Bs)(y:Pw):Pw:={y with x:=mvW k k' y.x}
theorem qvs(k k':List Bs)(y:Pw):qnk y (mvP k k' y):=⟨rfl,rfl,rfl,rfl,rfl⟩
theorem qa2.qod(h:qa2 τ t w bt nodes last vw va ws as_)(M:Mv nodes q p tq nm ks i kt at_){aQ aR:Value}(m:MoM w q p tq nm i aQ at_ aR w'):
  PMid τ t w bt (nodes.map (gM q p tq nm i aQ at_ aR)) last vw va (ws.map (mvP q.key (tq.key++[nm]))) (as_.map (mvP q.key (tq.key++[nm]))) w':=by
 have T:=h.pr.tree;obtain⟨n1,n2,n3,n4,n5⟩:=M.ne;have dK:q≠p:=fun e=>n2 (by rw[e])
 have tW:q≠tq:=fun e=>n5 (by rw[e])
 have tT:p≠tq:=fun e=>n4 (by rw[e])
 have hg:=M.g aQ aR;have nQ:=M.last aQ aR;have af:∀x,x∈nodes.map (gM q p tq nm i aQ at_ aR)↔∃n∈nodes,x=gM q p tq nm i aQ at_ aR n:=fun x=>by simp only[xrq];exact⟨fun ⟨n,h,e⟩=>⟨n,h,e.symm⟩,fun ⟨n,h,e⟩=>⟨n,h,e.symm⟩⟩
 obtain⟨τ',gY⟩:∃τ':Nat->Tag,τ'=fun x=>if x<w.heap.size then τ x else if aR.ownBlock=some x then .row t tq.blk else .free:=⟨_,rfl⟩
 have fr:∀x,x<w.heap.size -> τ' x = τ x:=fun x hx=>by rw[gY];simp[hx]
 have sg:∀b,Tch3 q p tq b->((τ b).k=1\/(τ b).k=2)/\(τ b).prog t:=fun b hb=>by
  rcases hb with e|e|e
  ·exact h.tch M.hq M.hp b e
  ·exact h.tch M.ht M.ht b (.inl e)
  ·exact h.tch M.ht M.ht b (.inr (.inr e))
 have wY:∀z∈nodes,z≠p->z≠q->z≠tq->qag w' z:=fun z hz c1 c2 c3=>by
  refine(h.pr.ins z hz).keep m.keep (fun e=>?_) (fun g rk e=>?_)
  ·rcases e with (e|e|e)|e|e
   ·exact(h.apart hz M.hp).2.1 c1 e
   ·exact(h.apart hz M.hq).2.1 c2 e
   ·exact(h.apart M.hp hz).1 e
   ·exact(h.apart hz M.ht).2.1 c3 e
   ·exact(h.apart M.ht hz).1 e
  ·rcases e with (e|e|e)|e|e
   ·exact(h.apart hz M.hp).1 (by rw[rk,e])
   ·exact(h.apart hz M.hq).1 (by rw[rk,e])
   ·exact(h.apart hz M.hp).2.2 c1 g rk e
   ·exact(h.apart hz M.ht).1 (by rw[rk,e])
   ·exact(h.apart hz M.ht).2.2 c3 g rk e
 obtain⟨r,hr,hb⟩:=h.bk;obtain⟨eF,a_⟩:=qbp T hr
 refine⟨τ',fr,fun x hx=>?_,?_,m.keep.qkm (fun b hb e=>⟨hb,(sg b e).2⟩)⟩
 ·rw[gY];simp only[Nat.not_lt.2 hx,if_false]
  split
  ·exact .inr rfl
  ·exact .inl rfl
 refine h.new (τ' := τ') (M.tree aQ aR) (fun n hn=>?_) (fun n hn=>?_) (fun a ha b bh e=>?_) hr (r':=gM q p tq nm i aQ at_ aR r) (by rw[xrs,hr];rfl) (hg r eF).2.1 m.keep (fun b _ e=>(sg b e).1) fr (fun y _=>qvs _ _ y) (fun y hy=>?_)
 ·obtain⟨z,hz,rfl⟩:=(af n).1 hn;have hl:=nQ z hz;unfold gM at hl ⊢
  by_cases c1:z.key=q.key
  ·rw[if_pos c1];exact m.kid
  ·rw[if_neg c1]at hl ⊢
   by_cases c2:z.key=p.key
   ·rw[if_pos c2];exact m.par
   ·rw[if_neg c2]at hl ⊢
    by_cases c3:z.key=tq.key
    ·rw[if_pos c3];exact m.tar
    ·rw[if_neg c3]at hl ⊢;have zI:=wY z hz (fun e=>c2 (by rw[e])) (fun e=>c1 (by rw[e])) (fun e=>c3 (by rw[e]))
     refine⟨?_,zI.row⟩
     refine zI.at_.trans ?_
     simp only[Node.cells]at hl ⊢;rw[hl]
 ·obtain⟨z,hz,rfl⟩:=(af n).1 hn;obtain⟨j,hj⟩:=xre hz;obtain⟨t1,t2⟩:=h.pr.tags j z hj;rw[(hg z hz).2.1]
  refine⟨by rw[fr _ (h.pr.ins z hz).lt];exact t1,fun g eR=>?_⟩
  have kd:∀g,z.sl.ownBlock=some g -> τ' g=.row t z.blk:=fun g e=>by rw[fr _ ((h.pr.ins z hz).row.lt g e).2];exact t2 g e
  unfold gM at eR
  by_cases c1:z.key=q.key
  ·rw[if_pos c1]at eR;rw[T.inj z hz q M.hq c1]at kd ⊢
   exact kd g eR
  ·rw[if_neg c1]at eR
   by_cases c2:z.key=p.key
   ·rw[if_pos c2]at eR;have eR:aQ.ownBlock=some g:=eR;rw[T.inj z hz p M.hp c2]at kd ⊢
    exact kd g (by rw[<-m.own1];exact eR)
   ·rw[if_neg c2]at eR
    by_cases c3:z.key=tq.key
    ·rw[if_pos c3]at eR;have eR:aR.ownBlock=some g:=eR;rw[T.inj z hz tq M.ht c3]at kd ⊢
     rcases m.own2 with e|⟨g',e,cd⟩
     ·exact kd g (by rw[<-e];exact eR)
     ·rw[eR]at e;cases e;rw[gY]
      simp[Nat.not_lt.2 cd,eR]
    ·rw[if_neg c3]at eR
     exact kd g eR
 ·obtain⟨z,hz,rfl⟩:=(af a).1 ha;obtain⟨y,hy,rfl⟩:=(af b).1 bh;rw[(hg z hz).2.1,(hg y hy).2.1]at e;rw[h.pr.binj z hz y hy e]
 ·obtain⟨n,hn,e1,e2⟩:=hb.lf y hy
  refine⟨_,(af _).2 ⟨n,hn,rfl⟩,(hg n hn).2.1.trans e1,?_⟩
  rw[(hg n hn).1,e2];rfl
end
theorem quj{w:World}{a:Nat}(h:w.cell? ⟨a,0,none⟩=some (.int .i64 0)):
  CallsD prog 140 #[.pointer (some ⟨a,0,none⟩),.pointer (some ⟨b,0,none⟩)] .returning w fun e u' w'=>u'=.returning/\(e=.returned (.tuple #[])/\w'=w):=by
 go_enter_d func140,ntmps140
 go_wp2
 go_end0
 exact⟨rfl,rfl⟩
theorem qrr{w:World}{a:Nat}(he:(er != 0)=true)(h:w.cell? ⟨a,0,none⟩=some (.int .i64 er))(hb:w.cell? ⟨b,0,none⟩=some (.func (.func 95) #[] #[x1,y2])){M:World->Prop}
  (hU:Calls prog 95 #[x1,y2] w fun e w'=>e=.returned (.tuple #[])/\M w') :
  CallsD prog 140 #[.pointer (some ⟨a,0,none⟩),.pointer (some ⟨b,0,none⟩)] .returning w fun e u' w'=>u'=.returning/\(e=.returned (.tuple #[])/\M w'):=by
 go_enter_d func140,ntmps140
 go_wp2_with (go_at_call 95;refine hU.mono ?_;rintro e w1 ⟨rfl,hM⟩)
 go_end0
 exact⟨rfl,hM⟩
theorem qr2{w:World}{bt:Nat}{M1 M2 M3:World->Prop}(cD:bt<w.heap.size)
  (hC:∀W1,Below w.heap.size w W1->w.heap.size+2<=W1.heap.size->Calls prog 93 #[x1,x2] W1 fun e w'=>e=.returned (.tuple #[])/\Keep (fun b=>b<w.heap.size) W1 w'/\M1 w')
  (hO:∀W1,M1 W1->Calls prog 141 #[.pointer (some ⟨bt,0,none⟩)] W1 fun e w'=>e=.returned (.int .i64 er)/\Below W1.heap.size W1 w')
  (h2:er=0->∀W1 W2,M1 W1->w.heap.size<=W1.heap.size->Keep (fun b=>b=w.heap.size+1) W1 W2->M2 W2)
  (hU:er≠0->∀W1 W2,M1 W1->w.heap.size<=W1.heap.size->Keep (fun b=>b=w.heap.size+1) W1 W2->Calls prog 95 #[x1,y2] W2 fun e w'=>e=.returned (.tuple #[])/\Keep (fun b=>b≠w.heap.size/\b≠w.heap.size+1) W2 w'/\M3 w') :
  Calls prog 87 #[.pointer (some ⟨bt,0,none⟩),.func (.func 93) #[] #[x1,x2],.func (.func 95) #[] #[x1,y2]] w fun e w'=>e=.returned (.int .i64 er)/\(er=0->M2 w')/\(er≠0->M3 w'):=by
 have jL:∀(fn:Fn) (first cap:Array Value) (w:World),(Instr.makeFunc fn first cap).run prog w=.ok (.func fn first cap) w:=fun _ _ _ _=>rfl
 obtain⟨W0,bg⟩:∃W0,W0=(w.alloc (.cells #[.func (.func 95) #[] #[x1,y2]] 1)).alloc (.cells #[.int .i64 0] 53):=⟨_,rfl⟩;have b1:Box W0 w.heap.size 1 (.func (.func 95) #[] #[x1,y2]):=by rw[bg];exact(Box.new w 1 _).alloc _
 have b2:Box W0 (w.heap.size+1) 53 (.int .i64 0):=by
  rw[bg];have:=Box.new (w.alloc (.cells #[.func (.func 95) #[] #[x1,y2]] 1)) 53 (.int .i64 0)
  rwa[xrt]at this
 have bj:Below w.heap.size w W0:=by rw[bg];exact bel2
 have fM:w.heap.size+2<=W0.heap.size:=by rw[bg];simp
 go_enter_defers func87,ntmps87
 go_upto_region 1 with fail
 rw[<-bg];clear bg
 go_wp2_with (first
  |(go_at_call 93;refine(hC _ (by exact bel2) (by first|omega|(simp;omega))).mono ?_;rintro e w1 ⟨rfl,cf,j7⟩;have d1:=b1.keep cf (by omega);have d2:=b2.keep cf (by omega);have dz:=cf.size)
  |(go_at_call 141;refine(hO _ j7).mono ?_;rintro e w2 ⟨rfl,ag⟩;have f1:=d1.below ag d1.lt;have f2:=d2.below ag d2.lt;have q2:=f2.cell;have p2:=f2.frozen))
 have aY:Keep (fun b=>b=w.heap.size+1) w1 (w2.setCell ⟨w.heap.size+1,0,none⟩ (.int .i64 er)):=(Keep.new (T:=fun b=>b=w.heap.size+1) ag).setCell (p:=⟨w.heap.size+1,0,none⟩) rfl _;have g1:=(f1.other ⟨w.heap.size+1,0,none⟩ (.int .i64 er) (by simp)).cell;have g2:=(f2.set (.int .i64 er)).cell
 by_cases he:er=0
 ·subst he
  refine leaves_cons (f:=140) (args:=#[.pointer (some ⟨w.heap.size+1,0,none⟩),.pointer (some ⟨w.heap.size,0,none⟩)]) (by simp) (by simp[go_sem]) ?_
  refine(quj (b:=w.heap.size) g2).mono ?_
  rintro e u' kx ⟨rfl,rfl,rfl⟩
  simp[Leaves,settle,results,results87,go_sem,g2]
  exact h2 rfl _ _ j7 (by omega) aY
 ·refine leaves_cons (f:=140) (args:=#[.pointer (some ⟨w.heap.size+1,0,none⟩),.pointer (some ⟨w.heap.size,0,none⟩)]) (by simp) (by simp[go_sem]) ?_
  refine(qrr (by simpa using he) g2 g1 (hU he _ _ j7 (by omega) aY)).mono ?_
  rintro e u' kx ⟨rfl,rfl,bW,qH⟩
  have g3:=((f2.set (.int .i64 er)).keep bW (by simp)).cell
  simp[Leaves,settle,results,results87,go_sem,g3]
  exact⟨fun e=>absurd e he,fun _=>qH⟩
section
variable {τ : Nat->Tag}{t:Nat}{w:World}{bt:Nat}{nodes:List Node}{last:Int}{vw va:Value}{ws as_:List Pw}{q p tq:Node}{nm:Bs}{ks kt:List Node}{i at_:Nat}
theorem PMid.trans(m1:∀b,b<w.heap.size -> τ' b = τ b)(m2:∀b,w.heap.size<=b -> τ' b=.free\/(τ' b).prog t)(m4:Keep (fun b=>b<w.heap.size/\(τ b).prog t) w W2)(h:PMid τ' t W2 bt aE last te td tj qt w'):PMid τ t w bt aE last te td tj qt w':=by
 obtain⟨τ2,g1,g2,g3,g4⟩:=h;have hz:=m4.size
 refine⟨τ2,fun b hb=>(g1 b (by omega)).trans (m1 b hb),fun b hb=>?_,g3,m4.qbm g4 (fun b hb e=>⟨hb,by have:=e.2;rw[m1 b hb]at this;exact this⟩)⟩
 by_cases h1:b<W2.heap.size
 ·rw[g1 b h1];exact m2 b hb
 ·exact g2 b (by omega)
theorem Mv.qwz(M:Mv nodes q p tq nm ks i kt at_)(hn:n∈nodes):mvK (tq.key++[nm]) q.key (mvK q.key (tq.key++[nm]) n.key)=n.key:=by
 by_cases c:q.key <+: n.key
 ·rw[qc0 c,qc0 (xry _ _),List.drop_left];obtain⟨tl,ht⟩:=c;rw[<-ht,List.drop_left]
 ·rw[qbe c,qbe (M.fresh n hn)]
theorem Mv.q0u(M:Mv nodes q p tq nm ks i kt at_):p.leaf=false:=by
 obtain⟨pp,a1,a2,a3,_⟩:=M.T.par q M.hq p.key nm M.qp;rw[<-M.T.inj pp a1 p M.hp a2];exact a3
theorem Mv.back(M:Mv nodes q p tq nm ks i kt at_)(aQ aR:Value):∃um i' sQ qu,Mv (nodes.map (gM q p tq nm i aQ at_ aR)) (gM q p tq nm i aQ at_ aR q) (gM q p tq nm i aQ at_ aR tq) (gM q p tq nm i aQ at_ aR p) nm um i' sQ qu:=by
 obtain⟨n1,n2,n3,n4,n5⟩:=M.ne;have T':=M.tree aQ aR;have hg:=M.g aQ aR;have af:∀x,x∈nodes.map (gM q p tq nm i aQ at_ aR)↔∃n∈nodes,x=gM q p tq nm i aQ at_ aR n:=fun x=>by simp only[xrq];exact⟨fun ⟨n,h,e⟩=>⟨n,h,e.symm⟩,fun ⟨n,h,e⟩=>⟨n,h,e.symm⟩⟩
 have kq:(gM q p tq nm i aQ at_ aR q).key=tq.key++[nm]:=by rw[(hg q M.hq).1,qc0 (List.prefix_refl _),List.drop_length,List.append_nil]
 have zK:(gM q p tq nm i aQ at_ aR tq).key=tq.key:=by rw[(hg tq M.ht).1,qbe M.qq7]
 have kp:(gM q p tq nm i aQ at_ aR p).key=p.key:=by rw[(hg p M.hp).1,qbe n3]
 have lp:=(hg p M.hp).2.2.1.trans M.q0u;have mq:=(af _).2 ⟨q,M.hq,rfl⟩;have mp:=(af _).2 ⟨p,M.hp,rfl⟩;have mt:=(af _).2 ⟨tq,M.ht,rfl⟩;generalize gM q p tq nm i aQ at_ aR=g at *;obtain⟨um,b1,b2,b3⟩:=T'.kids (g tq) mt;obtain⟨sQ,c1,c2,c3⟩:=T'.kids (g p) mp;obtain⟨i',fD⟩:=xre ((b2 (g q)).2 ⟨mq,nm,by rw[kq,zK]⟩);have rP:∀n∈nodes.map g,n.key≠(g p).key++[nm]:=fun n hn e=>by
  obtain⟨z,hz,rfl⟩:=(af n).1 hn;rw[(hg z hz).1,kp,<- M.qp]at e
  by_cases c:q.key <+: z.key
  ·rw[qc0 c]at e;exact M.fresh q M.hq ⟨_,e⟩
  ·rw[qbe c]at e;exact c (by rw[e];exact List.prefix_refl _)
 obtain⟨qu,hF⟩:=qlb (nm:=nm) (sQ.map fun k=>qad k.key) c3 (fun e=>by
  obtain⟨k,hk,e2⟩:=xrq.1 e;obtain⟨d1,x,d2⟩:=(c2 k).1 hk;have e2:qad k.key=nm:=e2;rw[d2,qaq]at e2
  exact rP k d1 (by rw[d2,e2]))
 refine⟨um,i',sQ,qu,⟨T',mq,mt,mp,by rw[kq,zK],lp,by rw[kq,kp];exact M.fresh p M.hp,rP,fun n hn c=>?_,b1,b2,b3,fD,c1,c2,c3,hF⟩⟩
 obtain⟨z,hz,rfl⟩:=(af n).1 hn;rw[kq,(hg z hz).1]at c;rw[kq,kp,(hg z hz).1];have dU:q.key.length=p.key.length+1:=by rw[M.qp];simp
 by_cases d:q.key <+: z.key
 ·rw[qc0 d]
  have:=(M.T.ok z hz).2
  have:=d.length_le
  simp
  omega
 ·rw[qbe d]at c
  exact absurd c (M.fresh z hz)
theorem Mv.ents(M:Mv nodes q p tq nm ks i kt at_)(aQ aR:Value):(nodes.map (gM q p tq nm i aQ at_ aR)).map Node.ent=(nodes.map Node.ent).map (mvE q.key (tq.key++[nm])):=by
 rw[List.map_map,List.map_map]
 refine List.map_congr_left fun n hn=>?_
 obtain⟨g1,g2,g3,g4,g5,g6,g7,_⟩:=M.g aQ aR n hn;simp only[Function.comp,Node.ent,mvE];rw[g1,g3,g4,g5,g6,g7]
theorem Rel.qod(R:Rel nodes Ws ws as_)(k k':List Bs)(hl:∀y∈ws.map (mvP k k')++as_.map (mvP k k'),∃n∈ar,n.blk=y.q/\n.key=y.x.key):Rel ar (Ws.map (mvW k k')) (ws.map (mvP k k')) (as_.map (mvP k k')):=by
 obtain⟨az,a1,a2,a3⟩:=R.a
 refine⟨?_,⟨az.map (mvW k k'),?_,?_,?_⟩,hl⟩
 ·rw[List.map_map,List.filter_map]
  have:=congrArg (List.map (mvW k k')) R.w
  rw[List.map_map]at this
  exact this
 ·rw[List.map_map,List.map_map]
  have:=congrArg (List.map (mvW k k')) a1
  rw[List.map_map,List.map_map]at this
  exact this
 ·rw[List.filter_map]
  exact a2.map _
 ·rw[List.pairwise_map]
  exact a3
theorem qr5(M:Mv nodes q p tq nm ks i kt at_)(hl:∀y∈l,∃n∈nodes,n.blk=y.q/\n.key=y.x.key):(l.map (mvP q.key (tq.key++[nm]))).map (mvP (tq.key++[nm]) q.key)=l:=by
 rw[List.map_map]
 conv=>rhs;rw[<-List.map_id l]
 refine List.map_congr_left fun y hy=>?_
 obtain⟨n,hn,_,e⟩:=hl y hy
 have:=M.qwz hn
 rw[e]at this;obtain⟨yb,yx,yq⟩:=y;obtain⟨x1,x2,x3,x4,x5⟩:=yx;simp only[Function.comp,mvP,mvW,id];rw[this]
end
theorem qtc{w:World}{P:World->Prop}(b1:Blk w gq 97 #[.pointer (some ⟨bq,0,none⟩)])(b2:Blk w gt 97 #[.pointer (some ⟨bt2,0,none⟩)])
  (hh:Calls prog 94 #[.pointer (some ⟨bq,0,none⟩),.pointer (some ⟨bt2,0,none⟩)] w fun e w'=>e=.returned (.tuple #[])/\P w') :
  Calls prog 93 #[.pointer (some ⟨gq,0,none⟩),.pointer (some ⟨gt,0,none⟩)] w fun e w'=>e=.returned (.tuple #[])/\P w':=by
 have c1:=b1.cell 0;have c2:=b2.cell 0;simp only[List.getElem?_toArray,List.getElem?_cons_zero]at c1 c2
 go_enter func93,ntmps93
 go_wp2_with (go_at_call 94;refine hh.mono ?_;rintro e w1 ⟨rfl,hP⟩)
 go_end0
 exact⟨rfl,hP⟩
theorem qtd{w:World}{P:World->Prop}(b1:Blk w gq 97 #[.pointer (some ⟨bq,0,none⟩)])(b2:Blk w gt 97 #[.pointer (some ⟨bt2,0,none⟩)])
  (hh:Calls prog 94 #[.pointer (some ⟨bq,0,none⟩),.pointer (some ⟨bt2,0,none⟩)] w fun e w'=>e=.returned (.tuple #[])/\P w') :
  Calls prog 95 #[.pointer (some ⟨gq,0,none⟩),.pointer (some ⟨gt,0,none⟩)] w fun e w'=>e=.returned (.tuple #[])/\P w':=by
 have c1:=b1.cell 0;have c2:=b2.cell 0;simp only[List.getElem?_toArray,List.getElem?_cons_zero]at c1 c2
 go_enter func95,ntmps95
 go_wp2_with (go_at_call 94;refine hh.mono ?_;rintro e w1 ⟨rfl,hP⟩)
 go_end0
 exact⟨rfl,hP⟩
section
variable {τ : Nat->Tag}{t:Nat}{w:World}{bt:Nat}{nodes:List Node}{last:Int}{vw va:Value}{ws as_:List Pw}{q p tq:Node}{nm:Bs}{ks kt:List Node}{i at_:Nat}
theorem ql2(h:qa2 τ t w bt nodes last vw va ws as_)(R:Rel nodes Ws ws as_)(M:Mv nodes q p tq nm ks i kt at_)(hW:Wks (Ws.map (mvW q.key (tq.key++[nm]))))
  (b1:Blk w gq 97 #[.pointer (some ⟨q.blk,0,none⟩)]) (b2:Blk w gt 97 #[.pointer (some ⟨tq.blk,0,none⟩)]) (b3:Blk w gp 97 #[.pointer (some ⟨p.blk,0,none⟩)]) (d1:¬Tch3 q p tq gq) (d3:¬Tch3 q p tq gp) :
  Calls prog 87 #[.pointer (some ⟨bt,0,none⟩),.func (.func 93) #[] #[.pointer (some ⟨gq,0,none⟩),.pointer (some ⟨gt,0,none⟩)],.func (.func 95) #[] #[.pointer (some ⟨gq,0,none⟩),.pointer (some ⟨gp,0,none⟩)]] w
   fun e w'=>e=.returned (.int .i64 (brkE ((nodes.map Node.ent).map (mvE q.key (tq.key++[nm]))) (Ws.map (mvW q.key (tq.key++[nm])))))/\(brkE ((nodes.map Node.ent).map (mvE q.key (tq.key++[nm]))) (Ws.map (mvW q.key (tq.key++[nm])))=0->∃aQ aR,PMid τ t w bt (nodes.map (gM q p tq nm i aQ at_ aR)) last vw va (ws.map (mvP q.key (tq.key++[nm]))) (as_.map (mvP q.key (tq.key++[nm]))) w')/\(brkE ((nodes.map Node.ent).map (mvE q.key (tq.key++[nm]))) (Ws.map (mvW q.key (tq.key++[nm])))≠0->∃aE,aE.map Node.ent=nodes.map Node.ent/\(∀n∈nodes,∃n'∈aE,n'.blk=n.blk/\n'.key=n.key/\n'.leaf=n.leaf)/\PMid τ t w bt aE last vw va ws as_ w'):=by
 have T:=h.pr.tree;have ak:∀z∈nodes,z.blk<w.heap.size/\∀g,z.sl.ownBlock=some g->g<w.heap.size:=fun z hz=>⟨(h.pr.ins z hz).lt,fun g hg=>((h.pr.ins z hz).row.lt g hg).2⟩
 have iL:∀b,Tch3 q p tq b->b<w.heap.size:=fun b hb=>by
  rcases hb with (e|e|e)|e|e
  ·rw[e];exact(ak p M.hp).1
  ·rw[e];exact(ak q M.hq).1
  ·exact(ak p M.hp).2 b e
  ·rw[e];exact(ak tq M.ht).1
  ·exact(ak tq M.ht).2 b e
 obtain⟨r0,_,cN⟩:=h.bk;have iC:∀aQ aR W1 W2,MoM w q p tq nm i aQ at_ aR W1->(∀g,aR.ownBlock=some g->g≠w.heap.size+1)->Keep (fun b=>b=w.heap.size+1) W1 W2->MoM w q p tq nm i aQ at_ aR W2:=fun aQ aR W1 W2 m dW aY=>by
  refine⟨m.own1,m.own2,m.par.keep aY (fun e=>?_) (fun g hg e=>?_),m.tar.keep aY (fun e=>?_) (fun g hg e=>dW g hg e),m.kid.keep aY (fun e=>?_) (fun g hg e=>?_),m.keep.qbm aY (fun b hb e=>by omega)⟩
  ·have e:p.blk=w.heap.size+1:=e
   have:=(ak p M.hp).1;omega
  ·have hg:aQ.ownBlock=some g:=hg;rw[m.own1]at hg
   have:=(ak p M.hp).2 g hg;omega
  ·have e:tq.blk=w.heap.size+1:=e
   have:=(ak tq M.ht).1;omega
  ·have e:q.blk=w.heap.size+1:=e
   have:=(ak q M.hq).1;omega
  ·have:=(ak q M.hq).2 g hg;omega
 refine qr2 (M1:=fun W1=>∃aQ aR,MoM w q p tq nm i aQ at_ aR W1/\(∀g,aR.ownBlock=some g->g≠w.heap.size/\g≠w.heap.size+1))
  (M2:=fun w'=>∃aQ aR,PMid τ t w bt (nodes.map (gM q p tq nm i aQ at_ aR)) last vw va (ws.map (mvP q.key (tq.key++[nm]))) (as_.map (mvP q.key (tq.key++[nm]))) w')
  (M3:=fun w'=>∃aE,aE.map Node.ent=nodes.map Node.ent/\(∀n∈nodes,∃n'∈aE,n'.blk=n.blk/\n'.key=n.key/\n'.leaf=n.leaf)/\PMid τ t w bt aE last vw va ws as_ w') h.lts.1 (fun W1 hb hz=>?_) (fun W1 hM=>?_) (fun _ W1 W2 hM hz aY=>?_) (fun _ W1 W2 hM hz aY=>?_)
 ·have h1:=h.keep (τ':=qcq τ w.heap.size) (T:=fun _=>False) (Keep.new hb) (fun _ _ h=>h.elim) (fun b hb=>qa5 hb)
  refine qtc (P:=fun w'=>Keep (fun b=>b<w.heap.size) W1 w'/\∃aQ aR,MoM w q p tq nm i aQ at_ aR w'/\(∀g,aR.ownBlock=some g->g≠w.heap.size/\g≠w.heap.size+1)) (b1.below hb b1.lt) (b2.below hb b2.lt) ((qi6 h1 M).mono ?_)
  rintro e w' ⟨rfl,aQ,aR,m⟩
  refine⟨rfl,m.keep.mono iL,aQ,aR,⟨m.own1,?_,m.par,m.tar,m.kid,(Keep.new hb).trans m.keep⟩,fun g hg=>?_⟩
  ·rcases m.own2 with e|⟨g,e,hg⟩
   ·exact .inl e
   ·exact .inr ⟨g,e,by omega⟩
  ·rcases m.own2 with e|⟨g',e,cd⟩
   ·rw[e]at hg
    have:=(ak tq M.ht).2 g hg
    omega
   ·rw[hg]at e;cases e;omega
 ·obtain⟨aQ,aR,m,_⟩:=hM;obtain⟨τ',m1,m2,P,m4⟩:=h.qod M m;obtain⟨r,hr,hb⟩:=P.bk;obtain⟨eF,a_⟩:=qbp P.pr.tree hr
  have:=qd0 P.pr.tree P.pr.qdk hb eF a_
  rw[qhi P.pr.tree (R.qod _ _ hb.lf) hW,M.ents aQ aR]at this
  exact this
 ·obtain⟨aQ,aR,m,dW⟩:=hM
  exact⟨aQ,aR,h.qod M (iC aQ aR W1 W2 m (fun g hg=>(dW g hg).2) aY)⟩
 ·obtain⟨aQ,aR,m,dW⟩:=hM;have m':=iC aQ aR W1 W2 m (fun g hg=>(dW g hg).2) aY;obtain⟨τ',m1,m2,P,m4⟩:=h.qod M m';obtain⟨um,i',sQ,qu,M'⟩:=M.back aQ aR;have hg:=M.g aQ aR;have kq:(gM q p tq nm i aQ at_ aR q).key=tq.key++[nm]:=by rw[(hg q M.hq).1,qc0 (List.prefix_refl _),List.drop_length,List.append_nil]
  have kp:(gM q p tq nm i aQ at_ aR p).key=p.key:=by rw[(hg p M.hp).1,qbe M.ne.2.2.1]
  have aa:=(b1.keep m.keep d1).keep aY (by have:=b1.lt;omega);have aM:=(b3.keep m.keep d3).keep aY (by have:=b3.lt;omega);have gQ:=qi6 P M';rw[(hg q M.hq).2.1,(hg p M.hp).2.1]at gQ
  refine qtd (P:=fun w'=>Keep (fun b=>b≠w.heap.size/\b≠w.heap.size+1) W2 w'/\∃aE,aE.map Node.ent=nodes.map Node.ent/\(∀n∈nodes,∃n'∈aE,n'.blk=n.blk/\n'.key=n.key/\n'.leaf=n.leaf)/\PMid τ t w bt aE last vw va ws as_ w') aa aM (gQ.mono ?_)
  rintro e w' ⟨rfl,zV,zW,m3⟩
  have e2:gM q p tq nm i aQ at_ aR p=p.qb6 i aQ:=by unfold gM;rw[if_neg M.ne.2.1,if_pos rfl]
  have e3:gM q p tq nm i aQ at_ aR tq=tq.qd4 at_ q.blk aR:=by unfold gM;rw[if_neg M.ne.2.2.2.2,if_neg (fun e=>M.ne.2.2.2.1 e.symm),if_pos rfl]
  have im:=P.qod M' m3;rw[kq,kp,<- M.qp,qr5 M (fun y hy=>cN.lf y (xr9 _ hy)),qr5 M (fun y hy=>cN.lf y (xra _ hy))]at im;have cd:=M'.g zV zW;have gO:∀n∈nodes,(gM (gM q p tq nm i aQ at_ aR q) (gM q p tq nm i aQ at_ aR tq) (gM q p tq nm i aQ at_ aR p) nm i' zV qu zW (gM q p tq nm i aQ at_ aR n)).key=n.key:=fun n hn=>by
   rw[(cd _ (xrj hn)).1,kq,kp,<- M.qp,(hg n hn).1];exact M.qwz hn
  refine⟨rfl,m3.keep.mono (fun b e=>?_),_,?_,fun n hn=>?_,PMid.trans m1 m2 m4 im⟩
  ·rcases e with (e|e|e)|e|e
   ·rw[e,(hg tq M.ht).2.1];have:=(ak tq M.ht).1;omega
   ·rw[e,(hg q M.hq).2.1];have:=(ak q M.hq).1;omega
   ·rw[e3]at e;exact dW b e
   ·rw[e,(hg p M.hp).2.1];have:=(ak p M.hp).1;omega
   ·rw[e2]at e;have e:aQ.ownBlock=some b:=e;rw[m.own1]at e
    have:=(ak p M.hp).2 b e;omega
  ·rw[List.map_map,List.map_map]
   refine List.map_congr_left fun n hn=>?_
   obtain⟨_,_,g3,g4,g5,g6,g7,_⟩:=hg n hn;obtain⟨_,_,f3,f4,f5,f6,f7,_⟩:=cd _ (xrj hn);simp only[Function.comp,Node.ent];rw[gO n hn,f3,f4,f5,f6,f7,g3,g4,g5,g6,g7]
  ·exact⟨_,xrj (xrj hn),((cd _ (xrj hn)).2.1).trans (hg n hn).2.1,gO n hn,((cd _ (xrj hn)).2.2.1).trans (hg n hn).2.2.1⟩
end
end Go.Proofs.YtphclnolomgjoaaGreatDoor
