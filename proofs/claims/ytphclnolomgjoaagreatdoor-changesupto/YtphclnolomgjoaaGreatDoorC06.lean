import Derived.Test.YtphclnolomgjoaaGreatDoorC05
import Derived.BigRegion
set_option linter.unusedVariables false
set_option linter.unusedSimpArgs false
set_option maxRecDepth 100000
set_option maxHeartbeats 4000000
namespace Go.Proofs.YtphclnolomgjoaaGreatDoor
open Tryz
open Go.RowKit
variable {br bt bw c cap cl g1 g2 g3 gA gN k0 t:Nat}{W W' w w':World}{nodes:List Node}{bL bO c1 c2 c3 cC cd cy sl tp v1 v2 v3:Value}{T:Nat->Prop}{leaf:Bool}{a d:Int}{tl:TypeId}{es ns xs:List Value}{me ms:List Int}{o:Option Nat}{al:Option Addr}{L:List Ent}
structure Tag where
 k:Nat
 t:Nat
 i:Nat
variable {τ τ':Nat->Tag}
abbrev Tag.free:Tag:=⟨0,0,0⟩
abbrev Tag.node (t i:Nat):Tag:=⟨1,t,i⟩
abbrev Tag.row (t i:Nat):Tag:=⟨2,t,i⟩
abbrev Tag.tow (t:Nat):Tag:=⟨3,t,0⟩
abbrev Tag.ref (t:Nat):Tag:=⟨4,t,0⟩
abbrev Tag.rrow (t:Nat):Tag:=⟨5,t,0⟩
abbrev Tag.law:Tag:=⟨6,0,0⟩
abbrev Tag.lawT:Tag:=⟨7,0,0⟩
abbrev Tag.lawN:Tag:=⟨8,0,0⟩
abbrev Tag.lawE:Tag:=⟨9,0,0⟩
abbrev Tag.lawA:Tag:=⟨10,0,0⟩
abbrev Tag.lawB:Tag:=⟨11,0,0⟩
abbrev Tag.lst:Tag:=⟨12,0,0⟩
abbrev Tag.book (t:Nat):Tag:=⟨13,t,0⟩
abbrev Tag.work (t:Nat):Tag:=⟨14,t,0⟩
def Tag.prog(t:Nat):Tag->Prop
 |⟨1,t',_⟩=>t'=t
 |⟨2,t',_⟩=>t'=t
 |⟨3,t',_⟩=>t'=t
 |⟨13,t',_⟩=>t'=t
 |⟨14,t',_⟩=>t'=t
 |_=>False
def Tag.refs(t:Nat):Tag->Prop
 |⟨4,t',_⟩=>t'=t
 |⟨5,t',_⟩=>t'=t
 |_=>False
theorem Tag.qcd{x:Tag}(h:x.prog t):(x.k=1\/x.k=2\/x.k=3\/x.k=13\/x.k=14)/\x.t=t:=by
 unfold Tag.prog at h
 split at h<;>first|exact⟨by simp,h⟩|exact h.elim
theorem Tag.qcb{x:Tag}(h:x.refs t):(x.k=4\/x.k=5)/\x.t=t:=by
 unfold Tag.refs at h
 split at h<;>first|exact⟨by simp,h⟩|exact h.elim
structure qfn (τ : Nat->Tag) (t:Nat) (W:World) (bt:Nat) (nodes:List Node) (c1 c2 c3:Value):Prop where
 tree:Tree nodes
 ins:∀n∈nodes,qan W n
 tags:∀(i:Nat) (n:Node),nodes[i]?=some n -> τ n.blk=.node t n.blk/\∀g,n.sl.ownBlock=some g -> τ g=.row t n.blk
 tow:∃r,nodes[0]?=some r/\Blk W bt 102 #[nptr r.blk,c1,c2,c3]
 ttag : τ bt=.tow t
 binj:∀a∈nodes,∀b∈nodes,a.blk=b.blk->a=b
theorem qfn.keep(h:qfn τ t W bt nodes c1 c2 c3)(k:Keep T W W')(hT:∀b,b<W.heap.size->T b->¬(τ b).prog t)
  (hτ : ∀b,b<W.heap.size -> τ' b = τ b):qfn τ' t W' bt nodes c1 c2 c3:=by
 obtain⟨r,hr,hb⟩:=h.tow;have ak:∀(i:Nat) (n:Node),nodes[i]?=some n->n.blk<W.heap.size/\∀g,n.sl.ownBlock=some g->g<W.heap.size:=fun i n hn =>
  ⟨(h.ins n (xr2 hn)).lt,fun g hg=>((h.ins n (xr2 hn)).row.lt g hg).2⟩
 refine⟨h.tree,fun n hn=>?_,fun i n hn=>?_,⟨r,hr,?_⟩,?_,h.binj⟩
 ·obtain⟨i,hi⟩:=xre hn;obtain⟨t1,t2⟩:=h.tags i n hi;obtain⟨l1,l2⟩:=ak i n hi
  exact(h.ins n hn).keep k (fun hb=>hT _ l1 hb (by rw[t1];rfl)) (fun g hg hb=>hT _ (l2 g hg) hb (by rw[t2 g hg];rfl))
 ·obtain⟨t1,t2⟩:=h.tags i n hn;obtain⟨l1,l2⟩:=ak i n hn
  exact⟨by rw[hτ _ l1];exact t1,fun g hg=>by rw[hτ _ (l2 g hg)];exact t2 g hg⟩
 ·exact hb.keep k (fun aZ=>hT _ hb.lt aZ (by rw[h.ttag];rfl))
 ·rw[hτ _ hb.lt];exact h.ttag
theorem qfn.hung(h:qfn τ t W bt nodes c1 c2 c3)(oY:Bw W w){q:Nat}(hq:W.heap.size<=q){s:Bs}{b c:Int}
  (hv:qar s=true) (hd:qdm s<=4) (fL:(0<=a/\a<=1000)/\(0<=b/\b<=1000)/\(0<=c/\c<=1000)/\(0<=d/\d<=1000)/\(leaf=false->a=0/\b=0))
  (hp:qkx nodes q s leaf a b c d w w') :
  ∃τ' ar,(∀x,x<W.heap.size -> τ' x = τ x)/\(∀x,W.heap.size<=x -> τ' x=.free\/(τ' x).prog t)/\qfn τ' t w' bt ar c1 c2 c3/\ar.map Node.ent=nodes.map Node.ent++[⟨qaa s,leaf,a,b,c,d⟩] /\
   Keep (fun x=>(x<W.heap.size/\((τ x).k=1\/(τ x).k=2)/\(τ x).t=t)) W w'/\(∀n∈nodes,∃n'∈ar,n'.blk=n.blk/\n'.key=n.key)/\(∀x,W.heap.size<=x -> τ' x=.free\/(τ' x).k=1\/(τ' x).k=2):=by
 obtain⟨p,nm,ks,at_,sl,ic,fN,fl,lP,a7,H⟩:=hp.ex;have T:=h.tree;obtain⟨j,hj⟩:=xre ic;have Cp:∀n∈nodes,qan w n:=fun n hn=>(h.ins n hn).below oY
 have ak:∀n∈nodes,n.blk<W.heap.size/\∀g,n.sl.ownBlock=some g->g<W.heap.size:=fun n hn=>⟨(h.ins n hn).lt,fun g hg=>((h.ins n hn).row.lt g hg).2⟩
 obtain⟨p',kI⟩:∃p',p'=p.qif at_ q sl:=⟨_,rfl⟩;obtain⟨m,hm⟩:∃m:Node,m={blk:=q,key:=p.key++[nm],leaf:=leaf,n0:=a,n1:=b,b0:=c,b1:=d,up:=some p.blk,sl:=v0_,kids:=[]}:=⟨_,rfl⟩;have eZ:m.key=p.key++[nm]:=by rw[hm]
 obtain⟨up,e9⟩:∃up:Node->Node,up=fun n=>if n.key=p.key then p' else n:=⟨_,rfl⟩
 have zz:up p=p':=by rw[e9];simp
 have DU:∀n∈nodes,n.key≠p.key->up n=n:=fun n hn hk=>by rw[e9];simp[hk]
 have rV:∀n∈nodes,(n=p/\up n=p')\/(n.key≠p.key/\up n=n):=fun n hn=>by
  by_cases hk:n.key=p.key
  ·obtain rfl:=T.inj n hn p ic hk;exact .inl ⟨rfl,zz⟩
  ·exact .inr ⟨hk,DU n hn hk⟩
 have nB:p'.key=p.key/\p'.leaf=p.leaf/\p'.n0=p.n0/\p'.n1=p.n1/\p'.b0=p.b0/\p'.b1=p.b1/\p'.up=p.up/\p'.blk=p.blk/\p'.sl=sl/\p'.kids=p.kids.take at_++q::p.kids.drop at_:=by rw[kI];simp[Node.qif]
 have fG:∀n∈nodes,(up n).key=n.key/\(up n).leaf=n.leaf/\(up n).n0=n.n0/\(up n).n1=n.n1/\(up n).b0=n.b0/\(up n).b1=n.b1/\(up n).up=n.up/\(up n).blk=n.blk:=fun n hn=>by
  rcases rV n hn with ⟨rfl,e⟩|⟨_,e⟩
  ·rw[e];exact⟨nB.1,nB.2.1,nB.2.2.1,nB.2.2.2.1,nB.2.2.2.2.1,nB.2.2.2.2.2.1,nB.2.2.2.2.2.2.1,nB.2.2.2.2.2.2.2.1⟩
  ·rw[e];exact⟨rfl,rfl,rfl,rfl,rfl,rfl,rfl,rfl⟩
 have ai:∀n,n∈nodes.map up++[m]↔(∃n0∈nodes,n=up n0)\/n=m:=fun n=>by
  simp only[xri,xrq,List.mem_singleton]
  constructor
  ·rintro(⟨n0,h1,rfl⟩|rfl)
   ·exact .inl ⟨n0,h1,rfl⟩
   ·exact .inr rfl
  ·rintro(⟨n0,h1,rfl⟩|rfl)
   ·exact .inl ⟨n0,h1,rfl⟩
   ·exact .inr rfl
 have jW:∀n∈nodes,n.key≠p.key++[nm]:=fun n hn=>by rw[<-fl];exact a7 n hn
 have gK:qbn (p.key++[nm])=true:=by rw[<-fl,<- qba];exact hv
 have yP:(nodes.map up++[m]).map (·.key)=nodes.map (·.key)++[p.key++[nm]]:=by
  simp only[List.map_append,List.map_map,List.map_cons,List.map_nil,eZ]
  congr 1
  exact List.map_congr_left (fun n hn=>(fG n hn).1)
 obtain⟨τ',fV⟩:∃τ':Nat->Tag,τ'=fun x=>if x<W.heap.size then τ x else if x=q then .node t q else if sl.ownBlock=some x then .row t p.blk else .free:=⟨_,rfl⟩
 have iu:∀x,x<W.heap.size -> τ' x = τ x:=fun x hx=>by rw[fV];simp[hx]
 have Ke : τ' q=.node t q:=by rw[fV];simp[Nat.not_lt.2 hq]
 have qD:=h.tags j p hj;have eK:∀g,sl.ownBlock=some g -> τ' g=.row t p.blk:=fun g hg=>by
  rcases H.own with e|⟨g',e,fB⟩
  ·rw[e]at hg;rw[iu g ((ak p ic).2 g hg)];exact qD.2 g hg
  ·rw[e]at hg;cases hg;have h1:¬g<W.heap.size:=by have:=oY.size;omega
   have h2:g≠q:=fun e2=>by
    have:=H.new.lt
    have:=(H.par.row.lt g (by rw[show(p.qif at_ q sl).sl=sl from rfl,e])).2
    have hA:=H.new.at_;obtain⟨_,hr⟩:=H.par.row
    rcases hr with ⟨dW,_⟩|⟨g2,cap,aD,dW,_,fk,_⟩
    ·rw[show(p.qif at_ q sl).sl=sl from rfl]at dW;rw[dW]at e;cases e
    ·rw[show(p.qif at_ q sl).sl=sl from rfl]at dW;rw[dW]at e;injection e with e;have e3:g2=q:=(show g2=g from e).trans e2;rw[e3]at fk;have h9:=fk.symm.trans hA;injection h9 with h9;injection h9 with _ h9 _
     exact absurd h9 (by decide)
   rw[fV];simp[h1,h2,e]
 have xS:Keep (fun x=>(x<W.heap.size/\((τ x).k=1\/(τ x).k=2)/\(τ x).t=t)) W w':=by
  refine⟨H.keep.os.trans oY.os,H.keep.tape.trans oY.tape,H.keep.output.trans oY.output,Nat.le_trans oY.size H.keep.size,fun x hx hn=>?_⟩
  refine(H.keep.block x (xrg hx oY.size) ?_).trans (oY.block x hx)
  rintro(rfl|rfl|e)
  ·exact hn ⟨hx,by rw[qD.1];simp⟩
  ·omega
  ·exact hn ⟨hx,by rw[qD.2 x e];simp⟩
 have vd:∀n∈nodes,n≠p->qan w' n:=fun n hn ot=>by
  obtain⟨i,hi⟩:=xre hn;obtain⟨t1,t2⟩:=h.tags i n hi
  refine(Cp n hn).keep H.keep ?_ ?_
  ·rintro(e|e|e)
   ·exact ot (h.binj n hn p ic e)
   ·have:=(ak n hn).1;omega
   ·rw[qD.2 _ e]at t1;cases t1
  ·intro g hg;have t3:=t2 g hg
   rintro(e|e|e)
   ·rw[e,qD.1]at t3;cases t3
   ·have:=(ak n hn).2 g hg;omega
   ·rw[qD.2 _ e]at t3;injection t3 with _ _ t3;exact ot (h.binj n hn p ic t3.symm)
 have rn:∀a∈nodes.map up++[m],∀b∈nodes.map up++[m],a.blk=b.blk->a=b:=fun a ha b hb e=>by
  have pO:m.blk=q:=by rw[hm]
  rcases(ai a).1 ha with ⟨x,hx,rfl⟩|rfl
  ·rcases(ai b).1 hb with ⟨y,hy,rfl⟩|rfl
   ·rw[(fG x hx).2.2.2.2.2.2.2,(fG y hy).2.2.2.2.2.2.2]at e;rw[h.binj x hx y hy e]
   ·rw[(fG x hx).2.2.2.2.2.2.2,pO]at e;have:=(ak x hx).1;omega
  ·rcases(ai b).1 hb with ⟨y,hy,rfl⟩|rfl
   ·rw[(fG y hy).2.2.2.2.2.2.2,pO]at e;have:=(ak y hy).1;omega
   ·rfl
 refine⟨τ',nodes.map up++[m],iu,?_,⟨?_,?_,?_,?_,?_,rn⟩,?_,xS,fun n hn=>⟨up n,(ai _).2 (.inl ⟨n,hn,rfl⟩),(fG n hn).2.2.2.2.2.2.2,(fG n hn).1⟩,?_⟩
 ·intro x hx;rw[fV];simp only[Nat.not_lt.2 hx,if_false]
  by_cases h1:x=q
  ·right;simp[h1,Tag.prog]
  ·by_cases h2:sl.ownBlock=some x
   ·right;simp[h1,h2,Tag.prog]
   ·left;simp[h1,h2]
 ·-- the tree
  refine⟨?_,?_,?_,?_,?_,?_,?_,?_,?_⟩
  ·obtain⟨r,h0,h1,h2,h3,h4⟩:=T.root;have rS:=xr2 h0;have u:=fG r rS
   refine⟨up r,?_,by rw[u.1];exact h1,by rw[u.2.1];exact h2,by rw[u.2.2.2.2.1];exact h3,by rw[u.2.2.2.2.2.1];exact h4⟩
   rw[xrp (by simp;exact(xr0.1 h0).1)]
   simp[h0]
  ·intro n hn n2 da e
   rcases(ai n).1 hn with ⟨x,hx,rfl⟩|rfl<;>rcases(ai n2).1 da with ⟨y,hy,rfl⟩|rfl
   ·rw[(fG x hx).1,(fG y hy).1]at e;rw[T.inj x hx y hy e]
   ·rw[(fG x hx).1,eZ]at e;exact absurd e (jW x hx)
   ·rw[(fG y hy).1,eZ]at e;exact absurd e.symm (jW y hy)
   ·rfl
  ·rw[yP]
   refine List.nodup_append.2 ⟨T.nodup,by simp,?_⟩
   intro k hk k2 bM e;simp only[List.mem_singleton]at bM;obtain⟨n,hn,rfl⟩:=xrq.1 hk;rw[bM]at e;exact jW n hn e
  ·intro n hn
   rcases(ai n).1 hn with ⟨x,hx,rfl⟩|rfl
   ·rw[(fG x hx).1];exact T.ok x hx
   ·rw[eZ];refine⟨gK,?_⟩;rw[<-fl];exact hd
  ·intro n hn
   rcases(ai n).1 hn with ⟨x,hx,rfl⟩|rfl
   ·obtain⟨_,u1,u2,u3,u4,u5,_⟩:=fG x hx;rw[u1,u2,u3,u4,u5];exact T.num x hx
   ·rw[hm];exact fL
  ·intro n hn hk
   rcases(ai n).1 hn with ⟨x,hx,rfl⟩|rfl
   ·rw[(fG x hx).2.2.2.2.2.2.1];exact T.top x hx (by rw[<-(fG x hx).1];exact hk)
   ·rw[eZ]at hk;simp at hk
  ·intro n hn k x hk
   rcases(ai n).1 hn with ⟨y,hy,rfl⟩|rfl
   ·rw[(fG y hy).1]at hk;obtain⟨pp,h1,h2,h3,h4⟩:=T.par y hy k x hk;obtain⟨v1,v2,_,_,_,_,_,v3⟩:=fG pp h1
    exact⟨up pp,(ai _).2 (.inl ⟨pp,h1,rfl⟩),by rw[v1];exact h2,by rw[v2];exact h3,by rw[(fG y hy).2.2.2.2.2.2.1,v3];exact h4⟩
   ·rw[eZ]at hk;obtain⟨e1,e2⟩:=List.append_inj' hk rfl
    refine⟨p',(ai _).2 (.inl ⟨p,ic,zz.symm⟩),by rw[nB.1];exact e1,by rw[nB.2.1];exact fN,by rw[hm,nB.2.2.2.2.2.2.2.1]⟩
  ·intro n hn
   rcases(ai n).1 hn with ⟨y,hy,rfl⟩|rfl
   ·rcases rV y hy with ⟨rfl,e⟩|⟨aW,e⟩
    ·-- the parent
     rw[e]
     refine⟨(ks.map up).take at_++m::(ks.map up).drop at_,?_,?_,?_⟩
     ·rw[nB.2.2.2.2.2.2.2.2.2,H.kids]
      have:(ks.map up).map (·.blk)=ks.map (·.blk):=by
       rw[List.map_map];exact List.map_congr_left (fun n hn=>(fG n ((H.mem n).1 hn).1).2.2.2.2.2.2.2)
      rw[List.map_append,List.map_cons,List.map_take,List.map_drop,this,hm]
     ·intro k;rw[nB.1];have cH:k∈(ks.map up).take at_++m::(ks.map up).drop at_↔k∈ks.map up\/k=m:=by
       simp only[xri,List.mem_cons]
       constructor
       ·rintro(h1|h1|h1)
        ·exact .inl (List.mem_of_mem_take h1)
        ·exact .inr h1
        ·exact .inl (List.mem_of_mem_drop h1)
       ·rintro(h1|h1)
        ·rw[<-List.take_append_drop at_ (ks.map up)]at h1
         rcases xri.1 h1 with h2|h2
         ·exact .inl h2
         ·exact .inr (.inr h2)
        ·exact .inr (.inl h1)
      rw[cH,ai]
      constructor
      ·rintro(h1|rfl)
       ·obtain⟨z,hz,rfl⟩:=xrq.1 h1;obtain⟨vQ,x,hx⟩:=(H.mem z).1 hz
        exact⟨.inl ⟨z,vQ,rfl⟩,x,by rw[(fG z vQ).1];exact hx⟩
       ·exact⟨.inr rfl,nm,eZ⟩
      ·rintro⟨h1|rfl,x,hx⟩
       ·obtain⟨z,hz,rfl⟩:=h1;rw[(fG z hz).1]at hx
        exact .inl (xrq.2 ⟨z,(H.mem z).2 ⟨hz,x,hx⟩,rfl⟩)
       ·exact .inr rfl
     ·have mK:((ks.map up).take at_++m::(ks.map up).drop at_).map (fun k=>qbv k.key)=(ks.map fun k=>qbv k.key).take at_++nm::(ks.map fun k=>qbv k.key).drop at_:=by
       have:(ks.map up).map (fun k=>qbv k.key)=ks.map fun k=>qbv k.key:=by
        rw[List.map_map];exact List.map_congr_left (fun n hn=>by simp only[Function.comp];rw[(fG n ((H.mem n).1 hn).1).1])
       rw[List.map_append,List.map_cons,List.map_take,List.map_drop,this,eZ,qdc]
      rw[mK];obtain⟨f1,f2,f3,f4⟩:=H.found;have hs:=H.sort;generalize (ks.map fun k=>qbv k.key)=ns at hs f1 f2 f3 f4;have jZ:=List.take_append_drop at_ ns;rw[<-jZ]at hs;obtain⟨s1,s2,s3⟩:=xrx.1 hs
      refine xrx.2 ⟨s1,List.pairwise_cons.2 ⟨?_,s2⟩,?_⟩
      ·intro y hy;obtain⟨i,hi⟩:=xre hy;rw[List.getElem?_drop]at hi;have g1:=f3 (at_+i) y (by omega) hi;have g2:cmpB y nm≠0:=fun e0=>by
        have:=qkl _ _ e0
        subst this
        rcases Nat.eq_zero_or_pos i with rfl|cM
        ·have:=f4.2 (by simpa using hi);cases this
        ·have aV:at_<ns.length:=by have:=(xr0.1 hi).1;omega
         have g3:=f3 at_ _ (Nat.le_refl _) (xr1 aV);have g4:=List.pairwise_iff_getElem.1 H.sort;have n_:=hs;rw[jZ]at n_;have g5:=List.pairwise_iff_getElem.1 n_ at_ (at_+i) aV (xr0.1 hi).1 (by omega);rw[(xr0.1 hi).2]at g5
         omega
       have g6:cmpB nm y = - cmpB y nm:=qrv _ _
       omega
      ·intro x hx y hy;obtain⟨i,hi⟩:=xre hx;rw[List.getElem?_take]at hi
       split at hi
       ·rename_i aV
        have g1:=f2 i x aV hi
        rcases List.mem_cons.1 hy with rfl|hy
        ·exact g1
        ·exact s3 x hx y hy
       ·cases hi
    ·rw[e];obtain⟨El,k1,k2,k3⟩:=T.kids y hy
     refine⟨El.map up,?_,?_,?_⟩
     ·rw[k1,List.map_map];exact List.map_congr_left (fun n hn=>((fG n ((k2 n).1 hn).1).2.2.2.2.2.2.2).symm)
     ·intro k;rw[ai]
      constructor
      ·intro h1;obtain⟨z,hz,rfl⟩:=xrq.1 h1;obtain⟨vQ,x,hx⟩:=(k2 z).1 hz
       exact⟨.inl ⟨z,vQ,rfl⟩,x,by rw[(fG z vQ).1];exact hx⟩
      ·rintro⟨h1|rfl,x,hx⟩
       ·obtain⟨z,hz,rfl⟩:=h1;rw[(fG z hz).1]at hx
        exact xrq.2 ⟨z,(k2 z).2 ⟨hz,x,hx⟩,rfl⟩
       ·rw[eZ]at hx
        exact absurd (List.append_inj' hx rfl).1.symm aW
     ·have:(El.map up).map (fun k=>qbv k.key)=El.map fun k=>qbv k.key:=by
       rw[List.map_map];exact List.map_congr_left (fun n hn=>by simp only[Function.comp];rw[(fG n ((k2 n).1 hn).1).1])
      rw[this];exact k3
   ·refine⟨[],by rw[hm];rfl,fun k=>?_,by simp⟩
    constructor
    ·intro h1;cases h1
    ·rintro⟨h1,x,hx⟩
     rw[eZ]at hx
     rcases(ai k).1 h1 with ⟨z,hz,rfl⟩|rfl
     ·rw[(fG z hz).1]at hx;obtain⟨pp,g1,g2,_⟩:=T.par z hz _ _ hx
      exact absurd g2 (jW pp g1)
     ·rw[eZ]at hx
      have:=congrArg List.length hx;simp at this
  ·simp;omega
 ·intro n hn
  rcases(ai n).1 hn with ⟨y,hy,rfl⟩|rfl
  ·rcases rV y hy with ⟨rfl,e⟩|⟨aW,e⟩
   ·rw[e,kI];exact H.par
   ·rw[e]
    exact vd y hy (fun e2=>by subst e2;exact aW rfl)
  ·rw[hm];exact H.new
 ·intro i n hi
  rcases Nat.lt_or_ge i nodes.length with ej|kF
  ·rw[xrp (by simpa using ej)]at hi;simp only[xrs,Option.map_eq_some_iff]at hi;obtain⟨y,hy,rfl⟩:=hi;have zL:=xr2 hy;obtain⟨t1,t2⟩:=h.tags i y hy
   refine⟨by rw[(fG y zL).2.2.2.2.2.2.2,iu _ (ak y zL).1];exact t1,fun g hg=>?_⟩
   rcases rV y zL with ⟨rfl,e⟩|⟨aW,e⟩
   ·rw[e,nB.2.2.2.2.2.2.2.2.1]at hg;rw[(fG _ zL).2.2.2.2.2.2.2];exact eK g hg
   ·rw[e]at hg ⊢;rw[iu _ ((ak y zL).2 g hg)];exact t2 g hg
  ·rw[xro (by simpa using kF)]at hi;simp only[List.length_map]at hi
   have:i=nodes.length:=by
    rcases Nat.eq_zero_or_pos (i-nodes.length) with h0|h0
    ·omega
    ·rw[List.getElem?_eq_none (by simp;omega)]at hi;cases hi
   subst this
   simp at hi
   subst hi;rw[hm]
   exact⟨Ke,fun g hg=>by cases hg⟩
 ·obtain⟨r,h0,hb⟩:=h.tow
  refine⟨up r,?_,?_⟩
  ·rw[xrp (by simp;exact(xr0.1 h0).1)];simp[h0]
  ·rw[(fG r (xr2 h0)).2.2.2.2.2.2.2]
   refine(hb.below oY hb.lt).keep H.keep ?_
   rintro(e|e|e)
   ·have:=h.ttag;rw[e,qD.1]at this;cases this
   ·have:=hb.lt;omega
   ·have:=h.ttag;rw[qD.2 _ e]at this;cases this
 ·obtain⟨r,h0,hb⟩:=h.tow;rw[iu _ hb.lt];exact h.ttag
 ·rw[List.map_append,List.map_map]
  congr 1
  ·exact List.map_congr_left (fun n hn=>by
    obtain⟨u0,u1,u2,u3,u4,u5,_⟩:=fG n hn;simp only[Function.comp,Node.ent,u0,u1,u2,u3,u4,u5])
  ·rw[hm,fl];rfl
 ·intro x hx;rw[fV];simp only[Nat.not_lt.2 hx,if_false]
  by_cases h1:x=q
  ·right;simp[h1]
  ·by_cases h2:sl.ownBlock=some x
   ·right;simp[h1,h2]
   ·left;simp[h1,h2]
def Tag.laws:Tag->Prop
 |⟨6,_,_⟩|⟨7,_,_⟩|⟨8,_,_⟩|⟨9,_,_⟩|⟨10,_,_⟩|⟨11,_,_⟩|⟨12,_,_⟩=>True
 |_=>False
def Tag.owns:Tag->Prop
 |⟨6,_,_⟩|⟨8,_,_⟩|⟨9,_,_⟩|⟨10,_,_⟩|⟨11,_,_⟩|⟨12,_,_⟩=>True
 |_=>False
theorem Tag.qfj{x:Tag}(h:x.laws):6<=x.k/\x.k<=12:=by
 unfold Tag.laws at h
 split at h<;>first|(simp;done)|exact h.elim
theorem Tag.qjw{x:Tag}(h:x.owns):6<=x.k/\x.k<=12/\x.k≠7:=by
 unfold Tag.owns at h
 split at h<;>first|(simp;done)|exact h.elim
structure qgh (τ : Nat->Tag) (W:World) (bw:Nat) (cd bO cC bL cy:Value) (ns es:List Value) (ms me:List Int):Prop where
 blk:Blk W bw 84 #[cd,bO,cC,bL,cy]
 tag : τ bw=.law
 N:qdz W 1 25 bO bL ns ms
 E:qdz W 2 48 cC cy es me
 tN:∀g,bO.ownBlock=some g -> τ g=.lawN
 tE:∀g,cC.ownBlock=some g -> τ g=.lawE
 tA:∀g,bL.ownBlock=some g -> τ g=.lawA
 tB:∀g,cy.ownBlock=some g -> τ g=.lawB
 ln:∀v∈ns,∀g,v.ownBlock=some g -> τ g=.lst
 le:∀v∈es,∀g,v.ownBlock=some g -> τ g=.lst
theorem qdz.lt(h:qdz W c tl sl tp ns ms):(∀g,sl.ownBlock=some g->g<W.heap.size)/\(∀g,tp.ownBlock=some g->g<W.heap.size)/\(∀v∈ns,∀g,v.ownBlock=some g->g<W.heap.size):=by
 refine⟨fun g hg=>qal h.row hg,fun g hg=>qal h.mrow hg,fun v hv g hg=>?_⟩
 obtain⟨i,hi⟩:=xre hv;have ak:=(xr0.1 hi).1;obtain⟨m,hm⟩:∃m,ms[i]?=some m:=⟨_,xr1 (by rw[<-h.len];exact ak)⟩
 rcases h.ok i v m hi hm with rfl|⟨b,len,cap,rfl,_,_,_,h4,_⟩
 ·cases hg
 ·simp[Value.ownBlock]at hg;subst hg;exact h4
theorem qgh.keep(h:qgh τ W bw cd bO cC bL cy ns es ms me)(hk:Keep T W W')
  (hT:∀b,b<W.heap.size->T b->¬(τ b).laws) (hτ : ∀b,b<W.heap.size -> τ' b = τ b):qgh τ' W' bw cd bO cC bL cy ns es ms me:=by
 obtain⟨n1,n2,n3⟩:=h.N.lt;obtain⟨e1,e2,e3⟩:=h.E.lt;have key:∀g t,g<W.heap.size -> τ g=t->t.laws->¬T g:=fun g t hg ht hl sH=>hT g hg sH (by rw[ht];exact hl)
 refine⟨h.blk.keep hk (key _ _ h.blk.lt h.tag trivial),by rw[hτ _ h.blk.lt];exact h.tag,?_,?_,?_,?_,?_,?_,?_,?_⟩
 ·exact h.N.keep hk (fun g hg=>key g _ (n1 g hg) (h.tN g hg) trivial) (fun g hg=>key g _ (n2 g hg) (h.tA g hg) trivial) (fun v hv g hg=>key g _ (n3 v hv g hg) (h.ln v hv g hg) trivial)
 ·exact h.E.keep hk (fun g hg=>key g _ (e1 g hg) (h.tE g hg) trivial) (fun g hg=>key g _ (e2 g hg) (h.tB g hg) trivial) (fun v hv g hg=>key g _ (e3 v hv g hg) (h.le v hv g hg) trivial)
 ·exact fun g hg=>by rw[hτ _ (n1 g hg)];exact h.tN g hg
 ·exact fun g hg=>by rw[hτ _ (e1 g hg)];exact h.tE g hg
 ·exact fun g hg=>by rw[hτ _ (n2 g hg)];exact h.tA g hg
 ·exact fun g hg=>by rw[hτ _ (e2 g hg)];exact h.tB g hg
 ·exact fun v hv g hg=>by rw[hτ _ (n3 v hv g hg)];exact h.ln v hv g hg
 ·exact fun v hv g hg=>by rw[hτ _ (e3 v hv g hg)];exact h.le v hv g hg
def qd9 (τ : Nat->Tag)(H:Nat)(o:Option Nat)(g1 g2 g3 gN gA:Nat)(TN TA:Tag)(b:Nat):Tag :=
 if o=some b then .lst else if b<H then τ b else if b=g1\/b=g2\/b=g3 then .lst else if b=gN then TN else if b=gA then TA else .free
structure OwnT (τ : Nat->Tag) (W:World) (o:Option Nat) (τ':Nat->Tag) (w':World):Prop where
 old:∀b,b<W.heap.size->o≠some b -> τ' b = τ b
 new:∀b,W.heap.size<=b\/o=some b -> τ' b=.free\/(τ' b).laws
 keep:Keep (fun b=>b<W.heap.size/\((τ b).owns\/o=some b)) W w'
theorem qon{TN TA:Tag}(h1:TN.laws)(h2:TA.laws)(hk:Keep (fun b=>b<W.heap.size/\((τ b).owns\/o=some b)) W w'):OwnT τ W o (qd9 τ W.heap.size o g1 g2 g3 gN gA TN TA) w':=by
 refine⟨fun b hb ho=>by simp[qd9,hb,ho],fun b hb=>?_,hk⟩
 unfold qd9
 by_cases ho:o=some b
 ·rw[if_pos ho];exact .inr trivial
 ·rw[if_neg ho,if_neg (by rcases hb with hb|hb;omega;exact absurd hb ho)]
  split
  ·exact .inr trivial
  ·split
   ·exact .inr h1
   ·split
    ·exact .inr h2
    ·exact .inl rfl
theorem qm6(h:qgh τ W bw cd bO cC bL cy ns es ms me)(hl:ns.length<=1000000000)
  (sE:W.ownsRow 0 3 1 (.slice al k0 cl) k0 xs) (eE:k0<=990) (cV:∀b,(Value.slice al k0 cl).ownBlock=some b -> τ b=.free) :
  Cl 126 #[vP bw,.slice al k0 cl] W fun e w'=>e=.returned (.tuple #[])/\∃τ' kj kg qI sd,OwnT τ W (Value.slice al k0 cl).ownBlock τ' w'/\qgh τ' w' bw cd kj cC kg cy qI es sd me/\qI.length=ns.length+4:=by
 have fK:bO.ownBlock≠some bw:=fun e=>by have:=h.tN _ e;rw[h.tag]at this;cases this
 have dF:bL.ownBlock≠some bw:=fun e=>by have:=h.tA _ e;rw[h.tag]at this;cases this
 have gL:∀g,bO.ownBlock=some g->bL.ownBlock≠some g:=fun g e1 e2=>by have:=h.tN _ e1;rw[h.tA _ e2]at this;cases this
 have lT:(Value.slice al k0 cl).ownBlock≠some bw:=fun e=>by have:=cV _ e;rw[h.tag]at this;cases this
 have mE:∀g,(Value.slice al k0 cl).ownBlock=some g->bO.ownBlock≠some g:=fun g e1 e2=>by have:=cV _ e1;rw[h.tN _ e2]at this;cases this
 have mD:∀g,(Value.slice al k0 cl).ownBlock=some g->bL.ownBlock≠some g:=fun g e1 e2=>by have:=cV _ e1;rw[h.tA _ e2]at this;cases this
 have hL:∀v∈ns,∀g,v.ownBlock=some g->g≠bw/\bO.ownBlock≠some g/\bL.ownBlock≠some g/\(Value.slice al k0 cl).ownBlock≠some g:=fun v hv g hg=>by
  have ht:=h.ln v hv g hg
  exact⟨fun e=>(by rw[e,h.tag]at ht;cases ht),fun e=>(by rw[h.tN _ e]at ht;cases ht),fun e=>(by rw[h.tA _ e]at ht;cases ht),fun e=>(by rw[cV _ e]at ht;cases ht)⟩
 refine(qh7 h.blk h.N.row (by rw[h.N.len];exact h.N.mrow) hl fK dF gL sE eE lT mE mD).mono ?_
 rintro e w' ⟨rfl,U0,w1,w2,w3,wN,wA,U1,U2,U3,U4,U5,g1,k1,g2,k2,g3,k3,gN,kN,gA,kA,hP⟩
 have Q:=qjs h.blk h.N eE sE fK dF gL lT mE mD hL hP;obtain⟨n1,n2,n3⟩:=h.N.lt;obtain⟨e1,e2,e3⟩:=h.E.lt;have hk:Keep (fun b=>b<W.heap.size/\((τ b).owns\/(Value.slice al k0 cl).ownBlock=some b)) W w':=Q.keep.qlj (fun b hb hT=>by
  refine⟨hb,?_⟩
  rcases hT with rfl|e|e|e
  ·left;rw[h.tag];trivial
  ·left;rw[h.tN _ e];trivial
  ·left;rw[h.tA _ e];trivial
  ·exact .inr e)
 have o0:=Q.h3;have o1:=Q.o1.2;have o2:=Q.o2.2;have o3:=Q.o3.2;obtain⟨KS,oN⟩:=Q.oN;obtain⟨KR,oA⟩:=Q.oA;have hT:=qon (g1:=g1) (g2:=g2) (g3:=g3) (gN:=gN) (gA:=gA) (TN:=.lawN) (TA:=.lawA) trivial trivial hk;have mG:∀g,(Value.slice al k0 cl).ownBlock=some g->g<W.heap.size:=fun g hg=>qal sE hg
 have aW:∀b t,τ b=t->t≠.free->(Value.slice al k0 cl).ownBlock≠some b:=fun b t ht hf e=>hf (by rw[<-ht];exact cV b e)
 have Ck:qdz w' 2 48 cC cy es me:=h.E.keep Q.keep
  (fun g hg=>by have t:=h.tE g hg;rintro(e|e|e|e);rw[e,h.tag]at t;cases t;rw[h.tN _ e]at t;cases t;rw[h.tA _ e]at t;cases t;rw[cV _ e]at t;cases t)
  (fun g hg=>by have t:=h.tB g hg;rintro(e|e|e|e);rw[e,h.tag]at t;cases t;rw[h.tN _ e]at t;cases t;rw[h.tA _ e]at t;cases t;rw[cV _ e]at t;cases t)
  (fun v hv g hg=>by have t:=h.le v hv g hg;rintro(e|e|e|e);rw[e,h.tag]at t;cases t;rw[h.tN _ e]at t;cases t;rw[h.tA _ e]at t;cases t;rw[cV _ e]at t;cases t)
 have mH:∀g,(g=g1\/g=g2\/g=g3)->((Value.slice al k0 cl).ownBlock=some g\/W.heap.size<=g)->qd9 τ W.heap.size (Value.slice al k0 cl).ownBlock g1 g2 g3 gN gA .lawN .lawA g=.lst:=fun g h1 h2=>by
  unfold qd9
  by_cases ho:(Value.slice al k0 cl).ownBlock=some g
  ·rw[if_pos ho]
  ·rw[if_neg ho,if_neg (by rcases h2 with h2|h2;exact absurd h2 ho;omega),if_pos h1]
 refine⟨rfl,_,_,_,_,_,hT,⟨Q.blk,by rw[hT.old _ h.blk.lt lT];exact h.tag,Q.marked,Ck,?_,?_,?_,?_,?_,?_⟩,by simp⟩
 ·intro g hg
  simp[Value.ownBlock]at hg;subst hg
  rcases oN with e|e
  ·rw[hT.old _ (n1 _ e) (aW _ _ (h.tN _ e) (by simp))];exact h.tN _ e
  ·unfold qd9;rw[if_neg (fun e2=>by have:=mG _ e2;omega),if_neg (by omega),if_neg (by omega),if_pos rfl]
 ·intro g hg;rw[hT.old _ (e1 g hg) (aW _ _ (h.tE g hg) (by simp))];exact h.tE g hg
 ·intro g hg
  simp[Value.ownBlock]at hg;subst hg
  rcases oA with e|⟨e,e'⟩
  ·rw[hT.old _ (n2 _ e) (aW _ _ (h.tA _ e) (by simp))];exact h.tA _ e
  ·unfold qd9;rw[if_neg (fun e2=>by have:=mG _ e2;omega),if_neg (by omega),if_neg (by omega),if_neg (by omega),if_pos rfl]
 ·intro g hg;rw[hT.old _ (e2 g hg) (aW _ _ (h.tB g hg) (by simp))];exact h.tB g hg
 ·intro v hv g hg
  rcases xri.1 hv with hv|hv
  ·rw[hT.old _ (n3 v hv g hg) (aW _ _ (h.ln v hv g hg) (by simp))];exact h.ln v hv g hg
  ·simp only[List.mem_cons,List.not_mem_nil,or_false]at hv
   rcases hv with rfl|rfl|rfl|rfl
   ·unfold qd9;rw[if_pos hg]
   ·simp[Value.ownBlock]at hg;subst hg;exact mH _ (by simp) o1.2
   ·simp[Value.ownBlock]at hg;subst hg;exact mH _ (by simp) o2.2
   ·simp[Value.ownBlock]at hg;subst hg;exact mH _ (by simp) o3.2
 ·intro v hv g hg;rw[hT.old _ (e3 v hv g hg) (aW _ _ (h.le v hv g hg) (by simp))];exact h.le v hv g hg
theorem qov(h:qgh τ W bw cd bO cC bL cy ns es ms me)(hl:es.length<=1000000000)
  (sE:W.ownsRow 0 60 2 (.slice al k0 cl) k0 xs) (eE:k0<=990) (cV:∀b,(Value.slice al k0 cl).ownBlock=some b -> τ b=.free) :
  Cl 111 #[vP bw,.slice al k0 cl] W fun e w'=>e=.returned (.tuple #[])/\∃τ' ki kh qt r_,OwnT τ W (Value.slice al k0 cl).ownBlock τ' w'/\qgh τ' w' bw cd bO ki bL kh ns qt ms r_/\qt.length=es.length+4:=by
 have fK:cC.ownBlock≠some bw:=fun e=>by have:=h.tE _ e;rw[h.tag]at this;cases this
 have dF:cy.ownBlock≠some bw:=fun e=>by have:=h.tB _ e;rw[h.tag]at this;cases this
 have gL:∀g,cC.ownBlock=some g->cy.ownBlock≠some g:=fun g e1 e2=>by have:=h.tE _ e1;rw[h.tB _ e2]at this;cases this
 have lT:(Value.slice al k0 cl).ownBlock≠some bw:=fun e=>by have:=cV _ e;rw[h.tag]at this;cases this
 have mE:∀g,(Value.slice al k0 cl).ownBlock=some g->cC.ownBlock≠some g:=fun g e1 e2=>by have:=cV _ e1;rw[h.tE _ e2]at this;cases this
 have mD:∀g,(Value.slice al k0 cl).ownBlock=some g->cy.ownBlock≠some g:=fun g e1 e2=>by have:=cV _ e1;rw[h.tB _ e2]at this;cases this
 have hL:∀v∈es,∀g,v.ownBlock=some g->g≠bw/\cC.ownBlock≠some g/\cy.ownBlock≠some g/\(Value.slice al k0 cl).ownBlock≠some g:=fun v hv g hg=>by
  have ht:=h.le v hv g hg
  exact⟨fun e=>(by rw[e,h.tag]at ht;cases ht),fun e=>(by rw[h.tE _ e]at ht;cases ht),fun e=>(by rw[h.tB _ e]at ht;cases ht),fun e=>(by rw[cV _ e]at ht;cases ht)⟩
 refine(qir h.blk h.E.row (by rw[h.E.len];exact h.E.mrow) hl fK dF gL sE eE lT mE mD).mono ?_
 rintro e w' ⟨rfl,U0,w1,w2,w3,wN,wA,U1,U2,U3,U4,U5,g1,k1,g2,k2,g3,k3,gN,kN,gA,kA,hP⟩
 have Q:=qjs h.blk h.E eE sE fK dF gL lT mE mD hL hP;obtain⟨n1,n2,n3⟩:=h.E.lt;obtain⟨e1,e2,e3⟩:=h.N.lt;have hk:Keep (fun b=>b<W.heap.size/\((τ b).owns\/(Value.slice al k0 cl).ownBlock=some b)) W w':=Q.keep.qlj (fun b hb hT=>by
  refine⟨hb,?_⟩
  rcases hT with rfl|e|e|e
  ·left;rw[h.tag];trivial
  ·left;rw[h.tE _ e];trivial
  ·left;rw[h.tB _ e];trivial
  ·exact .inr e)
 have o0:=Q.h3;have o1:=Q.o1.2;have o2:=Q.o2.2;have o3:=Q.o3.2;obtain⟨KS,oN⟩:=Q.oN;obtain⟨KR,oA⟩:=Q.oA;have hT:=qon (g1:=g1) (g2:=g2) (g3:=g3) (gN:=gN) (gA:=gA) (TN:=.lawE) (TA:=.lawB) trivial trivial hk;have mG:∀g,(Value.slice al k0 cl).ownBlock=some g->g<W.heap.size:=fun g hg=>qal sE hg
 have aW:∀b t,τ b=t->t≠.free->(Value.slice al k0 cl).ownBlock≠some b:=fun b t ht hf e=>hf (by rw[<-ht];exact cV b e)
 have Ck:qdz w' 1 25 bO bL ns ms:=h.N.keep Q.keep
  (fun g hg=>by have t:=h.tN g hg;rintro(e|e|e|e);rw[e,h.tag]at t;cases t;rw[h.tE _ e]at t;cases t;rw[h.tB _ e]at t;cases t;rw[cV _ e]at t;cases t)
  (fun g hg=>by have t:=h.tA g hg;rintro(e|e|e|e);rw[e,h.tag]at t;cases t;rw[h.tE _ e]at t;cases t;rw[h.tB _ e]at t;cases t;rw[cV _ e]at t;cases t)
  (fun v hv g hg=>by have t:=h.ln v hv g hg;rintro(e|e|e|e);rw[e,h.tag]at t;cases t;rw[h.tE _ e]at t;cases t;rw[h.tB _ e]at t;cases t;rw[cV _ e]at t;cases t)
 have mH:∀g,(g=g1\/g=g2\/g=g3)->((Value.slice al k0 cl).ownBlock=some g\/W.heap.size<=g)->qd9 τ W.heap.size (Value.slice al k0 cl).ownBlock g1 g2 g3 gN gA .lawE .lawB g=.lst:=fun g h1 h2=>by
  unfold qd9
  by_cases ho:(Value.slice al k0 cl).ownBlock=some g
  ·rw[if_pos ho]
  ·rw[if_neg ho,if_neg (by rcases h2 with h2|h2;exact absurd h2 ho;omega),if_pos h1]
 refine⟨rfl,_,_,_,_,_,hT,⟨Q.blk,by rw[hT.old _ h.blk.lt lT];exact h.tag,Ck,Q.marked,?_,?_,?_,?_,?_,?_⟩,by simp⟩
 ·intro g hg;rw[hT.old _ (e1 g hg) (aW _ _ (h.tN g hg) (by simp))];exact h.tN g hg
 ·intro g hg
  simp[Value.ownBlock]at hg;subst hg
  rcases oN with e|e
  ·rw[hT.old _ (n1 _ e) (aW _ _ (h.tE _ e) (by simp))];exact h.tE _ e
  ·unfold qd9;rw[if_neg (fun e2=>by have:=mG _ e2;omega),if_neg (by omega),if_neg (by omega),if_pos rfl]
 ·intro g hg;rw[hT.old _ (e2 g hg) (aW _ _ (h.tA g hg) (by simp))];exact h.tA g hg
 ·intro g hg
  simp[Value.ownBlock]at hg;subst hg
  rcases oA with e|⟨e,e'⟩
  ·rw[hT.old _ (n2 _ e) (aW _ _ (h.tB _ e) (by simp))];exact h.tB _ e
  ·unfold qd9;rw[if_neg (fun e2=>by have:=mG _ e2;omega),if_neg (by omega),if_neg (by omega),if_neg (by omega),if_pos rfl]
 ·intro v hv g hg;rw[hT.old _ (e3 v hv g hg) (aW _ _ (h.ln v hv g hg) (by simp))];exact h.ln v hv g hg
 ·intro v hv g hg
  rcases xri.1 hv with hv|hv
  ·rw[hT.old _ (n3 v hv g hg) (aW _ _ (h.le v hv g hg) (by simp))];exact h.le v hv g hg
  ·simp only[List.mem_cons,List.not_mem_nil,or_false]at hv
   rcases hv with rfl|rfl|rfl|rfl
   ·unfold qd9;rw[if_pos hg]
   ·simp[Value.ownBlock]at hg;subst hg;exact mH _ (by simp) o1.2
   ·simp[Value.ownBlock]at hg;subst hg;exact mH _ (by simp) o2.2
   ·simp[Value.ownBlock]at hg;subst hg;exact mH _ (by simp) o3.2
def strs (l:List Bs):List Value:=l.map fun x=>.string (sb x)
theorem qw2:(prog.info? 9).map (fun i=>(i.zero,i.size,i.bytes))=some (some (.string ⟨#[]⟩),1,16):=by kernel_rfl
def qsz (s:Bs)(w:World)(e:Ending)(w':World):Prop :=
 (qar s=false/\e=.returned (.tuple #[v0_,.bool false])) \/
 (qar s=true/\∃sl,e=.returned (.tuple #[sl,.bool true])/\w'.ownsRow w.heap.size 9 1 sl (qaa s).length (strs (qaa s)))
theorem qs7(p xs:List Bs)(x y:Bs)(ys:List Bs)(c:UInt8)(s r:Bs)(hs:s≠[])(h:splitB s=xs++(x++c::y)::ys)(hb:qcf c=false\/4<=x.length):qar s=false:=by
 have hn:qaa s=splitB s:=by simp[qaa,hs]
 rw[qba,hn,h]
 cases hk:qbn (xs++(x++c::y)::ys)
 ·rfl
 ·have h1:=qbz hk (n:=x++c::y) (by simp)
  rcases hb with hb|hb
  ·simp[qbd,hb]at h1
  ·have:=(qea h1).2;simp at this;omega
theorem qlv(s:Bs)(hs:s≠[])(a b:List Bs)(h:splitB s=a++[]::b):qar s=false:=by
 have hn:qaa s=splitB s:=by simp[qaa,hs]
 rw[qba,hn,h]
 cases hk:qbn (a++[]::b)
 ·rfl
 ·have h1:=qbz hk (n:=[]) (by simp)
  simp[qbd]at h1
theorem qt9(s:Bs)(hs:s≠[])(xs:List Bs)(h:splitB s=xs)(hx:xs.all qbd=true):qar s=true/\qaa s=xs:=by
 have hn:qaa s=splitB s:=by simp[qaa,hs]
 rw[qba,hn,h];exact⟨hx,rfl⟩
theorem qma(y:Bs)(h:y.all qcf=true)(h4:y.length<=4)(h1:1<=y.length):qbd y=true:=by
 unfold qbd;rw[h];simp;omega
theorem qr5(y:Bs):(sb y).toList.isEmpty=y.isEmpty:=by rw[qaz,qbi]
theorem ql4(xs:List Bs)(y:Bs):strs (xs++[y])=strs xs++[.string (sb y)]:=by simp[strs]
theorem ql8(s:ByteArray)(hs:s.size<=2000000)(w:World):
  Cl 113 #[.string s] w fun e w'=>qsz (bl s) w e w'/\Bw w w':=by
 by_cases h0:bl s=[]
 ·have hz:s=⟨#[]⟩:=qer (h0.trans qh4.symm);subst hz
  go_enter func113,ntmps113
  go_wp2
  go_ret2
  exact⟨.inr ⟨rfl,_,rfl,xrk _ _ _ _⟩,Below.refl _ _⟩
 have hq:(s.toList.isEmpty)=false:=by rw[qaz];simpa using h0
 have Al:Hid (bl s≠[]):=h0;clear h0;obtain⟨i0,hi,fE,cJ,dO⟩:=info_parts qw2
 go_enter func113,ntmps113
 go_wp2
 go_loopw [4,5,6] (fun o x i wr=>∃(k:Nat) (xs:List Bs) (y:Bs),i=vI k/\x=.string (sb y)/\wr.ownsRow w.heap.size 9 1 o xs.length (strs xs)/\Bw w wr/\xs.all qbd=true/\y.all qcf=true/\y.length<=4/\xs.length<=k /\
   ((k<=s.size/\splitB ((bl s).take k)=xs++[y])\/(k=s.size+1/\splitB (bl s)=xs)))
  (fun _ _ i _=>s.size+2-(intOf i).toNat)
 case atStart=>exact⟨0,[],[],rfl,rfl,xrk _ _ _ _,Below.refl _ _,rfl,rfl,by simp,Nat.le_refl _,.inl ⟨Nat.zero_le _,by simp[splitB]⟩⟩
 case round =>
  obtain⟨k,xs,y,rfl,rfl,av,ae,lL,hy,Gw,js,jh⟩:=hrel;have si:Hid (xs.all qbd=true):=lL;have HY:Hid (y.all qcf=true):=hy;clear lL hy
  rcases jh with ⟨hk,jh⟩|⟨hk,jh⟩
  ·have xi:Hid (splitB ((bl s).take k)=xs++[y]):=jh;clear jh
   by_cases ak:k<s.size
   ·have HD:Hid ((bl s).drop k=s[k]::(bl s).drop (k+1)):=qsy s k ak;have HT:Hid ((bl s).take (k+1)=(bl s).take k++[s[k]]):=qsh s k ak
    by_cases kP:s[k]=47
    ·have Aj:Hid (s[k]=47):=kP;have hb:((s[k].toNat:Int) != 47)=false:=by rw[kP];rfl
     clear kP;have lO:splitB (bl s)=xs++y::splitB ((bl s).drop (k+1)):=by
      have h1:=qca ((bl s).take k) ((bl s).drop (k+1));have h2:=List.take_append_drop k (bl s);rw[HD.out,Aj.out]at h2;rw[h2,xi.out]at h1;rw[h1];simp
     have HS:Hid (splitB (bl s)=xs++y::splitB ((bl s).drop (k+1))):=lO;clear lO;have zK:=qr5 y
     cases qh:y.isEmpty
     ·rw[qh]at zK;have By:Hid (qbd y=true):=qma y HY.out Gw (by cases y<;>simp at qh ⊢)
      go_wp2_with (at_builtin;refine wpList_append_own _ rfl _ _ 46 rfl w.heap.size 9 i0 (.string ⟨#[]⟩) 1 16 underlying46 hi fE cJ dO rfl (by decide) _ _ _ rfl (av.alloc _) (vA wr.heap.size 0) 1 1 [.string (sb y)] rfl rfl (cell_one_new _ _ _) (by simp[Value.oneCell']) (by unfold maxLen;omega) (by omega) (by have:=ae.size;simp;omega) ?_;intro v' w1 dI k_ _)
      go_roundw
      case rel =>
       refine⟨k+1,xs++[y],[],by go_num,rfl,by rw[ql4];simpa using dI,?_,by simp[si.out,By.out],rfl,by simp,by simp;omega,.inl ⟨by omega,?_⟩⟩
       ·exact(ae.alloc ae.size _).grown k_ (by have:=ae.size;simp;omega) (fun j hj=>(av.lt j hj).1)
       ·rw[HT.out,Aj.out,show(bl s).take k++[47]=(bl s).take k++47::[] from rfl,qca,xi.out];simp[splitB]
      case measure=>simp[intOf];omega
     ·rw[qh]at zK;have jo:qar (bl s)=false:=qlv _ Al.out xs _ (by
       have:=HS.out
       cases y with
       |nil=>exact this
       |cons c y=>simp at qh)
      go_wp2
      go_ret2
      exact⟨.inl ⟨jo,rfl⟩,ae⟩
    ·have hb:((s[k].toNat:Int) != 47)=true:=by
      have:=mt (qqu s[k] 47 (by omega)).1 kP
      simpa using this
     obtain⟨h',t',uz⟩:=qco ((bl s).drop (k+1));have HS:Hid (splitB (bl s)=xs++(y++s[k]::h')::t'):=by
      have h1:splitB ((bl s).drop k)=(s[k]::h')::t':=by rw[HD.out];simp only[splitB];rw[if_neg kP,uz]
      have h2:=qeq ((bl s).take k) ((bl s).drop k) xi.out h1;rw[List.take_append_drop]at h2;exact h2
     have HC:Hid (qcf s[k]=(decide (97<=(s[k].toNat:Int))&&decide ((s[k].toNat:Int)<=122))):=qjk _;have dk:=qd3 y
     by_cases hgood:qcf s[k]=true/\y.length<4
     ·obtain⟨lR,fk⟩:=hgood;have HG:Hid (qcf s[k]=true):=lR;have de:97<=(s[k].toNat:Int):=by have:=HC.out;rw[lR]at this;simp at this;omega
      have jc:(s[k].toNat:Int)<=122:=by have:=HC.out;rw[lR]at this;simp at this;omega
      have h4:((y.length:Int) == 4)=false:=by simp only[beq_eq_false_iff_ne,ne_eq];omega
      clear lR uz
      go_wp2
      refine⟨⟨k+1,xs,y++[s[k]],by go_num,?_,av,ae,si.out,by rw[List.all_append,HY.out];simp[HG.out],by simp;omega,by omega,.inl ⟨by omega,?_⟩⟩,by simp[intOf];omega⟩
      ·exact congrArg Value.string (qer (by
        rw[qec,qbi,qbi,qcq,HD.out];simp))
      ·rw[HT.out,qeq ((bl s).take k) [s[k]] xi.out (by simp only[splitB];rw[if_neg kP])]
     ·have jo:qar (bl s)=false:=qs7 [] xs y h' t' s[k] (bl s) [] Al.out HS.out (by
       cases gJ:qcf s[k]
       ·exact .inl rfl
       ·right
        have:¬y.length<4:=fun h=>hgood ⟨gJ,h⟩
        omega)
      have dH:¬(97<=(s[k].toNat:Int))\/¬((s[k].toNat:Int)<=122)\/(y.length:Int)=4:=by
       have h1:=HC.out
       by_cases a1:97<=(s[k].toNat:Int)
       ·by_cases a2:(s[k].toNat:Int)<=122
        ·right;right
         have gJ:qcf s[k]=true:=by rw[h1];simp[a1,a2]
         have:¬y.length<4:=fun h=>hgood ⟨gJ,h⟩
         omega
        ·exact .inr (.inl a2)
       ·exact .inl a1
      clear hgood uz
      rcases dH with dH|dH|dH
      ·go_wp2
       all_goals (go_ret2;exact⟨.inl ⟨jo,rfl⟩,ae⟩)
      ·go_wp2
       all_goals (go_ret2;exact⟨.inl ⟨jo,rfl⟩,ae⟩)
      ·have MC:((y.length:Int) == 4)=true:=by simp[dH]
       clear dH
       go_wp2
       all_goals (go_ret2;exact⟨.inl ⟨jo,rfl⟩,ae⟩)
   ·obtain rfl:k=s.size:=by omega
    have HS:Hid (splitB (bl s)=xs++[y]):=by
     have:=xi.out
     rwa[xrd (by rw[qb4];omega)]at this
    have zK:=qr5 y
    cases qh:y.isEmpty
    ·rw[qh]at zK;have By:Hid (qbd y=true):=qma y HY.out Gw (by cases y<;>simp at qh ⊢)
     go_wp2_with (at_builtin;refine wpList_append_own _ rfl _ _ 46 rfl w.heap.size 9 i0 (.string ⟨#[]⟩) 1 16 underlying46 hi fE cJ dO rfl (by decide) _ _ _ rfl (av.alloc _) (vA wr.heap.size 0) 1 1 [.string (sb y)] rfl rfl (cell_one_new _ _ _) (by simp[Value.oneCell']) (by unfold maxLen;omega) (by omega) (by have:=ae.size;simp;omega) ?_;intro v' w1 dI k_ _)
     go_roundw
     case rel =>
      refine⟨s.size+1,xs++[y],[],by go_num,rfl,by rw[ql4];simpa using dI,?_,by simp[si.out,By.out],rfl,by simp,by simp<;>omega,.inr ⟨rfl,HS.out⟩⟩
      exact(ae.alloc ae.size _).grown k_ (by have:=ae.size;simp;omega) (fun j hj=>(av.lt j hj).1)
     case measure=>simp[intOf]
    ·rw[qh]at zK;have jo:qar (bl s)=false:=qlv _ Al.out xs [] (by
      have:=HS.out
      cases y with
      |nil=>exact this
      |cons c y=>simp at qh)
     go_wp2
     go_ret2
     exact⟨.inl ⟨jo,rfl⟩,ae⟩
  ·obtain⟨lR,fk⟩:=qt9 _ Al.out xs jh si.out;subst hk;clear jh
   go_wp2
   go_ret2
   exact⟨.inr ⟨lR,_,rfl,by rw[fk];exact av⟩,ae⟩
theorem qp8(k:List Bs)(h:∀x∈k,x.length<=1000):(joinB k).length<=1001*k.length:=by
 induction k with
 |nil=>simp[joinB]
 |cons a r ih =>
  have ha:=h a (by simp)
  by_cases e:r=[]
  ·subst e;simp[joinB];omega
  ·rw[qbq a r e];have:=ih (fun x hx=>h x (by simp[hx]));simp;omega
theorem quj(ao:Option Addr)(cap:Nat)(l:List Bs)(w:World)(hl:l.length<=2000000)(DQ:∀x∈l,x.length<=1000)(iN:l.length<=1000)
  (hc:∀(j:Nat) (x:Bs),l[j]?=some x->∃g,ao=some (vA g 0)/\w.cell? (vA g j)=some (.string (sb x))) :
  Cl 122 #[.slice ao l.length cap] w fun e w'=>e=.returned (.string (sb (joinB l)))/\w'=w:=by
 obtain⟨n,hn⟩:∃n,n=l.length:=⟨_,rfl⟩;rw[<-hn]at hl iN ⊢;have HN:Hid (n=l.length):=hn;clear hn
 go_enter func122,ntmps122
 go_wp2
 go_loop [3,4] (fun s i=>∃k:Nat,k<=n/\i=vI k/\s=.string (sb (joinB (l.take k)))) (fun _ i=>n-(intOf i).toNat)
 case atStart=>exact⟨0,Nat.zero_le _,rfl,rfl⟩
 case round =>
  obtain⟨k,hk,rfl,rfl⟩:=hrel
  by_cases ak:k<n
  ·have aV:k<l.length:=by rw[<-HN.out];exact ak
   obtain⟨x,hx⟩:∃x,l[k]?=some x:=⟨_,xr1 aV⟩;have HT:Hid (l.take (k+1)=l.take k++[x]):=by
    rw[xrf aV];rw[xr1 aV]at hx;cases hx;rfl
   obtain⟨g,eT,bZ⟩:=hc k x hx;have lL:(sb x).size<=1000:=by rw[qd3];exact DQ x (xr2 hx)
   have IL:(sb (joinB (l.take k))).size<=2000000:=by
    rw[qd3];have:=qp8 (l.take k) (fun y hy=>DQ y (List.mem_of_mem_take hy));simp at this;omega
   obtain⟨og,uc⟩:∃og,og=sb (joinB (l.take k)):=⟨_,rfl⟩;rw[<-uc]at IL ⊢;have HA:Hid (og=sb (joinB (l.take k))):=uc;clear hx hc DQ uc;subst eT
   rcases Nat.eq_zero_or_pos k with rfl|cM
   ·go_wp2
    go_round
    case rel =>
     refine⟨1,by omega,by go_num,congrArg Value.string (qer ?_)⟩
     have:=HT.out
     rw[Nat.zero_add]at this;rw[qec,HA.out,qbi,qbi,qbi,this];simp[joinB]
    case measure=>simp[intOf];omega
   ·go_wp2
    go_round
    case rel =>
     refine⟨k+1,by omega,by go_num,congrArg Value.string (qer ?_)⟩
     rw[qec,qec,HA.out,qbi,qbi,qbi,HT.out,qjc _ _ (fun e=>by have h1:=congrArg List.length e;rw[List.length_take,List.length_nil]at h1;have:=HN.out;omega)]
     simp[bl]
    case measure=>simp[intOf];omega
  ·go_wp2
   go_ret
   refine⟨qsl (by rw[xrd (by rw[<-HN.out];omega)]),rfl⟩
def qaf (L:List Ent)(s:Bs):List Ent:=L.filter fun e=>e.leaf&&inB (joinB e.key) s
def es0 (l:List Ent):Int:=(l.map (·.n0)).sum
def es1 (l:List Ent):Int:=(l.map (·.n1)).sum
theorem qus(l:List Ent)(h:∀n∈l,0<=n.n0/\n.n0<=1000):0<=es0 l/\es0 l<=1000*l.length:=by
 induction l with
 |nil=>simp[es0]
 |cons a l ih =>
  have h1:=ih (fun n hn=>h n (by simp[hn]));have h2:=h a (by simp)
  simp[es0]at h1 ⊢;omega
theorem quq(l:List Ent)(h:∀n∈l,0<=n.n1/\n.n1<=1000):0<=es1 l/\es1 l<=1000*l.length:=by
 induction l with
 |nil=>simp[es1]
 |cons a l ih =>
  have h1:=ih (fun n hn=>h n (by simp[hn]));have h2:=h a (by simp)
  simp[es1]at h1 ⊢;omega
structure Ents (L:List Ent):Prop where
 ok:∀e∈L,qbn e.key=true/\e.key.length<=4
 num:∀e∈L,(0<=e.n0/\e.n0<=1000)/\(0<=e.n1/\e.n1<=1000)
 len:L.length<=20
 pos:0<L.length
theorem Ents.small(h:Ents L){e:Ent}(he:e∈L):(sb (joinB e.key)).size<=2000000:=by
 rw[qd3];have:=qgm _ (h.ok e he).1;have:=(h.ok e he).2;omega
theorem qcr{g:Nat}(h:qc9 w br g cap L v1 v2 v3)(E:Ents L)(s:ByteArray)(hs:s.size<=2000000):
  Cl 203 #[vP br,.string s] w fun e w'=>e=.returned (.agg #[vI (es0 (qaf L (bl s))),vI (es1 (qaf L (bl s)))])/\Bw w w':=by
 have bR:=h.at_.lt;obtain⟨n,hn⟩:∃n,n=L.length:=⟨_,rfl⟩;have cP:=E.len;rw[<-hn]at cP;have HN:Hid (n=L.length):=hn;have dL:w.cell? (vA br 0)=some (vS g n cap):=by have:=h.at_.cell 0;rw[hn];simpa using this
 clear hn
 go_enter func203,ntmps203
 go_wp2
 go_loopw [6] (fun i wr=>∃k:Nat,k<=n/\i=vI k/\Bw w wr/\Blk wr w.heap.size 35 #[vI 0,vI 0]/\Blk wr (w.heap.size+1) 35 #[vI (es0 (qaf (L.take k) (bl s))),vI (es1 (qaf (L.take k) (bl s)))])
  (fun i _=>n-(intOf i).toNat)
 case atStart=>exact⟨0,Nat.zero_le _,rfl,by exact bel2,by exact blk2,by refine Blk.new' ?_;simp⟩
 case round =>
  obtain⟨k,hk,rfl,ae,a_,aG⟩:=hrel;have hR:=h.below ae;have hc:=(ae.cell (p:=vA br 0) bR).trans dL
  by_cases ak:k<n
  ·have aV:k<L.length:=by rw[<-HN.out];exact ak
   obtain⟨x,hx⟩:∃x,L[k]?=some x:=⟨_,xr1 aV⟩;have HT:Hid (L.take (k+1)=L.take k++[x]):=by
    rw[xrf aV];rw[xr1 aV]at hx;cases hx;rfl
   have cg:=xr2 hx;have p0:=hR.ent hx (j:=0) (v:=.string (sb (joinB x.key))) rfl;have p1:=hR.ent hx (j:=1) (v:=.bool x.leaf) rfl;have p2:=hR.ent hx (j:=2) (v:=vI x.n0) rfl;have p3:=hR.ent hx (j:=3) (v:=vI x.n1) rfl;simp only[Nat.add_zero]at p0;have cH:=fun W=>qk9 (sb (joinB x.key)) s W (E.small cg) hs
   rw[qbi]at cH;have x0:=(E.num x cg).1;have x1:=(E.num x cg).2;have aF:∀e∈qaf (L.take k) (bl s),e∈L:=fun e he=>List.mem_of_mem_take (xrr.1 he).1
   have s0:=qus (qaf (L.take k) (bl s)) (fun e he=>(E.num e (aF e he)).1);have s1:=quq (qaf (L.take k) (bl s)) (fun e he=>(E.num e (aF e he)).2);have an:(qaf (L.take k) (bl s)).length<=20:=by
    refine Nat.le_trans (xrh _ _) ?_
    simp;have:=HN.out;omega
   have oB:qaf (L.take (k+1)) (bl s)=qaf (L.take k) (bl s)++(if x.leaf&&inB (joinB x.key) (bl s) then [x] else []):=by
    unfold qaf;rw[HT.out,List.filter_append];simp[xrz]
   have HE:Hid (qaf (L.take (k+1)) (bl s)=qaf (L.take k) (bl s)++(if x.leaf&&inB (joinB x.key) (bl s) then [x] else [])):=oB;clear oB;clear hx;obtain⟨e0,mv⟩:∃e0,e0=es0 (qaf (L.take k) (bl s)):=⟨_,rfl⟩;obtain⟨e1,ni⟩:∃e1,e1=es1 (qaf (L.take k) (bl s)):=⟨_,rfl⟩;rw[<-mv]at aG s0;rw[<-ni]at aG s1;have qk:Hid (e0=es0 (qaf (L.take k) (bl s))):=mv;have ql:Hid (e1=es1 (qaf (L.take k) (bl s))):=ni;clear mv ni aF;have d0:=aG.cell 0;have d1:=aG.cell 1;have f0:=aG.frozen 0;have f1:=aG.frozen 1;simp only[xq0,xq1,xq2]at d0 d1;have eO:¬(g=w.heap.size+1):=fun e=>by have:=(h.row.lt g rfl).2;omega
   have rl:¬(br=w.heap.size+1):=fun e=>by omega
   cases hl:x.leaf
   ·rw[hl]at p1
    go_wp2_with (go_at_call 121;refine(cH _).mono ?_;rintro e w1 ⟨rfl,bX⟩;subst bX)
    refine⟨⟨k+1,by omega,by go_num,ae,a_,?_⟩,by simp[intOf];omega⟩
    have:=HE.out;rw[hl]at this;rw[this];have:=qk.out;have:=ql.out;subst e0 e1;simpa using aG
   ·rw[hl]at p1
    cases hi:inB (joinB x.key) (bl s)
    ·rw[hi]at cH
     go_wp2_with (go_at_call 121;refine(cH _).mono ?_;rintro e w1 ⟨rfl,bX⟩;subst bX)
     refine⟨⟨k+1,by omega,by go_num,ae,a_,?_⟩,by simp[intOf];omega⟩
     have:=HE.out;rw[hi]at this;rw[this];have:=qk.out;have:=ql.out;subst e0 e1;simpa using aG
    ·rw[hi]at cH
     go_wp2_with (go_at_call 121;refine(cH _).mono ?_;rintro e w1 ⟨rfl,bX⟩;subst bX)
     clear cH
     go_region
     go_wp2
     go_region
     go_wp2
     refine⟨⟨k+1,by omega,by go_num,((ae.setCell (by simp) _).setCell (by simp) _).drew.drew,((a_.other _ _ (by simp)).other _ _ (by simp)).drew.drew,?_⟩,by simp[intOf];omega⟩
     have gW:=(((aG.set 0 (vI (e0+x.n0))).set 1 (vI (e1+x.n1)))).drew.drew;have h1:=HE.out;rw[hl,hi]at h1;rw[h1];have h2:=qk.out;have h3:=ql.out;subst e0 e1
     simpa [es0,es1] using gW
  ·have d0:=aG.cell 0;have d1:=aG.cell 1;have c0:=a_.cell 0;have c1:=a_.cell 1;have f0:=a_.frozen 0;have f1:=a_.frozen 1;simp only[xq0,xq1,xq2]at d0 d1 c0 c1
   go_wp2
   have sg:L.take k=L:=xrd (by rw[<-HN.out];omega);have pd:=(a_.set 0 (vI (es0 (qaf (L.take k) (bl s))))).set 1 (vI (es1 (qaf (L.take k) (bl s))));have fR:=pd.cell;rw[sg]at fR
   refine xrn (v:=.agg #[vI (es0 (qaf L (bl s))),vI (es1 (qaf L (bl s)))]) ?_ rfl ⟨rfl,by exact bel2⟩
   rw[sg]
   simp[results,results133,go_sem,fR]
end Go.Proofs.YtphclnolomgjoaaGreatDoor
