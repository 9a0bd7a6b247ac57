import Derived.Test.YtphclnolomgjoaaGreatDoorC33
set_option linter.unusedVariables false
set_option linter.unusedSimpArgs false
set_option maxRecDepth 100000
set_option maxHeartbeats 4000000
namespace Go.Proofs.YtphclnolomgjoaaGreatDoor
open Tryz
open Go.RowKit
variable {bp bq br cW cap gn gp gq i:Nat}{th:Bool}{Ws:List Wk}{q:Node}{l:List Pw}{cnt er st:Int}{sl:Value}{w':World}{L:List Ent}{ao:Option Addr}{k k' key:List Bs}
theorem q1v{a b:Bs}(h:cmpB a b<0):¬cmpB b a<0:=fun h2=>by
 have:cmpB a b = - cmpB b a:=qrv a b
 omega
theorem q04{ns:List Bs}(hs:ns.Pairwise fun a b=>cmpB a b<0){x:Bs}(hi:ns[i]?=some x){at_:Nat}(h:Found (ns.take i++ns.drop (i+1)) x at_ th):at_=i:=by
 obtain⟨h1,h2,h3,_⟩:=h;have ey:=(xr0.1 hi).1;have qB:ns[i]=x:=by rw[xr1 ey]at hi;injection hi
 have an:(ns.take i++ns.drop (i+1)).length=ns.length-1:=by simp;omega
 rcases Nat.lt_trichotomy at_ i with h5|h5|h5
 ·have ak:at_<ns.length:=by omega
  have e:(ns.take i++ns.drop (i+1))[at_]?=some ns[at_]:=by
   rw[xrp (by simp;omega),List.getElem?_take_of_lt h5,xr1 ak]
  have h6:=h3 at_ _ (Nat.le_refl _) e;have h7:=List.pairwise_iff_getElem.1 hs at_ i ak ey h5;rw[qB]at h7
  omega
 ·exact h5
 ·have ak:i+1<ns.length:=by omega
  have e:(ns.take i++ns.drop (i+1))[i]?=some ns[i+1]:=by
   rw[xro (by simp;omega),List.getElem?_drop];rw[show i+1+(i-(ns.take i).length)=i+1 by simp;omega];rw[xr1 ak]
  have h6:=h2 i _ h5 e;have h7:=List.pairwise_iff_getElem.1 hs i (i+1) ey ak (by omega);rw[qB]at h7
  exact absurd h6 (q1v h7)
theorem qz9{nodes:List Node}(T:Tree nodes){p:Node}(hp:p∈nodes)(q:Node)(i:Nat)(sl:Value):(remN nodes q p i sl).map Node.ent=delL (nodes.map Node.ent) q.key:=by
 unfold remN delL;rw[List.map_map,List.filter_map]
 refine List.map_congr_left fun n hn=>?_
 simp only[Function.comp]
 by_cases h:n.key=p.key
 ·rw[if_pos h]
  have:n=p:=T.inj n (xrr.1 hn).1 p hp h
  rw[this];rfl
 ·rw[if_neg h]
def brkE (L:List Ent)(Ws:List Wk):Int:=if qxf L Ws=true then 11 else 0
theorem q23{w:World}{nm:ByteArray}{P:World->Prop}(b1:Blk w gp 97 #[vP bp])(b2:Blk w gn 9 #[.string nm])(b3:Blk w gq 97 #[vP bq])
  (hh:Cl 82 #[vP bp,.string nm,vP bq] w fun e w'=>e=.returned (.tuple #[])/\P w') :
  Cl 98 #[vP gp,vP gn,vP gq] w fun e w'=>e=.returned (.tuple #[])/\P w':=by
 have c1:=b1.cell 0;have c2:=b2.cell 0;have c3:=b3.cell 0;simp only[List.getElem?_toArray,List.getElem?_cons_zero]at c1 c2 c3
 go_enter func98,ntmps98
 go_wp2_with (go_at_call 82;refine hh.mono ?_;rintro e w1 ⟨rfl,hP⟩)
 go_end0
 exact⟨rfl,hP⟩
section
variable {τ : Nat->Tag}{t:Nat}{w:World}{bt:Nat}{nodes:List Node}{last:Int}{vw va:Value}{ws as_:List Pw}
theorem qys(h:qb6 τ t w bt nodes last vw va ws as_)(R:Rel nodes Ws ws as_)(hW:Wks Ws){p:Node}(hq:q∈nodes)(hp:p∈nodes){x:Bs}(fe:q.key=p.key++[x])(e9:q.up=some p.blk)(pV:q.kids=[])
  (a7:∀y∈ws++as_,y.q≠q.blk) (b1:Blk w gp 97 #[vP p.blk]) (b2:Blk w gn 9 #[.string (sb x)]) (b3:Blk w gq 97 #[vP q.blk]) (d1:¬TchQ p q gp) (d2:¬TchQ p q gn) (d3:¬TchQ p q gq) :
  Cl 87 #[vP bt,.func (.func 97) #[vP q.blk] #[],.func (.func 98) #[] #[vP gp,vP gn,vP gq]] w
   fun e w'=>e=.returned (vI (brkE (delL (nodes.map Node.ent) q.key) Ws))/\(brkE (delL (nodes.map Node.ent) q.key) Ws=0->∃i sl,qb6 (qde τ w.heap.size) t w' bt (remN nodes q p i sl) last vw va ws as_/\Keep (TchQ p q) w w')/\(brkE (delL (nodes.map Node.ent) q.key) Ws≠0->∃sl,BkM w p q sl w'):=by
 have T:=h.pr.tree;obtain⟨ks,hk,hm,hs⟩:=T.kids p hp;obtain⟨i,hi⟩:=xre ((hm q).2 ⟨hq,x,fe⟩);have aW:q≠p:=fun e=>by rw[e]at fe;have:=congrArg List.length fe;simp at this
 have nt:qbv q.key=x:=by rw[fe];exact qdc _ _
 have sS:ks.length<=1000:=by have:=qy4 T hp;rw[hk]at this;simpa using this
 have hK:∀W,Bw w W->qxy W p ks:=fun W bI=>⟨hk,fun k dz=>(h.pr.ins k ((hm k).1 dz).1).below bI,hs,sS⟩
 have A1:=h.apart hp hq;have A2:=h.apart hq hp;have A3:=h.apart hp hp;have A4:=h.apart hq hq;have fN:=(h.pr.ins p hp).lt;have mL:=(h.pr.ins q hq).lt;have ct:∀g,p.sl.ownBlock=some g->g<w.heap.size:=fun g hg=>((h.pr.ins p hp).row.lt g hg).2
 have JG:∀g,q.sl.ownBlock=some g->g<w.heap.size:=fun g hg=>((h.pr.ins q hq).row.lt g hg).2
 have jC:∀b,TchQ p q b->b<w.heap.size:=fun b hb=>by
  rcases hb with rfl|rfl|e
  ·exact fN
  ·exact mL
  ·exact ct b e
 have s_:∀sl W1,LvM w p q i sl W1->qb6 (qde τ w.heap.size) t W1 bt (remN nodes q p i sl) last vw va ws as_:=fun sl W1 M=>h.left hq hp fe pV hk hm hs hi a7 M
 have l8:∀sl W1 W2,LvM w p q i sl W1->Keep (fun b=>w.heap.size<=b) W1 W2->LvM w p q i sl W2:=fun sl W1 W2 M bM=>by
  refine⟨M.own,M.par.keep bM (fun e=>by have e':w.heap.size<=p.blk:=e;omega) (fun g hg e=>?_),M.kid.keep bM (fun e=>by have e':w.heap.size<=q.blk:=e;omega) (fun g hg e=>?_),M.keep.qbo bM (fun b hb e=>by omega)⟩
  ·have hg:sl.ownBlock=some g:=hg;rw[M.own]at hg
   have:=ct g hg;omega
  ·have:=JG g hg;omega
 refine q0w (M1:=fun W1=>∃sl,LvM w p q i sl W1) (M2:=fun w'=>∃i sl,qb6 (qde τ w.heap.size) t w' bt (remN nodes q p i sl) last vw va ws as_/\Keep (TchQ p q) w w') (M3:=fun w'=>∃sl,BkM w p q sl w') h.lts.1 (fun W1 hb=>?_) (fun W1 hM=>?_) (fun _ W1 W2 hM hz bM=>?_) (fun _ W1 W2 hM hz bM=>?_)
 ·refine(qzf ((h.pr.ins p hp).below hb) ((h.pr.ins q hq).below hb) (hK W1 hb) hi e9 (A1.2.1 (fun e=>aW e.symm)) A3.1 A1.1 A4.1 A2.1 (A1.2.2 (fun e=>aW e.symm))).mono ?_
  rintro e w' ⟨rfl,sl,e1,e2,e3,e4⟩
  exact⟨rfl,e4.mono jC,sl,⟨e1,e2,e3,(Keep.new hb).trans e4⟩⟩
 ·obtain⟨sl,M⟩:=hM;have P:=s_ sl W1 M;obtain⟨r,hr,hb⟩:=P.bk;obtain⟨gd,bK⟩:=qeh P.pr.tree hr
  have:=qxq P.pr.tree P.pr.qlc hb gd bK
  rw[qyc P.pr.tree (Ws:=Ws) (ws:=ws) ⟨R.w,R.a,hb.lf⟩ hW,qz9 T hp]at this
  exact this
 ·obtain⟨sl,M⟩:=hM;have M2:=l8 sl W1 W2 M bM
  exact⟨i,sl,s_ sl W2 M2,M2.keep⟩
 ·obtain⟨sl,M⟩:=hM;have M2:=l8 sl W1 W2 M bM;have je:=qy5 hs;have aF:(ks.take i++ks.drop (i+1)).Sublist ks:=by
   conv=>rhs;rw[<-List.take_append_drop i ks]
   exact List.Sublist.append (List.Sublist.refl _) (List.drop_sublist_drop_left ks (Nat.le_succ i))
  have K2:qxy W2 (p.qxi i sl) (ks.take i++ks.drop (i+1)):=by
   refine⟨?_,fun k dz=>?_,hs.sublist (aF.map _),Nat.le_trans aF.length_le sS⟩
   ·show p.kids.take i++p.kids.drop (i+1)=_
    rw[hk,List.map_append,List.map_take,List.map_drop]
   ·obtain⟨g1,g2⟩:=(qxm je hi k).1 dz;obtain⟨g3,y,g4⟩:=(hm k).1 g1
    exact h.other hq hp g3 (fun e=>by rw[e]at g4;have:=congrArg List.length g4;simp at this) g2 M2.keep
  have fl:qbd x=true:=qbz (T.ok q hq).1 (by rw[fe];simp);have DA:∀k∈ks.take i++ks.drop (i+1),qbv k.key≠x:=fun k dz e=>by
   obtain⟨g1,g2⟩:=(qxm je hi k).1 dz;obtain⟨g3,y,g4⟩:=(hm k).1 g1;rw[g4,qdc]at e
   exact g2 (T.inj k g3 q hq (by rw[g4,fe,e]))
  have lg:=qz7 M2.par M2.kid K2 x fl DA (k':=q.key) nt (fun e=>A2.2.1 aW e) (by
   intro e;have e:sl.ownBlock=some q.blk:=e;rw[M2.own]at e;exact A1.1 e) (by
   intro e;have e:sl.ownBlock=some p.blk:=e;rw[M2.own]at e;exact A3.1 e) A4.1 A2.1 (by
   intro g hg;have hg:sl.ownBlock=some g:=hg;rw[M2.own]at hg;exact A1.2.2 (fun e=>aW e.symm) g hg)
  have Hg:=(b1.keep M.keep d1).keep bM (by have:=b1.lt;omega);have Hh:=(b2.keep M.keep d2).keep bM (by have:=b2.lt;omega);have Hi:=(b3.keep M.keep d3).keep bM (by have:=b3.lt;omega)
  refine q23 (P:=fun w'=>Keep (fun b=>b<w.heap.size) W2 w'/\∃sl,BkM w p q sl w') Hg Hh Hi (lg.mono ?_)
  rintro e w' ⟨rfl,at_,bz,hF,f1,f2,f3,f4⟩
  have bh:at_=i:=by
   rw[List.map_append,List.map_take,List.map_drop]at hF
   exact q04 hs (by rw[xrs,hi,<- nt];rfl) hF
  subst bh;have Fo:Keep (TchQ p q) W2 w':=f3.mono (fun b e=>by
   rcases e with e|e|e
   ·exact .inl e
   ·exact .inr (.inl e)
   ·have e:sl.ownBlock=some b:=e;rw[M2.own]at e;exact .inr (.inr e))
  refine⟨rfl,Fo.mono jC,bz,⟨?_,?_,M2.keep.trans Fo,?_⟩⟩
  ·have e:(p.qxi at_ sl).qif at_ q.loose.blk bz={p with sl:=bz}:=by
    have j9:p.kids[at_]?=some q.blk:=by rw[hk,xrs,hi];rfl
    have hl:=(xr0.1 j9).1;unfold Node.qif Node.qxi Node.loose;simp only[Node.mk.injEq,true_and];rw[List.take_append_of_le_length (by simp;omega),List.take_take,Nat.min_self,List.drop_append_of_le_length (by simp;omega),List.drop_take,Nat.sub_self,List.take_zero,List.nil_append];rw[xr1 hl]at j9;injection j9 with j9;rw[<-j9,<- List.drop_eq_getElem_cons hl,List.take_append_drop]
   rw[<-e];exact f1
  ·have e:({q.loose with key:=q.key,up:=some (p.qxi at_ sl).blk}:Node)=q:=by
    unfold Node.loose Node.qxi;rw[<-e9]
   rw[<-e];exact f2
  ·rcases f4 with e|⟨g,e,hg⟩
   ·left
    have e:bz.ownBlock=sl.ownBlock:=e;rw[e,M2.own]
   ·exact .inr ⟨g,e,by have:=M2.keep.size;omega⟩
end
theorem qx5{nodes:List Node}{s:Bs}(h:errRem nodes l s=0):qar s=true/\s≠[]/\∃n,findKey nodes (qaa s)=some n/\n.kids=[]/\∀y∈l,y.q≠n.blk:=by
 unfold errRem at h
 by_cases h1:qar s=false
 ·rw[if_pos h1]at h;cases h
 ·rw[if_neg h1]at h
  by_cases h2:s=[]
  ·rw[if_pos h2]at h;cases h
  ·rw[if_neg h2]at h
   cases h3:findKey nodes (qaa s) with
   |none=>rw[h3]at h;cases h
   |some n =>
    rw[h3]at h
    simp only at h
    by_cases h4:(!(n.kids.length == 0)||l.any (fun p=>p.q == n.blk))=true
    ·rw[if_pos h4]at h;cases h
    ·refine⟨by simpa using h1,h2,n,rfl,?_,fun y hy e=>h4 ?_⟩
     ·simp only[Bool.or_eq_true,Bool.not_eq_true',beq_eq_false_iff_ne,ne_eq,not_or,Decidable.not_not]at h4
      exact List.eq_nil_of_length_eq_zero h4.1
     ·rw[Bool.or_eq_true,xs0]
      exact .inr ⟨y,hy,by simpa using e⟩
section
variable {τ : Nat->Tag}{t:Nat}{w:World}{bt:Nat}{nodes:List Node}{last:Int}{vw va:Value}{ws as_:List Pw}
theorem q1k(h:qb6 τ t w bt nodes last vw va ws as_)(s:ByteArray)(hs:s.size<=2000000)(he:errRem nodes (ws++as_) (bl s)=er)(h0:er≠0):
  Cl 58 #[vP bt,.string s] w fun e w'=>e=.returned (vI er)/\Bw w w':=by
 obtain⟨r,dN,hb⟩:=h.bk;obtain⟨hr,bK⟩:=qeh h.pr.tree dN;have du:=qxr h.pr.tree hb hr bK s hs;rw[he]at du;have aW:(er != 0)=true:=by simpa using h0
 clear h he hb
 go_enter func58,ntmps58
 go_wp2_with (go_at_call 96;refine du.mono ?_;rintro e w1 ⟨rfl,aa⟩)
 exact xrn (v:=vI er) (by simp[results,results58,go_sem]) rfl ⟨rfl,aa⟩
theorem PMid.gone(h:qb6 τ t w bt nodes last vw va ws as_){p:Node}(hq:q∈nodes)(hp:p∈nodes)(hP:qb6 (qde τ w.heap.size) t w' bt (remN nodes q p i sl) last vw va ws as_)(hk:Keep (TchQ p q) w w'):PMid τ t w bt (remN nodes q p i sl) last vw va ws as_ w' :=
 ⟨_,fun b hb=>qbx hb,fun b hb=>.inl (qe4 hb),hP,hk.qlj (fun b hb e=>⟨hb,(h.tch hq hp b e).2⟩)⟩
theorem PMid.q27(h:qb6 τ t w bt nodes last vw va ws as_){p:Node}(hq:q∈nodes)(hp:p∈nodes)(aW:q≠p)(M:BkM w p q sl w'):PMid τ t w bt (reSl nodes p sl) last vw va ws as_ w':=by
 obtain⟨τ',m1,m2,m3⟩:=h.back hq hp aW M
 exact⟨τ',m1,m2,m3,M.keep.qlj (fun b hb e=>⟨hb,(h.tch hq hp b e).2⟩)⟩
theorem q1l(h:qb6 τ t w bt nodes last vw va ws as_)(R:Rel nodes Ws ws as_)(hW:Wks Ws)(s:ByteArray)(hs:s.size<=2000000)(he:errRem nodes (ws++as_) (bl s)=0)(hf:findKey nodes (qaa (bl s))=some q):
  Cl 58 #[vP bt,.string s] w fun e w'=>e=.returned (vI (brkE (delL (nodes.map Node.ent) q.key) Ws))/\(brkE (delL (nodes.map Node.ent) q.key) Ws=0->∃p∈nodes,∃i sl,PMid τ t w bt (remN nodes q p i sl) last vw va ws as_ w')/\(brkE (delL (nodes.map Node.ent) q.key) Ws≠0->∃p∈nodes,∃sl,PMid τ t w bt (reSl nodes p sl) last vw va ws as_ w'):=by
 have T:=h.pr.tree;obtain⟨r,dN,hb⟩:=h.bk;obtain⟨hr,bK⟩:=qeh T dN;obtain⟨hv,cZ,n',q9,eE,a7⟩:=qx5 he;rw[hf]at q9;cases q9;obtain⟨hq,fc⟩:=qbw hf;have du:=qxr T hb hr bK s hs;rw[he]at du;have ag:=fun W (hW:Bw w W) v hv=>qfh T hr bK s hs W (hb.below hW).ins v hv
 rw[hf]at ag;have tb:q.key≠[]:=by rw[fc];intro e;exact cZ (qxp e)
 obtain⟨k,x,js⟩:∃k x,q.key=k++[x]:=⟨q.key.dropLast,q.key.getLast tb,(List.dropLast_concat_getLast tb).symm⟩;obtain⟨p,hp,fU,fN,e9⟩:=T.par q hq k x js;have fe:q.key=p.key++[x]:=by rw[fU];exact js
 have aW:q≠p:=fun e=>by rw[e]at fe;have:=congrArg List.length fe;simp at this
 have fI:=fun W (hW:Bw w W)=>qyu ((h.pr.ins q hq).below hW)
 rw[e9]at fI;have jv:∀W,Cl 81 #[.string s] W fun e w'=>(∃a:ByteArray,e=.returned (.tuple #[.string a,.string (sb x)]))/\Bw W w':=fun W=>(qih s hs hv cZ W).mono fun e w' kI=>by
  obtain⟨⟨a,b,rfl,h1,_⟩,h2⟩:=kI
  refine⟨⟨a,?_⟩,h2⟩
  rw[<-fc,js]at h1;have dr:x=bl b:=(qxo h1).2
  have:b=sb x:=qer (by rw[qbi];exact dr.symm)
  rw[this]
 have jC:∀b,TchQ p q b->b<w.heap.size:=fun b aZ=>by
  rcases aZ with rfl|rfl|e
  ·exact(h.pr.ins p hp).lt
  ·exact(h.pr.ins q hq).lt
  ·exact((h.pr.ins p hp).row.lt b e).2
 have bh:∀W,Bw w W->∀gp gn gq,Blk W gp 97 #[vP p.blk]->Blk W gn 9 #[.string (sb x)]->Blk W gq 97 #[vP q.blk]->w.heap.size<=gp->w.heap.size<=gn->w.heap.size<=gq ->
   Cl 87 #[vP bt,.func (.func 97) #[vP q.blk] #[],.func (.func 98) #[] #[vP gp,vP gn,vP gq]] W
   fun e w'=>e=.returned (vI (brkE (delL (nodes.map Node.ent) q.key) Ws))/\(brkE (delL (nodes.map Node.ent) q.key) Ws=0->∃p∈nodes,∃i sl,PMid τ t w bt (remN nodes q p i sl) last vw va ws as_ w')/\(brkE (delL (nodes.map Node.ent) q.key) Ws≠0->∃p∈nodes,∃sl,PMid τ t w bt (reSl nodes p sl) last vw va ws as_ w'):=fun W bI gp gn gq b1 b2 b3 e1 e2 e3=>by
  have h6:=h.keep (τ':=qde τ w.heap.size) (T:=fun _=>False) (Keep.new bI) (fun _ _ h=>h.elim) (fun b hb=>qbx hb)
  refine(qys h6 R hW hq hp fe e9 eE a7 b1 b2 b3 (fun e=>by have:=jC _ e;omega) (fun e=>by have:=jC _ e;omega) (fun e=>by have:=jC _ e;omega)).mono ?_
  rintro e w' ⟨rfl,g1,g2⟩
  refine⟨rfl,fun e=>?_,fun e=>?_⟩
  ·obtain⟨i,sl,g3,g4⟩:=g1 e
   exact⟨p,hp,i,sl,PMid.from bI (PMid.gone h6 hq hp g3 g4)⟩
  ·obtain⟨sl,g3⟩:=g2 e
   exact⟨p,hp,sl,PMid.from bI (PMid.q27 h6 hq hp aW g3)⟩
 have cI:∀W,Bw w W->W.cell? (vA bt 0)=some (nptr r.blk):=fun W (hW:Bw w W)=>(hb.below hW).bk.at_.cell 0
 generalize brkE (delL (nodes.map Node.ent) q.key) Ws=er at bh ⊢;have HQ:∃Q:World->Prop,Q=fun w'=>(er=0->∃p∈nodes,∃i sl,PMid τ t w bt (remN nodes q p i sl) last vw va ws as_ w')/\(er≠0->∃p∈nodes,∃sl,PMid τ t w bt (reSl nodes p sl) last vw va ws as_ w'):=⟨_,rfl⟩
 obtain⟨Q,hQ⟩:=HQ;have bh:∀W,Bw w W->∀gp gn gq,Blk W gp 97 #[vP p.blk]->Blk W gn 9 #[.string (sb x)]->Blk W gq 97 #[vP q.blk]->w.heap.size<=gp->w.heap.size<=gn->w.heap.size<=gq ->
   Cl 87 #[vP bt,.func (.func 97) #[vP q.blk] #[],.func (.func 98) #[] #[vP gp,vP gn,vP gq]] W fun e w'=>e=.returned (vI er)/\Q w':=by rw[hQ];exact bh
 suffices hh:Cl 58 #[vP bt,.string s] w fun e w'=>e=.returned (vI er)/\Q w' by rw[hQ]at hh;exact hh
 have nT:∀(fn:Fn) (first cap:Array Value) (w:World),(Instr.makeFunc fn first cap).run prog w=.ok (.func fn first cap) w:=fun _ _ _ _=>rfl
 have dx:=hb.bk.at_.lt;simp only[nptr,uptr,Option.map_some]at cI ag fI;clear hQ h he hf R hb js e9 fU fe fc a7 hq hp;generalize p.blk=bp at *;generalize q.blk=bq at *;generalize r.blk=br at *
 go_enter func58,ntmps58
 go_upto_region 7 with (first
  |(go_at_call 96;refine du.mono ?_;rintro e w1 ⟨rfl,aj⟩;have j_:=cI w1 aj)
  |(go_at_call 63;refine(ag _ aj (vP bq) rfl).mono ?_;rintro e w2 ⟨rfl,af⟩;have aw:Bw w w2:=qac aj af;have dO:=aw.size;have BQ:Blk (w2.alloc (.cells #[vP bq] 97)) w2.heap.size 97 #[vP bq]:=Blk.new w2 97 _)
  |(go_at_call 92;refine(fI _ (by exact bel2)).mono ?_;rintro e w3 ⟨rfl,ig⟩;subst ig)
  |(go_at_call 81;refine(jv _).mono ?_;rintro e w5 ⟨⟨sa,rfl⟩,aG⟩;have eM:Bw w w5:=qac (by exact bel2) aG;have Fc:Blk w5 w2.heap.size 97 #[vP bq]:=Blk.below (by exact blk2) aG (by simp;omega);have E_:Blk w5 (w2.heap.size+1) 97 #[vP bp]:=Blk.below (by exact blk2) aG (by simp);have Bd:=eM.size;have JZ:=Fc.lt;have J_:=E_.lt))
 have j7:Bw w (w5.alloc (.cells #[.string (sb x)] 9)):=by exact bel2
 have qR:=Fc.alloc (.cells #[.string (sb x)] 9);have Fa:=E_.alloc (.cells #[.string (sb x)] 9);have EZ:Blk (w5.alloc (.cells #[.string (sb x)] 9)) w5.heap.size 9 #[.string (sb x)]:=Blk.new w5 9 _;have ug:=bh _ j7 _ _ _ Fa EZ qR (by omega) (by omega) (by omega);have H4:=qR.cell 0;simp only[List.getElem?_toArray,List.getElem?_cons_zero]at H4;clear bh qR Fa EZ
 go_wp2_with (first
  |(go_at_call 87;refine ug.mono ?_;rintro e w9 ⟨rfl,hM⟩))
 exact xrn (v:=vI er) (by simp[results,results58,go_sem]) rfl ⟨rfl,hM⟩
end
theorem qy9{w:World}{g:Nat}(h:GRef w br g cap L ao cW Ws cnt st)(E:Ents L)(df:(L.map (·.key)).Nodup)(aH:∀a∈L,∀b∈L,a.key=b.key->a=b)(I:SInv ⟨Ws,st,[]⟩)(bW:st<=900000000)(s:ByteArray)(hs:s.size<=2000000){x:Ent}(hF:errF L (bl s)=0)(hx:qcv L (qaa (bl s))=some x)(mn:qxs L Ws (bl s)=false)(E2:Ents (delL L (qaa (bl s))))(tu:Bors (delL L (qaa (bl s)))):
  Cl 72 #[vP br,.string s] w (QuoG br g (Value.slice ao Ws.length cW).ownBlock L (delL L (qaa (bl s))) Ws cnt st w):=by
 have bR:=h.qii;have cr:=h.ref.qjv;have cP:=E.len;have ti:x.key=qaa (bl s):=by have:=List.find?_some hx;simpa using this
 have ag:=qxv h.ref E aH s hs hF hx;have sJ:=fun W (hW:Bw w W)=>qz3 (h.below hW) E I.wks.wks s hs
 rw[mn]at sJ;have dN:w.cell? (vA br 0)=some (vS g L.length cap):=by have:=h.ref.at_.cell 0;simpa using this
 have ct:g<w.heap.size:=(h.ref.row.lt g rfl).2;have oo:=fun W (hW:Bw w W)=>qya (h.below hW) E.len E.pos I.wks.wks.len
 have HS:∀i:Nat,L[i]?=some x->L.take i++L.drop (i+1)=delL L (qaa (bl s)):=fun i hi=>by rw[<-ti];exact qzc L i x df hi
 generalize delL L (qaa (bl s))=L' at *;clear hF hx aH df mn;obtain⟨n,hn⟩:∃n,n=L.length:=⟨_,rfl⟩;rw[<-hn]at dN cr cP;have HR:Hid (n=L.length):=hn;clear hn
 go_enter func72,ntmps72
 go_upto_region 9 with (first
   |(go_at_call 117;refine ag.mono ?_;rintro e w1 ⟨⟨i,rfl,hi⟩,aa⟩;clear ag)
   |(go_at_call 118;refine(sJ _ aa).mono ?_;rintro e w2 ⟨rfl,en⟩;subst en;clear sJ)
   |(go_at_call 119;refine(oo _ aa).mono ?_;rintro e w4 ⟨bu,g2,eD,jG,jH,rfl,mf,a_,n1,n2,n3⟩;clear oo))
 have cJ:=aa.size;have m1:w.heap.size<=bu:=by omega
 have m2:w.heap.size<=g2:=by omega
 have m3:∀b,(Value.slice jG Ws.length jH).ownBlock=some b->w.heap.size<=b:=fun b hb=>by have:=n3 b hb;omega
 have dU:Bw w w4:=qac aa a_;clear a_ aa n1 n2 n3 cJ;have vM:=dU.size;have m_:=h.below dU;have ey:i<n:=by have:=(xr0.1 hi).1;have:=HR.out;omega
 have mB:(i:Int)<n:=by omega
 have p8:(0:Int)<=i:=by omega
 have oq:¬((i:Int)<0):=by omega
 have c0:w4.cell? (vA br 0)=some (vS g n cap):=(dU.cell (p:=vA br 0) bR).trans dN;have wD:g<w4.heap.size:=by omega
 have yk:br<w4.heap.size:=by omega
 have aY:∀(W:World),Bw w4 W->∀j u,(qdi L)[j]?=some u->W.cell? (vA g j)=some u:=fun W hW j u hu=>by
  have:=m_.ref.row.cells (g:=g) rfl j u hu
  rw[Addr.add_lit,Nat.zero_add]at this
  exact(hW.cell (p:=vA g j) wD).trans this
 have oF:=qrk qvo qz8 (by omega) w4 none 0 0 (Nat.le_refl _) (Nat.zero_le _) [] (xrk _ _ _ _) (some (vA g 0)) i cap (qdi (L.take i)) (by rw[qx7,List.length_take];rw[Nat.min_eq_left (by have:=HR.out;omega)])
  (fun _=>⟨_,rfl,fun j u hu=>by
   rw[Addr.add_lit,Nat.zero_add]
   refine aY w4 (Below.refl _ _) j u ?_
   rw[q00]at hu;rw[List.getElem?_take]at hu
   split at hu
   ·exact hu
   ·cases hu⟩) (qyh _) (by unfold maxLen;omega) (by omega)
 simp only[Nat.zero_add,List.nil_append]at oF;have aa:∀a1 q1 w2,AppO w4 v0_.ownBlock 163 6 i (qdi (L.take i)) a1 q1 w2->Bw w4 w2:=fun a1 q1 w2 R=>qyv R
 have sj:∀a1 q1 w2,AppO w4 v0_.ownBlock 163 6 i (qdi (L.take i)) a1 q1 w2->∀(x2:Option Addr) (c2:Nat),(0<n-(i+1)->x2=some (vA g ((i+1)*6))) ->
   ∃v' w',(∀ty,(Builtin.append_ #[164,164] ty #[.slice a1 i q1,.slice x2 (n-(i+1)) c2]).run prog w2=.ok v' w')/\∃a' cap',v'=.slice a' (i+(n-(i+1))) cap'/\AppO w2 (Value.slice a1 i q1).ownBlock 163 6 (i+(n-(i+1))) (qdi (L.take i)++qdi (L.drop (i+1))) a' cap' w' :=
  fun a1 q1 w2 R x2 c2 ke=>qrk qvo qz8 (by omega) w2 a1 i q1 R.le R.mx _ R.own x2 (n-(i+1)) c2 (qdi (L.drop (i+1))) (by rw[qx7,List.length_drop,<- HR.out])
   (fun hm=>⟨_,ke hm,fun j u hu=>by
    rw[q0y,List.getElem?_drop]at hu;rw[Addr.add_lit]
    exact aY w2 (aa _ _ _ R) _ u hu⟩) (qyh _) (by unfold maxLen;omega) (by omega)
 have an:L'.length=i+(n-(i+1)):=by
  rw[<-HS i hi]
  have:=HR.out
  simp;omega
 have aP:∀a1 q1 w2 a2 q2 w3,AppO w4 v0_.ownBlock 163 6 i (qdi (L.take i)) a1 q1 w2->AppO w2 (Value.slice a1 i q1).ownBlock 163 6 (i+(n-(i+1))) (qdi (L.take i)++qdi (L.drop (i+1))) a2 q2 w3 ->
   ∃g3,a2=some (vA g3 0)/\Bw w4 w3/\w4.heap.size<=g3/\w3.ownsRow 0 163 6 (vS g3 (i+(n-(i+1))) q2) (i+(n-(i+1))) (qdi L'):=fun a1 q1 w2 a2 q2 w3 R1 R2=>by
  have aj:=aa _ _ _ R1;have lC:∀y,(Value.slice a1 i q1).ownBlock=some y->w4.heap.size<=y:=fun y hy=>by
   rcases R1.new y hy with e|e
   ·simp[Value.ownBlock]at e
   ·exact e
  have aw:Bw w4 w3:=aj.trans ⟨R2.keep.os,R2.keep.tape,R2.keep.output,R2.keep.size,fun k hk=>R2.keep.block k (by have:=aj.size;omega) (fun e=>by have:=lC k e;omega)⟩;have ho:=R2.own;have cM:=E2.pos;obtain⟨g3,c3,hv,_,_⟩:=qat ho (by omega);injection hv with e1 _ e3;subst e1
  refine⟨g3,rfl,aw,?_,?_⟩
  ·rcases R2.new g3 rfl with e|e
   ·exact lC _ e
   ·have:=aj.size;omega
  ·rw[show qdi L'=qdi (L.take i)++qdi (L.drop (i+1)) by rw[<-HS i hi];simp[qdi]]
   exact ho
 have bh:=m_.ref.at_;have hz:∀w3:World,Bw w4 w3->w3.cell? (vA br 0)=some (vS g n cap)/\w3.frozen? (vA br 0)=false/\br<w3.heap.size:=fun w3 hB=>⟨(hB.cell (p:=vA br 0) yk).trans c0,(bh.below hB yk).frozen 0,by have:=hB.size;omega⟩
 have HF:Hid (∀w3 g3 q2,Bw w4 w3->w4.heap.size<=g3->w3.ownsRow 0 163 6 (vS g3 (i+(n-(i+1))) q2) (i+(n-(i+1))) (qdi L') ->
   Cl 120 #[vP br,vP bu] (w3.setCell (vA br 0) (vS g3 (i+(n-(i+1))) q2)) fun e w'=>∃sl er,e=.returned (.tuple #[sl,vI er])/\Hid (QuoG br g (Value.slice ao Ws.length cW).ownBlock L L' Ws cnt st w (.returned (.tuple #[sl,vI er])) w')):=fun w3 g3 q2 hB hg hr=>by
  obtain⟨j8,fS⟩:=m_.putL hB an hr hg;have jL:=mf.q1y fS (by omega) (by omega) (fun b hb=>by have:=m3 b hb;omega);have ou:Keep (fun b=>b=br\/b=g\/(Value.slice ao Ws.length cW).ownBlock=some b) w (w3.setCell (vA br 0) (vS g3 (i+(n-(i+1))) q2)):=(Keep.new dU).step fS (fun y _ e=>.inl e)
  exact(qy2 j8 E2 tu I bW jL (by omega) (by omega) (fun b hb=>by have:=m3 b hb;omega)).mono fun e w' hp=>by
   rcases hp with ⟨p1,p2,p3,p4⟩|⟨p1,sl,a3,c3,p2,p3⟩
   ·exact⟨_,_,p2,.inl ⟨p1,rfl,⟨g2,eD,jG,jH,p3,.inr m2,fun b hb=>⟨fun ak=>by have:=m3 b hb;omega,by simp[Value.ownBlock]⟩⟩,ou.step p4 (fun y _ e=>.inl e),xrk _ _ _ _,fun b hb=>by simp[Value.ownBlock]at hb⟩⟩
   ·exact⟨_,_,p2,.inr ⟨p1,sl,rfl,qdw.qn3 ou p3 (fun b hb _=>hb) (.inr (by omega))⟩⟩
 generalize QuoG br g (Value.slice ao Ws.length cW).ownBlock L L' Ws cnt st w=Q at *;clear aY bh h m_ mf I E E2 tu hi m1 m2 m3 dN an HS
 go_upto_region 10 with (at_builtin;refine qah (by rfl) _ _ _ _ rfl _ _ rfl (by rfl) oF ?_;rintro v1 w5 ⟨a1,q1,rfl,R1⟩)
 have aj:=aa _ _ _ R1;have c2:=(hz _ aj).1;have iC:=sj _ _ _ R1;have jX:=fun a2 q2 w3=>aP _ _ _ a2 q2 w3 R1
 have gO:=R1.le;have ie:=R1.mx;clear oF sj aa aP c0
 by_cases oo:i+1=cap
 ·have iD:=iC (some (vA g 0)) 0 (fun h=>by omega);have iQ:n-(i+1)=0:=by omega
  subst oo;rw[iQ]at iD;rw[iQ]at jX;rw[Nat.add_zero]at iD jX;rw[iQ,Nat.add_zero]at HF;clear iC iQ
  go_wp2_with (first
   |(at_builtin;refine qah (by rfl) _ _ _ _ rfl _ _ rfl (by rfl) iD ?_;rintro v2 w6 ⟨a2,q2,rfl,R2⟩;obtain⟨g3,rfl,aK,wC,gD⟩:=jX _ _ _ R2;have f3:=(hz _ aK).2.1;have c3:=(hz _ aK).1;have l3:=(hz _ aK).2.2;have uy:=HF.out _ _ _ aK wC gD)
   |(go_at_call 120;refine uy.mono ?_;rintro e w9 ⟨sl,er,rfl,HQ⟩))
  exact HQ.out
 ·have sL:¬((i:Int)+1=cap):=by omega
  have iD:=iC (some (vA g ((i+1)*6))) (cap-(i+1)) (fun _=>rfl);clear iC
  go_wp2_with (first
   |(at_builtin;refine qah (by rfl) _ _ _ _ rfl _ _ rfl (by rfl) iD ?_;rintro v2 w6 ⟨a2,q2,rfl,R2⟩;obtain⟨g3,rfl,aK,wC,gD⟩:=jX _ _ _ R2;have f3:=(hz _ aK).2.1;have c3:=(hz _ aK).1;have l3:=(hz _ aK).2.2;have uy:=HF.out _ _ _ aK wC gD)
   |(go_at_call 120;refine uy.mono ?_;rintro e w9 ⟨sl,er,rfl,HQ⟩))
  exact HQ.out
theorem Rel.keys{nodes:List Node}{ws as_:List Pw}(R:Rel nodes Ws ws as_)(hS:∀x∈Ws,0<=x.st)(k:List Bs):(∃y∈Ws,y.key=k)↔(∃z∈ws++as_,z.x.key=k):=by
 obtain⟨az,a1,a2,_⟩:=R.a
 constructor
 ·rintro⟨y,hy,rfl⟩
  have h0:=hS y hy
  by_cases h:y.st=0
  ·have:y∈ws.map (·.x):=by rw[R.w];exact xrr.2 ⟨hy,by simp[h]⟩
   obtain⟨z,hz,e⟩:=xrq.1 this
   exact⟨z,xr9 _ hz,by rw[e]⟩
  ·have:y∈az:=a2.symm.subset (xrr.2 ⟨hy,by simp;omega⟩)
   have:y.adm 0∈as_.map (·.x):=by rw[a1];exact xrj this
   obtain⟨z,hz,e⟩:=xrq.1 this
   exact⟨z,xra _ hz,by rw[e];rfl⟩
 ·rintro⟨z,hz,rfl⟩
  rcases xri.1 hz with h|h
  ·have:z.x∈ws.map (·.x):=xrj h
   rw[R.w]at this
   exact⟨z.x,(xrr.1 this).1,rfl⟩
  ·have:z.x∈as_.map (·.x):=xrj h
   rw[a1]at this;obtain⟨v,hv,e⟩:=xrq.1 this
   exact⟨v,(xrr.1 (a2.subset hv)).1,by rw[<-e];rfl⟩
theorem q0e{nodes:List Node}(T:Tree nodes)(hB:qa7 nodes){ws as_:List Pw}(R:Rel nodes Ws ws as_)(hS:∀x∈Ws,0<=x.st)(hW:Wks Ws)(hq:q∈nodes){s:Bs}(fc:q.key=qaa s):
  qxs (nodes.map Node.ent) Ws s=(!(q.kids.length == 0)||(ws++as_).any (fun p=>p.q == q.blk)):=by
 have vo:s=joinB q.key:=by rw[fc,qa6]
 have wQ:=(T.ok q hq).1;obtain⟨kq,g1,g2,_⟩:=T.kids q hq;unfold qxs
 congr 1
 ·rw[Bool.eq_iff_iff,xs0];simp only[Bool.not_eq_true',beq_eq_false_iff_ne,ne_eq]
  constructor
  ·rintro⟨e,he,hk⟩
   obtain⟨n,hn,rfl⟩:=xrq.1 he;have a7:=(T.ok n hn).1;unfold kidE at hk;rw[vo]at hk;simp only[Bool.and_eq_true,Bool.not_eq_true',decide_eq_false_iff_not]at hk;obtain⟨h1,h2⟩:=hk;obtain⟨tl,jC⟩:=(qqv a7 wQ).1 h1;have jC:q.key++tl=n.key:=jC
   cases tl with
   |nil=>exact absurd (show joinB n.key=joinB q.key by rw[<-jC,List.append_nil]) h2
   |cons y tl =>
    obtain⟨m,hm,eZ⟩:=T.pre tl (q.key++[y]) n hn (by rw[<-jC];simp)
    have:m∈kq:=(g2 m).2 ⟨hm,y,eZ⟩
    intro h0;rw[g1]at h0
    simp at h0
    rw[h0]at this
    cases this
  ·intro h0;rw[g1]at h0
   cases kq with
   |nil=>simp at h0
   |cons k l =>
    obtain⟨h1,y,h2⟩:=(g2 k).1 (by simp)
    refine⟨k.ent,xrj h1,?_⟩
    have FZ:=(T.ok k h1).1;unfold kidE;simp only[Bool.and_eq_true,Bool.not_eq_true',decide_eq_false_iff_not]
    refine⟨?_,?_⟩
    ·rw[vo];exact(qqv FZ wQ).2 ⟨[y],h2.symm⟩
    ·rw[vo];intro e;have e:joinB k.key=joinB q.key:=e
     have:=qe5 FZ wQ e
     rw[h2]at this
     have:=congrArg List.length this
     simp at this
 ·rw[Bool.eq_iff_iff,xs0,xs0];have hk:=R.keys hS q.key
  constructor
  ·rintro⟨y,hy,h1⟩
   unfold atW at h1;have h1:=of_decide_eq_true h1;rw[vo]at h1
   have:=qe5 (hW.ok y hy).1 wQ h1
   obtain⟨z,hz,e⟩:=hk.1 ⟨y,hy,this⟩
   exact⟨z,hz,by rw[R.qwt T hB hq hz,e];simp⟩
  ·rintro⟨z,hz,h1⟩
   rw[R.qwt T hB hq hz]at h1;obtain⟨y,hy,e⟩:=hk.2 ⟨z,hz,of_decide_eq_true h1⟩
   exact⟨y,hy,by unfold atW;rw[e,vo];simp⟩
theorem qzd{nodes:List Node}(T:Tree nodes)(hB:qa7 nodes){ws as_:List Pw}(R:Rel nodes Ws ws as_)(hS:∀x∈Ws,0<=x.st)(hW:Wks Ws)(s:Bs):
  (if errF (nodes.map Node.ent) s≠0 then errF (nodes.map Node.ent) s else if qxs (nodes.map Node.ent) Ws s=true then 9 else 0)=errRem nodes (ws++as_) s:=by
 unfold errRem errF;rw[qft]
 by_cases h1:qar s=false
 ·simp[h1]
 ·by_cases h2:s=[]
  ·rw[if_neg h1,if_pos h2,if_neg h1,if_pos h2];rfl
  ·cases h3:findKey nodes (qaa s) with
   |none=>simp[h1,h2]
   |some n =>
    obtain⟨hn,dh⟩:=qbw h3;rw[q0e T hB R hS hW hn dh]
    simp[h1,h2]
def qx2 (x:Tw)(s:Bs):Out :=
 match findKey x.nodes (qaa s) with
 |none=>x.same (errRem x.nodes (x.ws++x.as_) s)
 |some q=>if errRem x.nodes (x.ws++x.as_) s≠0 then x.same (errRem x.nodes (x.ws++x.as_) s) else if brkE (delL x.L q.key) x.Ws≠0 then x.same (brkE (delL x.L q.key) x.Ws)
  else qiu (delL x.L q.key) x.cnt (qaj (delL x.L q.key) ⟨x.Ws,x.st,[]⟩)
theorem qx6{W:World}{bt:Nat}(s:ByteArray){M:World->Prop}{F:Value->World->Prop}
  (Iu:Cl 58 #[vP bt,.string s] W fun e w'=>e=.returned (vI er)/\M w')
  (xH:∀W1,M W1->Cl 51 #[vP bt,vI er] W1 fun e w'=>∃ev,e=.returned (.tuple #[ev,vI er])/\F ev w') :
  Cl 31 #[vP bt,.string s] W fun e w'=>∃ev,e=.returned (.tuple #[ev,vI er])/\F ev w':=by
 go_enter func31,ntmps31
 go_wp2_with (first
  |(go_at_call 58;refine Iu.mono ?_;rintro e w1 ⟨rfl,hM⟩)
  |(go_at_call 51;refine(xH _ hM).mono ?_;rintro e w2 ⟨ev,rfl,hF⟩))
 exact xrn (v:=.tuple #[ev,vI er]) (by simp[results,results31,go_sem]) rfl ⟨ev,rfl,hF⟩
theorem q1j{τ : Nat->Tag}{t K:Nat}{W:World}{x:Tw}(A:qbj K x){p:Node}(hM:PMid τ t W x.bt (reSl x.nodes p sl) x.last x.vw x.va x.ws x.as_ w')(err:Int):POut τ t W x.bt (x.same err) v0_ w':=by
 obtain⟨τ',m1,m2,m3,m4⟩:=hM;have hS:=fun z=>qyp p sl z
 refine⟨τ',reSl x.nodes p sl,x.vw,x.va,x.ws,x.as_,m1,m2,?_,?_,?_,xrk _ _ _ _,(fun b hb=>by cases hb),m4⟩
 ·show qb6 τ' t w' x.bt _ x.cnt x.vw x.va x.ws x.as_
  rw[A.cnt];exact m3
 ·show _=x.L
  rw[q2f,A.L]
 ·refine⟨m3.pr.tree,A.com.rel.qvh (fun n hn=>⟨_,xrj hn,(hS n).blk,(hS n).key⟩),A.com.inv,⟨fun y hy=>?_,A.com.wkl.num⟩,A.com.cnt0⟩
  obtain⟨n,hn,e1,e2⟩:=A.com.wkl.leaf y hy
  exact⟨_,xrj hn,(hS n).key.trans e1,(hS n).leaf.trans e2⟩
theorem q2u{τ : Nat->Tag}{t K:Nat}{W:World}{x:Tw}(hP:qb6 τ t W x.bt x.nodes x.last x.vw x.va x.ws x.as_)(A:qbj K x)(s:ByteArray)(hs:s.size<=2000000):
  Cl 31 #[vP x.bt,.string s] W fun e w'=>∃ev,e=.returned (.tuple #[ev,vI (qx2 x (bl s)).err])/\POut τ t W x.bt (qx2 x (bl s)) ev w':=by
 have T:=hP.pr.tree;have hB:=hP.pr.qlc;have C0:∀y∈x.Ws,0<=y.st:=fun y hy=>(A.inv.wks.st y hy).1
 by_cases he:errRem x.nodes (x.ws++x.as_) (bl s)=0
 ·obtain⟨hv,cZ,q,hf,eE,a7⟩:=qx5 he;obtain⟨hq,fc⟩:=qbw hf;have ec:=q1l hP A.com.rel A.inv.wks.wks s hs he hf;rw[<-A.L]at ec;have ho:qx2 x (bl s)=if brkE (delL x.L q.key) x.Ws≠0 then x.same (brkE (delL x.L q.key) x.Ws) else qiu (delL x.L q.key) x.cnt (qaj (delL x.L q.key) ⟨x.Ws,x.st,[]⟩):=by
   unfold qx2;simp only[hf];rw[if_neg (by simpa using he)]
  by_cases h2:brkE (delL x.L q.key) x.Ws=0
  ·rw[if_neg (by simpa using h2)]at ho;rw[ho]
   refine qx6 (M:=fun w'=>∃p∈x.nodes,∃i sl,PMid τ t W x.bt (remN x.nodes q p i sl) x.last x.vw x.va x.ws x.as_ w') s (ec.mono fun e w' h=>?_) (fun W1 hM=>?_)
   ·obtain⟨h3,h4,_⟩:=h;rw[h2]at h3
    exact⟨h3,h4 h2⟩
   ·obtain⟨p,hp,i,sl,hM⟩:=hM;obtain⟨τ1,_,_,g3,_⟩:=id hM;obtain⟨r1,_,aa⟩:=g3.bk;have hR:Rel (remN x.nodes q p i sl) x.Ws x.ws x.as_:=⟨A.com.rel.w,A.com.rel.a,aa.lf⟩;have hL:WkL (remN x.nodes q p i sl) x.Ws x.last:=by
     refine⟨fun y hy=>?_,by rw[<-A.cnt];exact A.com.wkl.num⟩
     obtain⟨n,hn,e1,e2⟩:=A.com.wkl.leaf y hy;obtain⟨z,hz,e3⟩:=(A.com.rel.keys C0 y.key).1 ⟨y,hy,rfl⟩;have gz:n.key≠q.key:=fun e=>a7 z hz (by have:=A.com.rel.qwt T hB hq hz;rw[e3,<- e1,e]at this;simpa using this)
     refine⟨_,(qy7 x.nodes q p i sl _).2 ⟨n,hn,gz,rfl⟩,?_⟩
     by_cases e:n.key=p.key
     ·have:n=p:=T.inj n hn p hp e
      subst this;rw[if_pos rfl];exact⟨e1,e2⟩
     ·rw[if_neg e];exact⟨e1,e2⟩
    have:=qx9 hM hR A.inv hL (by rw[<-A.cnt];exact A.com.cnt0)
    rw[<-A.cnt,qz9 T hp,<- A.L]at this
    exact this
  ·rw[if_pos h2]at ho;rw[ho]
   refine qx6 (M:=fun w'=>∃p∈x.nodes,∃sl,PMid τ t W x.bt (reSl x.nodes p sl) x.last x.vw x.va x.ws x.as_ w') s (ec.mono fun e w' h=>⟨h.1,h.2.2 h2⟩) (fun W1 hM=>?_)
   obtain⟨p,hp,sl,hM⟩:=hM
   refine(qgg (w:=W1) (bt:=x.bt) h2).mono ?_
   rintro e w' ⟨rfl,rfl⟩
   exact⟨_,rfl,q1j A hM _⟩
 ·have ho:qx2 x (bl s)=x.same (errRem x.nodes (x.ws++x.as_) (bl s)):=by
   unfold qx2
   cases findKey x.nodes (qaa (bl s)) with
   |none=>rfl
   |some n=>simp only[ne_eq,he,not_false_eq_true,if_true]
  rw[ho]
  refine qx6 (M:=fun w'=>Bw W w') s (q1k hP s hs rfl he) (fun W1 hM=>?_)
  refine(qgg (w:=W1) (bt:=x.bt) he).mono ?_
  rintro e w' ⟨rfl,rfl⟩
  exact⟨_,rfl,qht hP A hM _⟩
section
variable {n₀ : Nat}{τ : Nat->Tag}{W:World}{bw:Nat}{ay:List Tw}{K t:Nat}{x:Tw}
theorem qzo(hK:K<=2000000)(h:St n₀ τ W bw ay (200*K))(hA:∀y∈ay,qbj K y)(hx:ay[t]?=some x)(s:ByteArray)(hs:s.size<=2000000):
  qsb n₀ τ W bw ay.length K 31 #[vP x.bt,.string s] 72 #[vP x.br,.string s] mkk2:=by
 have A:=hA x (xr2 hx);have bW:x.st<=900000000:=by have:=A.stK;omega
 have C0:∀y∈x.Ws,0<=y.st:=fun y hy=>(A.inv.wks.st y hy).1
 have T:=A.com.tree;have hp:=fun τ1 W1 (hP:qb6 τ1 t W1 x.bt x.nodes x.last x.vw x.va x.ws x.as_)=>q2u hP A s hs
 have jT:∀hB:qa7 x.nodes,(if errF x.L (bl s)≠0 then errF x.L (bl s) else if qxs x.L x.Ws (bl s)=true then 9 else 0)=errRem x.nodes (x.ws++x.as_) (bl s):=fun hB=>by rw[A.L];exact qzd T hB A.com.rel C0 A.inv.wks.wks (bl s)
 have I0:qa7 x.nodes:=by
  obtain⟨_,_,_,_,_,_,_,_,_,hS⟩:=h
  exact(hS.tw t x hx).P.pr.qlc
 have jT:=jT I0
 by_cases he:errRem x.nodes (x.ws++x.as_) (bl s)=0
 ·obtain⟨hv,cZ,q,hf,eE,a7⟩:=qx5 he;obtain⟨hq,fc⟩:=qbw hf;have hF:errF x.L (bl s)=0:=by unfold errF;rw[A.L,qft,hf];simp[hv,cZ]
  have mn:qxs x.L x.Ws (bl s)=false:=by
   rw[he,if_neg (by simpa using hF)]at jT
   cases hb:qxs x.L x.Ws (bl s)
   ·rfl
   ·rw[hb]at jT;simp at jT
  have nR:qcv x.L (qaa (bl s))=some q.ent:=by rw[A.L,qft,hf];rfl
  have E2:Ents (delL x.L (qaa (bl s)))/\Bors (delL x.L (qaa (bl s))):=by
   have E:=A.ents;have B:=A.bors;have aF:∀e∈delL x.L (qaa (bl s)),e∈x.L:=fun e he=>(xrr.1 he).1
   refine⟨⟨fun e he=>E.ok e (aF e he),fun e he=>E.num e (aF e he),Nat.le_trans (xrh _ _) E.len,?_⟩,fun e he=>B e (aF e he)⟩
   obtain⟨r,h0,h1,_⟩:=T.root;have hm:r.ent∈delL x.L (qaa (bl s)):=xrr.2 ⟨by rw[A.L];exact xrj (xr2 h0),by
    have e:¬(r.ent.key=qaa (bl s)):=fun e=>cZ (qxp (by rw[<-e];exact h1))
    simp[e]⟩
   exact List.length_pos_of_mem hm
  have hr:=fun W1 (hR:GRef W1 x.br x.g x.cap x.L x.ao x.cW x.Ws x.cnt x.st)=>qy9 hR A.ents A.nodup A.einj A.inv bW s hs hF nR mn E2.1 E2.2
  have ho:qx2 x (bl s)=if qxf (delL x.L q.key) x.Ws=true then x.same 11 else qiu (delL x.L q.key) x.cnt (qaj (delL x.L q.key) ⟨x.Ws,x.st,[]⟩):=by
   unfold qx2 brkE;simp only[hf];rw[if_neg (by simpa using he)]
   cases qxf (delL x.L q.key) x.Ws<;>simp
  rw[<-fc]at hr;rw[ho]at hp;generalize delL x.L q.key=L' at *
  cases eJ:qxf L' x.Ws
  ·rw[eJ]at hp;simp only[Bool.false_eq_true,if_false]at hp;obtain⟨l1,l2,l3⟩:=qfk A L' A.inv (cnt:=x.cnt) (by have:=A.cntK;omega)
   refine qd0 hK h hA hx (o:=qiu L' x.cnt (qaj L' ⟨x.Ws,x.st,[]⟩)) l1 l2 l3 mkk2 0 hp (fun W1 hR=>(hr W1 hR).mono fun e w' hM=>?_)
   rcases hM with ⟨h1,_⟩|⟨_,sl,h1,h2⟩
   ·rw[eJ]at h1;cases h1
   ·exact⟨sl,h1,h2⟩
  ·rw[eJ]at hp;simp only[if_true]at hp;obtain⟨l1,l2,l3⟩:=qkk A 11
   refine qd0 hK h hA hx (o:=x.same 11) l1 l2 l3 mkk2 0 hp (fun W1 hR=>(hr W1 hR).mono fun e w' hM=>?_)
   rcases hM with ⟨_,h1,h2⟩|⟨h1,_⟩
   ·exact⟨_,h1,h2⟩
   ·rw[eJ]at h1;cases h1
 ·have ho:qx2 x (bl s)=x.same (errRem x.nodes (x.ws++x.as_) (bl s)):=by
   unfold qx2
   cases findKey x.nodes (qaa (bl s)) with
   |none=>rfl
   |some n=>simp only[ne_eq,he,not_false_eq_true,if_true]
  rw[ho]at hp;have hr:=fun W1 (hR:GRef W1 x.br x.g x.cap x.L x.ao x.cW x.Ws x.cnt x.st)=>qy8 hR A.ents A.inv.wks.wks A.einj s hs jT he
  generalize errRem x.nodes (x.ws++x.as_) (bl s)=err at *;obtain⟨l1,l2,l3⟩:=qkk A err
  exact qd0 hK h hA hx (o:=x.same err) l1 l2 l3 mkk2 0 hp (fun W1 hR=>(hr W1 hR).mono fun e w' hM=>⟨_,hM.1,qfx hR hM.2 err⟩)
end
def mvK (k k' key:List Bs):List Bs:=if k.isPrefixOf key then k'++key.drop k.length else key
def mvE (k k':List Bs)(e:Ent):Ent:={e with key:=mvK k k' e.key}
def mvW (k k':List Bs)(x:Wk):Wk:={x with key:=mvK k k' x.key}
theorem qxn(h:k <+: key):mvK k k' key=k'++key.drop k.length:=by
 unfold mvK;rw[if_pos (xrw.2 h)]
theorem qxg(h:¬k <+: key):mvK k k' key=key:=by
 unfold mvK;rw[if_neg (fun e=>h (xrw.1 e))]
theorem qzy{tl:List Bs}(hk:k≠[])(dz:k'≠[]):joinB k'++(joinB (k++tl)).drop (joinB k).length=joinB (k'++tl):=by
 by_cases ht:tl=[]
 ·subst ht;simp
 ·rw[qk2 k tl hk ht,qk2 k' tl dz ht];simp
theorem q1d(p a b:ByteArray)(w:World)(h:a.size<=p.size)(hp:p.size<=2000000)(hb:b.size<=2000000):
  Cl 123 #[.string p,.string a,.string b] w fun e w'=>e=.returned (.string (sb (bl b++(bl p).drop a.size)))/\w'=w:=by
 have h1:(a.size:Int)<=p.size:=by omega
 have h0:(0:Int)<=a.size:=by omega
 have h2:¬9223372036854775807<b.size+(p.size-a.size):=by omega
 go_enter func123,ntmps123
 go_wp2
 have hv:b++p.extract a.size p.size=sb (bl b++(bl p).drop a.size):=by
  refine qer ?_
  rw[qec,qcq,qbi,xrd (by rw[List.length_drop,qb4];exact Nat.le_refl _)]
 go_ret
 exact⟨by rw[<-hv];rfl,rfl⟩
theorem q1e{tl:List Bs}(hk:k≠[])(dz:k'≠[])(h1:qbn (k++tl)=true)(h2:qbn k'=true)(l1:(k++tl).length<=4)(l2:k'.length<=5)(w:World):
  Cl 123 #[.string (sb (joinB (k++tl))),.string (sb (joinB k)),.string (sb (joinB k'))] w fun e w'=>e=.returned (.string (sb (joinB (k'++tl))))/\w'=w:=by
 have j1:=qgm _ h1;have j2:=qgm _ h2;have dV:(sb (joinB k)).size<=(sb (joinB (k++tl))).size:=by
  rw[qd3,qd3]
  by_cases ht:tl=[]
  ·subst ht;simp
  ·rw[qk2 k tl hk ht];simp
 have:=q1d (sb (joinB (k++tl))) (sb (joinB k)) (sb (joinB k')) w dV (by rw[qd3];omega) (by rw[qd3];omega)
 rw[qbi,qbi,qd3,qzy hk dz]at this
 exact this
end Go.Proofs.YtphclnolomgjoaaGreatDoor
