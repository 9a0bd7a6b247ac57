import Derived.Defers
import Derived.Test.YtphclnolomgjoaaGreatDoorC30
set_option linter.unusedVariables false
set_option linter.unusedSimpArgs false
set_option maxRecDepth 100000
set_option maxHeartbeats 4000000
namespace Go.Proofs.YtphclnolomgjoaaGreatDoor
open Tryz
section
open Go.RowKit
variable {as_ l ws:List Pw}{τ τ':Nat->Tag}{bt t:Nat}{W W':World}{ar nodes:List Node}{va vw:Value}{r r':Node}{T:Nat->Prop}
structure qzq (a b:Pw):Prop where
 blk:b.blk=a.blk
 q:b.q=a.q
 num:b.x.num=a.x.num
 d0:b.x.d0=a.x.d0
 d1:b.x.d1=a.x.d1
theorem qzq.cells{a b:Pw}(h:qzq a b):b.cells=a.cells:=by unfold Pw.cells;rw[h.q,h.num,h.d0,h.d1]
theorem qzk{f:Pw->Pw}(h:∀y∈l,qzq y (f y)):qay (l.map f)=qay l:=by
 unfold qay;rw[List.map_map]
 exact List.map_congr_left fun y hy=>by simp only[Function.comp];rw[(h y hy).blk]
theorem qb6.new{last:Int}(h:qb6 τ t W bt nodes last vw va ws as_)(T':Tree ar)(cH:∀n∈ar,qan W' n)
  (jx:∀n∈ar,τ' n.blk=.node t n.blk/\∀g,n.sl.ownBlock=some g -> τ' g=.row t n.blk) (rn:∀a∈ar,∀b∈ar,a.blk=b.blk->a=b) (hr:nodes[0]?=some r) (wR:ar[0]?=some r') (JI:r'.blk=r.blk)
  (k:Keep T W W') (hT:∀b,b<W.heap.size->T b->(τ b).k=1\/(τ b).k=2) (hτ : ∀b,b<W.heap.size -> τ' b = τ b) {f:Pw->Pw} (hf:∀y∈ws++as_,qzq y (f y)) (fu:∀y∈ws++as_,∃n∈ar,n.blk=y.q/\n.key=(f y).x.key) :
  qb6 τ' t W' bt ar last vw va (ws.map f) (as_.map f):=by
 obtain⟨l1,l2,l3⟩:=h.lts;obtain⟨r0,dN,hb⟩:=h.bk;rw[hr]at dN
 cases dN
 have a7:∀b tg,b<W.heap.size -> τ b=tg->tg.k≠1->tg.k≠2->¬T b:=fun b tg aZ e h1 h2 ht=>by
  rcases hT b aZ ht with e2|e2
  ·rw[e]at e2;exact h1 e2
  ·rw[e]at e2;exact h2 e2
 have dx:Blk W' bt 102 #[nptr r'.blk,vI last,vw,va]:=by
  rw[JI]
  exact hb.bk.at_.keep k (a7 _ _ l1 h.pr.ttag (by simp) (by simp))
 have hB:=hb.bk;have ew:(ws.map f)++(as_.map f)=(ws++as_).map f:=by rw[List.map_append]
 have wI:∀y∈(ws.map f)++(as_.map f),∃z∈ws++as_,y=f z:=fun y hy=>by
  rw[ew]at hy;obtain⟨z,hz,rfl⟩:=xrq.1 hy
  exact⟨z,hz,rfl⟩
 have A_:∀y∈ws,qzq y (f y):=fun y hy=>hf y (xr9 _ hy)
 have ee:∀y∈as_,qzq y (f y):=fun y hy=>hf y (xra _ hy)
 refine⟨⟨T',cH,fun i n hi=>jx n (xr2 hi),⟨r',wR,dx⟩,by rw[hτ _ l1];exact h.pr.ttag,rn⟩,⟨r',wR,cH,?_,fun p hp=>?_,fun p hp=>?_⟩,fun b e=>by rw[hτ b (l2 b e)];exact h.wtag b e,fun p hq=>?_⟩
 ·refine⟨dx,?_,?_,fun p hp=>?_,hB.sep,?_,fun a ha b aZ e=>?_,by simpa using hB.len⟩
  ·rw[qzk A_,List.length_map]
   exact qab hB.wrow k (fun g hg=>a7 _ _ (l2 g (.inl hg)) (h.wtag g (.inl hg)) (by simp) (by simp))
  ·rw[qzk ee,List.length_map]
   exact qab hB.arow k (fun g hg=>a7 _ _ (l2 g (.inr hg)) (h.wtag g (.inr hg)) (by simp) (by simp))
  ·obtain⟨z,hz,rfl⟩:=wI p hp;rw[(hf z hz).cells,(hf z hz).blk]
   exact(hB.works z hz).keep k (a7 _ _ (l3 z hz) (h.ptag z hz) (by simp) (by simp))
  ·rw[ew];have df:=hB.nd;unfold List.Nodup at df ⊢;rw[List.pairwise_map]
   refine List.Pairwise.imp_of_mem (fun {a b} ha aZ aW e=>aW ?_) df
   have:=congrArg Pw.blk e
   rw[(hf a ha).blk,(hf b aZ).blk]at this
   exact hB.inj a ha b aZ this
  ·obtain⟨z,hz,rfl⟩:=wI a ha;obtain⟨y,hy,rfl⟩:=wI b aZ;rw[(hf z hz).blk,(hf y hy).blk]at e;rw[hB.inj z hz y hy e]
 ·obtain⟨z,hz,rfl⟩:=wI p hp;rw[(hf z hz).q];exact fu z hz
 ·obtain⟨z,hz,rfl⟩:=wI p hp;rw[(hf z hz).d0,(hf z hz).d1];exact hb.nm z hz
 ·obtain⟨z,hz,rfl⟩:=wI p hq;rw[(hf z hz).blk,hτ _ (l3 z hz)];exact h.ptag z hz
theorem qb6.apart{last:Int}(h:qb6 τ t W bt nodes last vw va ws as_){a b:Node}(ha:a∈nodes)(hb:b∈nodes):
  a.sl.ownBlock≠some b.blk/\(a≠b->a.blk≠b.blk)/\(a≠b->∀g,a.sl.ownBlock=some g->b.sl.ownBlock≠some g):=by
 obtain⟨i,hi⟩:=xre ha;obtain⟨j,hj⟩:=xre hb;obtain⟨t1,t2⟩:=h.pr.tags i a hi;obtain⟨u1,u2⟩:=h.pr.tags j b hj
 refine⟨fun e=>?_,fun aW e=>aW (h.pr.binj a ha b hb e),fun aW g e1 e2=>aW (h.pr.binj a ha b hb ?_)⟩
 ·have:=t2 _ e;rw[u1]at this;cases this
 ·have x1:=t2 g e1;rw[u2 g e2]at x1;injection x1 with _ _ x1
  exact x1.symm
end
section
open Go.RowKit Go.Shelf
variable {W w:World}{nodes:List Node}{bt:Nat}{r:Node}{va vw:Value}{as_ ws:List Pw}
attribute [local go_sem] Oper.semAt_some
def okQ (nodes:List Node)(l:List Pw)(m:Node):Bool:=(abv (ws0 (pun l m.key)) (pn0 nodes m.key+m.b0) == 0)&&(abv (ws1 (pun l m.key)) (pn1 nodes m.key+m.b1) == 0)
def qxl (nodes:List Node)(l:List Pw):Int:=if nodes.all (okQ nodes l) then 0 else 11
theorem qz1{α : Type}{l l':List α}(h:l.Perm l')(f : α -> Bool):l.all f=l'.all f:=by
 rw[Bool.eq_iff_iff,List.all_eq_true,List.all_eq_true]
 exact⟨fun k x hx=>k x (h.mem_iff.2 hx),fun k x hx=>k x (h.mem_iff.1 hx)⟩
theorem TwAt.q24{lst:Value}(h:TwAt W nodes bt r lst vw va ws as_)(k:List Bs):(0<=ws0 (pun as_ k)/\ws0 (pun as_ k)<=24000)/\(0<=ws1 (pun as_ k)/\ws1 (pun as_ k)<=24000):=by
 have hl:as_.length<=24:=by have:=h.bk.len;omega
 have fl:=fun p hp=>h.nm p (xra _ hp)
 exact quu fl hl k
theorem qxq(T:Tree nodes)(hB:qa7 nodes){lst:Value}(h:TwAt w nodes bt r lst vw va ws as_)(hr:r∈nodes)(bK:r.key=[]):
  Cl 141 #[vP bt] w fun e w'=>e=.returned (vI (qxl nodes as_))/\Bw w w':=by
 obtain⟨ch,K⟩:=T.ch;have b_:∀k:Nat,Fence.wide.depth.isSome=true->1<=k:=fun k h=>by simp[Fence.wide]at h
 have a8:∀W,(∀n∈nodes,qan W n)->_:=fun W hW=>qm5 T K hr W hW
 have ai:=qq2 K 4 r hr;have bj:(dfs ch 4 r).Perm nodes:=by
  have:=qgl T K T.nd hr
  have e:(nodes.filter fun m=>r.key.isPrefixOf m.key)=nodes:=List.filter_eq_self.2 (fun _ _=>by rw[bK];rfl);rw[e]at this
  exact this
 have ft:qxl nodes as_=if (dfs ch 4 r).all (okQ nodes as_) then 0 else 11:=by unfold qxl;rw[qz1 bj]
 have kd:=fun W (hW:Bw w W) m (hm:m∈nodes)=>qjo T hB W (h.below hW).ins bt (va:=va) (l:=as_) (by have:=(h.below hW).bk.at_.cell 3;simpa using this) (h.below hW).pws hm
 have pJ:=fun W (hW:Bw w W) m (hm:m∈nodes)=>qpd T hm W (h.below hW).ins
 have kD:=fun W m (hm:m∈nodes)=>by
  have u:=h.q24 m.key;have q:=qna T m.key;have b:=T.num m hm
  exact qhu (ws0 (pun as_ m.key)) (ws1 (pun as_ m.key)) (pn0 nodes m.key+m.b0) (pn1 nodes m.key+m.b1) W (by omega) (by omega) (by omega) (by omega) (by omega) (by omega) (by omega) (by omega)
 have dx:w.cell? (vA bt 0)=some (vP r.blk):=by have:=h.bk.at_.cell 0;simpa [nptr] using this
 have dw:=h.bk.at_.lt;have hN:=h.ins;generalize dfs ch 4 r=X at a8 ai ft bj;generalize qxl nodes as_=eo at ft ⊢;have HE:Hid ((X.all (okQ nodes as_)=true->eo=0)/\(X.all (okQ nodes as_)=false->eo=11)):=⟨fun h=>by rw[ft,h];rfl,fun h=>by rw[ft,h];rfl⟩;clear ft bj
 refine(xrv (n:=3)).1 ?_
 refine callsIn_of_wp_marks func141 rfl trivial ?_ rfl
 unfold nptr at a8 kd pJ;have e1:¬(bt=w.heap.size):=by omega
 have e3:¬(bt=w.heap.size+1):=by omega
 simp only[ntmps141,List.size_toArray,List.length_cons,List.length_nil,Nat.reduceAdd,Nat.reduceSub,Array.replicate_succ,Array.replicate_zero,List.push_toArray,List.append_toArray,List.nil_append,List.cons_append]
 gi_wp2_with ((first|refine⟨trivial,b_ _,?_⟩|refine⟨trivial,?_⟩);gi_at_call 101;refine(xrv.2 (a8 _ (fun n hn=>(hN n hn).below (by exact bel1)))).mono ?_;rintro e W ⟨rfl,rfl,aI⟩)
 obtain⟨W,hW⟩:∃W,W=((w.alloc (.cells #[vP bt] 45)).alloc (.cells #[vI 0] 53)).alloc (.cells #[vP r.blk] 97):=⟨_,rfl⟩;have dk:W.heap.size=w.heap.size+3:=by rw[hW];simp
 have e2:((w.alloc (.cells #[vP bt] 45)).alloc (.cells #[vI 0] 53)).heap.size=w.heap.size+1+1:=by simp
 have af:Box W w.heap.size 45 (vP bt):=by rw[hW];exact((Box.new w 45 _).alloc _).alloc _
 have ax:Box W (w.heap.size+1) 53 (vI 0):=by
  rw[hW];have:=Box.new (w.alloc (.cells #[vP bt] 45)) 53 (vI 0);rw[xrt]at this;exact this.alloc _
 have cn:Bw w W:=by rw[hW];exact bel1
 rw[e2]at aI;simp only[<-hW]at aI ⊢;have hq:=aI (fun b=>b=w.heap.size+1\/W.heap.size<=b) (fun k hk=>⟨fun h=>by have:=(hN k hk).lt;omega,fun g hg h=>by have:=((hN k hk).row.lt g hg).2;omega⟩);clear aI a8 e2 hW;have a7:∀b,b<W.heap.size->¬(False\/W.heap.size<=b):=fun b hb e=>by rcases e with e|e;exact e;omega
 refine qgy (T:=fun b=>b=w.heap.size+1) (S:=fun _=>False) rfl (enters_of func149 (by kernel_rfl) rfl) hq (Below.refl _ _) rfl (fun b h=>h.elim) (fun b h=>by omega)
  (fun pre A=>pre.all (okQ nodes as_)=true/\Box A w.heap.size 45 (vP bt)/\Box A (w.heap.size+1) 53 (vI 0)/\Bw w A)
  (fun c pre A=>c=.ret/\pre.all (okQ nodes as_)=false/\Box A (w.heap.size+1) 53 (vI 11)/\Bw w A)
  (fun pre A B hs hk=>⟨hs.1,hs.2.1.keep hk (a7 _ (by omega)),hs.2.2.1.keep hk (a7 _ (by omega)),hs.2.2.2.trans (hk.toBelow hs.2.2.2.size (fun b aZ=>a7 b (by omega)))⟩)
  (fun c pre A B hs hk=>⟨hs.1,hs.2.1,hs.2.2.1.keep hk (a7 _ (by omega)),hs.2.2.2.trans (hk.toBelow hs.2.2.2.size (fun b aZ=>a7 b (by omega)))⟩)
  ⟨rfl,af,ax,cn⟩
  (fun x=>{tmps:=#[vP bt,vP w.heap.size,vP (w.heap.size+1),vP x.blk,vP bt,vP bt,vP bt,vP r.blk,
   .func (.func 149) #[] #[vP (w.heap.size+1+1)],vP x.blk,undef,undef,undef,undef,undef,undef,undef,undef,undef,undef],defers:=[]}) ?assign ?body ?done ?stop
 case assign =>
  intro l x W K hK
  gi_wp2
  exact hK
 case body =>
  rintro l2 pre x W2 ⟨ee,fY,dn,ae⟩ gP aC
  have cg:x∈nodes:=ai x (aC.subset (by simp));have c2:=fY.cell;have c3:=dn.cell;have f3:=dn.frozen;have hu:=fun W hW=>kd W hW x cg
  have hl:=fun W hW=>pJ W hW x cg
  have hv:=fun W=>kD W x cg
  have ia:=fun W=>qwk (abv (ws0 (pun as_ x.key)) (pn0 nodes x.key+x.b0)) (abv (ws1 (pun as_ x.key)) (pn1 nodes x.key+x.b1)) 0 0 W
  have xa:Hid (pre.all (okQ nodes as_)=true):=ee;have oC:Hid (okQ nodes as_ x=((abv (ws0 (pun as_ x.key)) (pn0 nodes x.key+x.b0) == 0)&&(abv (ws1 (pun as_ x.key)) (pn1 nodes x.key+x.b1) == 0))):=rfl;clear ee kd pJ kD hq;generalize abv (ws0 (pun as_ x.key)) (pn0 nodes x.key+x.b0)=s0 at *;generalize abv (ws1 (pun as_ x.key)) (pn1 nodes x.key+x.b1)=s1 at *;generalize ws0 (pun as_ x.key)=u0 at *;generalize ws1 (pun as_ x.key)=u1 at *;generalize pn0 nodes x.key+x.b0=m0 at *;generalize pn1 nodes x.key+x.b1=m1 at *;generalize kT:(s0 == 0&&s1 == 0)=bv at oC ia;clear kT
  cases bv
  ·gi_wp2_with ((first|refine⟨trivial,b_ _,?_⟩|refine⟨trivial,?_⟩);first
    |(gi_at_call 106;refine(CallsIn.inRound l2 (xrv.2 (hu _ (by exact bel2)))).mono ?_;rintro e w3 ⟨rfl,fh⟩;have aK:Bw w w3:=qac ae fh)
    |(gi_at_call 190;refine(CallsIn.inRound l2 (xrv.2 (hl _ aK))).mono ?_;rintro e w4 ⟨rfl,rk⟩;have dU:Bw w w4:=qac aK rk)
    |(gi_at_call 189;refine(CallsIn.inRound l2 (xrv.2 (hv _))).mono ?_;rintro e w5 ⟨rfl,ye⟩;have eM:Bw w w5:=qac dU ye;have fS:Bw W2 w5:=qac (qac fh rk) ye;have k3:=dn.below fS dn.lt;have q3:=k3.cell;have g3:=k3.frozen))
   refine⟨(Keep.new (T:=fun b=>b=w.heap.size+1) fS).setCell (p:=vA (w.heap.size+1) 0) rfl _,rfl,?_,k3.set _,eM.setCell (by simp) _⟩
   rw[List.all_append,xa.out]
   simp[oC.out]
  ·gi_wp2_with ((first|refine⟨trivial,b_ _,?_⟩|refine⟨trivial,?_⟩);first
    |(gi_at_call 106;refine(CallsIn.inRound l2 (xrv.2 (hu _ (by exact bel2)))).mono ?_;rintro e w3 ⟨rfl,fh⟩;have aK:Bw w w3:=qac ae fh)
    |(gi_at_call 190;refine(CallsIn.inRound l2 (xrv.2 (hl _ aK))).mono ?_;rintro e w4 ⟨rfl,rk⟩;have dU:Bw w w4:=qac aK rk)
    |(gi_at_call 189;refine(CallsIn.inRound l2 (xrv.2 (hv _))).mono ?_;rintro e w5 ⟨rfl,ye⟩;have eM:Bw w w5:=qac dU ye;have fS:Bw W2 w5:=qac (qac fh rk) ye;have k3:=dn.below fS dn.lt;have k2:=fY.below fS fY.lt))
   refine⟨Keep.new fS,?_,k2,k3,eM⟩
   rw[List.all_append,xa.out]
   simp[oC.out]
 case done =>
  rintro A ⟨ee,fY,dn,ae⟩ hD
  have hc:=dn.cell;have hf:=dn.frozen
  gi_wp2
  have jl:(A.setCell (vA (w.heap.size+1) 0) (vI 0)).heap[W.heap.size]?=some (.deferred (some [])):=(Below.heap_setCell _ _ _ _ (by simp;omega)).trans hD;have af:=((dn.set (vI 0)).put W.heap.size (.deferred none) (by omega)).cell
  refine⟨by simp,.inl ⟨_,_,rfl,run_takeDeferred jl,?_⟩⟩
  exact⟨vI 0,by simp[results,results141,go_sem,af],by rw[HE.out.1 ee],qa8 (ae.setCell (by simp) _) _ _ (by omega)⟩
 case stop =>
  rintro c pre A aC ⟨rfl,hv,dn,ae⟩ hD
  gi_wp2
  have af:=(dn.put W.heap.size (.deferred none) (by omega)).cell
  refine⟨by simp,.inl ⟨_,_,rfl,run_takeDeferred hD,?_⟩⟩
  have hX:X.all (okQ nodes as_)=false:=by
   rw[List.all_eq_false]at hv ⊢;obtain⟨y,hy,od⟩:=hv
   exact⟨y,aC.subset hy,od⟩
  exact⟨vI 11,by simp[results,results141,go_sem,af],by rw[HE.out.2 hX],qa8 ae _ _ (by omega)⟩
end
section
open Go.RowKit
variable {W' w:World}{b i:Nat}{sl x1 x2 x3 y1 y2 y3:Value}{a d er:Int}{n q r:Node}{ks:List Node}{τ':Nat->Tag}{T:Nat->Prop}{k:List Bs}
theorem q1u{a:Nat}(h:w.cell? (vA a 0)=some (vI 0)):
  CallsD prog 140 #[vP a,vP b] .returning w fun e u' w'=>u'=.returning/\(e=.returned (.tuple #[])/\w'=w):=by
 go_enter_d func140,ntmps140
 go_wp2
 go_end0
 exact⟨rfl,rfl⟩
theorem q0r{a:Nat}(he:(er != 0)=true)(h:w.cell? (vA a 0)=some (vI er))(hb:w.cell? (vA b 0)=some (.func (.func 98) #[] #[y1,y2,y3])){M:World->Prop}
  (hU:Cl 98 #[y1,y2,y3] w fun e w'=>e=.returned (.tuple #[])/\M w') :
  CallsD prog 140 #[vP a,vP b] .returning w fun e u' w'=>u'=.returning/\(e=.returned (.tuple #[])/\M w'):=by
 go_enter_d func140,ntmps140
 go_wp2_with (go_at_call 98;refine hU.mono ?_;rintro e w1 ⟨rfl,hM⟩)
 go_end0
 exact⟨rfl,hM⟩
theorem q0w{bt:Nat}{M1 M2 M3:World->Prop}(dx:bt<w.heap.size)
  (hC:∀W1,Bw w W1->Cl 97 #[x1] W1 fun e w'=>e=.returned (.tuple #[])/\Keep (fun b=>b<w.heap.size) W1 w'/\M1 w')
  (hO:∀W1,M1 W1->Cl 141 #[vP bt] W1 fun e w'=>e=.returned (vI er)/\Bw W1 w')
  (h2:er=0->∀W1 W2,M1 W1->w.heap.size<=W1.heap.size->Keep (fun b=>w.heap.size<=b) W1 W2->M2 W2)
  (hU:er≠0->∀W1 W2,M1 W1->w.heap.size<=W1.heap.size->Keep (fun b=>w.heap.size<=b) W1 W2->Cl 98 #[y1,y2,y3] W2 fun e w'=>e=.returned (.tuple #[])/\Keep (fun b=>b<w.heap.size) W2 w'/\M3 w') :
  Cl 87 #[vP bt,.func (.func 97) #[x1] #[],.func (.func 98) #[] #[y1,y2,y3]] w fun e w'=>e=.returned (vI er)/\(er=0->M2 w')/\(er≠0->M3 w'):=by
 have nT:∀(fn:Fn) (first cap:Array Value) (w:World),(Instr.makeFunc fn first cap).run prog w=.ok (.func fn first cap) w:=fun _ _ _ _=>rfl
 obtain⟨W0,bJ⟩:∃W0,W0=(w.alloc (.cells #[.func (.func 98) #[] #[y1,y2,y3]] 1)).alloc (.cells #[vI 0] 53):=⟨_,rfl⟩;have b1:Box W0 w.heap.size 1 (.func (.func 98) #[] #[y1,y2,y3]):=by rw[bJ];exact(Box.new w 1 _).alloc _
 have b2:Box W0 (w.heap.size+1) 53 (vI 0):=by
  rw[bJ];have:=Box.new (w.alloc (.cells #[.func (.func 98) #[] #[y1,y2,y3]] 1)) 53 (vI 0)
  rwa[xrt]at this
 have aO:Bw w W0:=by rw[bJ];exact bel2
 have fE:w.heap.size+2<=W0.heap.size:=by rw[bJ];simp
 go_enter_defers func87,ntmps87
 go_upto_region 1 with fail
 rw[<-bJ];clear bJ
 go_wp2_with (first
  |(go_at_call 97;refine(hC _ (by exact bel2)).mono ?_;rintro e w1 ⟨rfl,c_,kR⟩;have d1:=b1.keep c_ (by omega);have d2:=b2.keep c_ (by omega);have cJ:=c_.size)
  |(go_at_call 141;refine(hO _ kR).mono ?_;rintro e w2 ⟨rfl,af⟩;have f1:=d1.below af d1.lt;have f2:=d2.below af d2.lt;have q2:=f2.cell;have p2:=f2.frozen))
 have bM:Keep (fun b=>w.heap.size<=b) w1 (w2.setCell (vA (w.heap.size+1) 0) (vI er)):=(Keep.new (T:=fun b=>w.heap.size<=b) af).setCell (p:=vA (w.heap.size+1) 0) (by simp) _;have g1:=(f1.other (vA (w.heap.size+1) 0) (vI er) (by simp)).cell;have g2:=(f2.set (vI er)).cell
 by_cases he:er=0
 ·subst he
  refine leaves_cons (f:=140) (args:=#[vP (w.heap.size+1),vP w.heap.size]) (by simp) (by simp[go_sem]) ?_
  refine(q1u (b:=w.heap.size) g2).mono ?_
  rintro e u' ko ⟨rfl,rfl,rfl⟩
  simp[Leaves,settle,results,results87,go_sem,g2]
  exact h2 rfl _ _ kR (by omega) bM
 ·refine leaves_cons (f:=140) (args:=#[vP (w.heap.size+1),vP w.heap.size]) (by simp) (by simp[go_sem]) ?_
  refine(q0r (by simpa using he) g2 g1 (hU he _ _ kR (by omega) bM)).mono ?_
  rintro e u' ko ⟨rfl,rfl,dZ,rf⟩
  have g3:=((f2.set (vI er)).keep dZ (by omega)).cell
  simp[Leaves,settle,results,results87,go_sem,g3]
  exact⟨fun e=>absurd e he,fun _=>rf⟩
structure q2x (n n':Node):Prop where
 blk:n'.blk=n.blk
 key:n'.key=n.key
 leaf:n'.leaf=n.leaf
 up:n'.up=n.up
 kids:n'.kids=n.kids
theorem Tree.mapS{nodes:List Node}(T:Tree nodes){f:Node->Node}(hf:∀n∈nodes,q2x n (f n))
  (fL:∀n∈nodes,(0<=(f n).n0/\(f n).n0<=1000)/\(0<=(f n).n1/\(f n).n1<=1000)/\(0<=(f n).b0/\(f n).b0<=1000)/\(0<=(f n).b1/\(f n).b1<=1000)/\((f n).leaf=false->(f n).n0=0/\(f n).n1=0))
  (lF:∀n∈nodes,n.key=[]->(f n).b0=0/\(f n).b1=0):Tree (nodes.map f):=by
 have ai:∀x,x∈nodes.map f↔∃n∈nodes,x=f n:=fun x=>by simp only[xrq];exact⟨fun ⟨n,h,e⟩=>⟨n,h,e.symm⟩,fun ⟨n,h,e⟩=>⟨n,h,e.symm⟩⟩
 refine⟨?_,?_,?_,?_,?_,?_,?_,?_,by simpa using T.len⟩
 ·obtain⟨r,h0,h1,h2,h3,h4⟩:=T.root;have hr:=xr2 h0;have k:=hf r hr
  exact⟨f r,by simp[h0],k.key.trans h1,k.leaf.trans h2,(lF r hr h1).1,(lF r hr h1).2⟩
 ·intro n hn m hm e;obtain⟨x,hx,rfl⟩:=(ai n).1 hn;obtain⟨y,hy,rfl⟩:=(ai m).1 hm;rw[(hf x hx).key,(hf y hy).key]at e;rw[T.inj x hx y hy e]
 ·rw[List.map_map]
  have:nodes.map ((fun n=>n.key) ∘ f)=nodes.map (·.key):=List.map_congr_left (fun n hn=>(hf n hn).key)
  rw[this];exact T.nodup
 ·intro n hn;obtain⟨x,hx,rfl⟩:=(ai n).1 hn;rw[(hf x hx).key];exact T.ok x hx
 ·intro n hn;obtain⟨x,hx,rfl⟩:=(ai n).1 hn
  exact fL x hx
 ·intro n hn hk;obtain⟨x,hx,rfl⟩:=(ai n).1 hn;rw[(hf x hx).key]at hk;rw[(hf x hx).up];exact T.top x hx hk
 ·intro n hn k z hk;obtain⟨x,hx,rfl⟩:=(ai n).1 hn;rw[(hf x hx).key]at hk;obtain⟨p,h1,h2,h3,h4⟩:=T.par x hx k z hk
  exact⟨f p,(ai _).2 ⟨p,h1,rfl⟩,(hf p h1).key.trans h2,(hf p h1).leaf.trans h3,by rw[(hf x hx).up,(hf p h1).blk];exact h4⟩
 ·intro p hp;obtain⟨x,hx,rfl⟩:=(ai p).1 hp;obtain⟨ks,k1,k2,k3⟩:=T.kids x hx
  refine⟨ks.map f,?_,fun k=>?_,?_⟩
  ·rw[(hf x hx).kids,k1,List.map_map]
   exact List.map_congr_left (fun n hn=>((hf n ((k2 n).1 hn).1).blk).symm)
  ·rw[(hf x hx).key]
   constructor
   ·intro h;obtain⟨z,hz,rfl⟩:=xrq.1 h;obtain⟨g1,y,g2⟩:=(k2 z).1 hz
    exact⟨(ai _).2 ⟨z,g1,rfl⟩,y,by rw[(hf z g1).key];exact g2⟩
   ·rintro⟨h,y,hy⟩
    obtain⟨z,hz,rfl⟩:=(ai k).1 h;rw[(hf z hz).key]at hy
    exact xrq.2 ⟨z,(k2 z).2 ⟨hz,y,hy⟩,rfl⟩
  ·have:(ks.map f).map (fun k=>qbv k.key)=ks.map fun k=>qbv k.key:=by
    rw[List.map_map];exact List.map_congr_left (fun n hn=>by simp only[Function.comp];rw[(hf n ((k2 n).1 hn).1).key])
   rw[this];exact k3
def reSl (nodes:List Node)(p:Node)(sl:Value):List Node:=nodes.map fun n=>if n.key=p.key then {n with sl:=sl} else n
theorem qyp(p:Node)(sl:Value)(n:Node):q2x n (if n.key=p.key then {n with sl:=sl} else n):=by
 by_cases h:n.key=p.key
 ·rw[if_pos h];exact⟨rfl,rfl,rfl,rfl,rfl⟩
 ·rw[if_neg h];exact⟨rfl,rfl,rfl,rfl,rfl⟩
theorem q2f(nodes:List Node)(p:Node)(sl:Value):(reSl nodes p sl).map Node.ent=nodes.map Node.ent:=by
 unfold reSl;rw[List.map_map]
 exact List.map_congr_left fun n _=>by simp only[Function.comp];split<;>rfl
theorem Tree.reSl{nodes:List Node}(T:Tree nodes)(p:Node)(sl:Value):Tree (reSl nodes p sl):=by
 refine T.mapS (fun n _=>qyp p sl n) (fun n hn=>?_) (fun n hn eE=>?_)
 ·have:=T.num n hn
  by_cases h:n.key=p.key
  ·rw[if_pos h];exact this
  ·rw[if_neg h];exact this
 ·obtain⟨r,g0,g1,g2,g3,g4⟩:=T.root
  have:n=r:=T.inj n hn r (xr2 g0) (eE.trans g1.symm)
  subst this
  by_cases h:n.key=p.key
  ·rw[if_pos h];exact⟨g3,g4⟩
  ·rw[if_neg h];exact⟨g3,g4⟩
def TchQ (p q:Node)(x:Nat):Prop:=x=p.blk\/x=q.blk\/p.sl.ownBlock=some x
structure LvM (W:World) (p q:Node) (i:Nat) (sl:Value) (w':World):Prop where
 own:sl.ownBlock=p.sl.ownBlock
 par:qan w' (p.qxi i sl)
 kid:qan w' q.loose
 keep:Keep (TchQ p q) W w'
structure BkM (W:World) (p q:Node) (sl:Value) (w':World):Prop where
 par:qan w' {p with sl:=sl}
 kid:qan w' q
 keep:Keep (TchQ p q) W w'
 own:sl.ownBlock=p.sl.ownBlock\/∃g,sl.ownBlock=some g/\W.heap.size<=g
section
variable {τ : Nat->Tag}{t:Nat}{W w':World}{bt:Nat}{nodes:List Node}{last:Int}{vw va:Value}{ws as_:List Pw}
theorem qb6.tch(h:qb6 τ t W bt nodes last vw va ws as_){p:Node}(hq:q∈nodes)(hp:p∈nodes):∀b,TchQ p q b->((τ b).k=1\/(τ b).k=2)/\(τ b).prog t:=fun b hb=>by
 obtain⟨i,hi⟩:=xre hp;obtain⟨j,hj⟩:=xre hq;obtain⟨t1,t2⟩:=h.pr.tags i p hi;obtain⟨u1,u2⟩:=h.pr.tags j q hj
 rcases hb with rfl|rfl|e
 ·rw[t1];exact⟨.inl rfl,rfl⟩
 ·rw[u1];exact⟨.inl rfl,rfl⟩
 ·rw[t2 b e];exact⟨.inr rfl,rfl⟩
theorem qb6.other(h:qb6 τ t W bt nodes last vw va ws as_){p z:Node}(hq:q∈nodes)(hp:p∈nodes)(hz:z∈nodes)(h1:z≠p)(h2:z≠q)(k:Keep (TchQ p q) W w'):qan w' z:=by
 refine(h.pr.ins z hz).keep k (fun e=>?_) (fun g hg e=>?_)
 ·rcases e with e|e|e
  ·exact(h.apart hz hp).2.1 h1 e
  ·exact(h.apart hz hq).2.1 h2 e
  ·exact(h.apart hp hz).1 e
 ·rcases e with e|e|e
  ·exact(h.apart hz hp).1 (by rw[hg,e])
  ·exact(h.apart hz hq).1 (by rw[hg,e])
  ·exact(h.apart hz hp).2.2 h1 g hg e
theorem qb6.left(h:qb6 τ t W bt nodes last vw va ws as_){p:Node}(hq:q∈nodes)(hp:p∈nodes){x:Bs}(fe:q.key=p.key++[x])(pV:q.kids=[])
  (hk:p.kids=ks.map (·.blk)) (hm:∀k,k∈ks↔(k∈nodes/\∃x,k.key=p.key++[x])) (hs:(ks.map fun k=>qbv k.key).Pairwise fun a b=>cmpB a b<0) (hi:ks[i]?=some q) (a7:∀y∈ws++as_,y.q≠q.blk) (M:LvM W p q i sl w') :
  qb6 (qde τ W.heap.size) t w' bt (remN nodes q p i sl) last vw va ws as_:=by
 have T:=h.pr.tree;have T':=T.remN hq hp fe pV hk hm hs hi sl;have ai:=qy7 nodes q p i sl;have fc:q.key≠[]:=by rw[fe];simp
 obtain⟨r,hr,hb⟩:=h.bk;obtain⟨gd,bK⟩:=qeh T hr;have jU:∀z∈nodes,(if z.key=p.key then p.qxi i sl else z).blk=z.blk/\(if z.key=p.key then p.qxi i sl else z).key=z.key:=fun z hz=>by
  by_cases e:z.key=p.key
  ·obtain rfl:=T.inj z hz p hp e;rw[if_pos rfl];exact⟨rfl,rfl⟩
  ·rw[if_neg e];exact⟨rfl,rfl⟩
 have:=h.new (τ':=qde τ W.heap.size) (f:=id) T' (fun n hn=>?_) (fun n hn=>?_) (fun a ha b aZ e=>?_) hr (r':=if r.key=p.key then p.qxi i sl else r) ?_ (jU r gd).1 M.keep (fun b _ e=>(h.tch hq hp b e).1) (fun b aZ=>qbx aZ) (fun y _=>⟨rfl,rfl,rfl,rfl,rfl⟩) (fun y hy=>?_)
 ·simpa using this
 ·obtain⟨z,hz,vR,rfl⟩:=(ai n).1 hn
  by_cases e:z.key=p.key
  ·rw[if_pos e];exact M.par
  ·rw[if_neg e];exact h.other hq hp hz (fun e2=>e (by rw[e2])) (fun e2=>vR (by rw[e2])) M.keep
 ·obtain⟨z,hz,vR,rfl⟩:=(ai n).1 hn;obtain⟨j,hj⟩:=xre hz;obtain⟨t1,t2⟩:=h.pr.tags j z hj;rw[(jU z hz).1]
  refine⟨by rw[qbx (h.pr.ins z hz).lt];exact t1,fun g hg=>?_⟩
  by_cases e:z.key=p.key
  ·obtain rfl:=T.inj z hz p hp e;rw[if_pos rfl]at hg;have hg:sl.ownBlock=some g:=hg;rw[M.own]at hg;rw[qbx ((h.pr.ins z hz).row.lt g hg).2];exact t2 g hg
  ·rw[if_neg e]at hg;rw[qbx ((h.pr.ins z hz).row.lt g hg).2];exact t2 g hg
 ·obtain⟨z,hz,_,rfl⟩:=(ai a).1 ha;obtain⟨y,hy,_,rfl⟩:=(ai b).1 aZ;rw[(jU z hz).1,(jU y hy).1]at e;rw[h.pr.binj z hz y hy e]
 ·cases df:nodes with
  |nil=>rw[df]at hr;simp at hr
  |cons a l =>
   rw[df]at hr
   simp at hr
   subst hr
   have:a.key≠q.key:=by rw[bK];exact fun e=>fc e.symm
   simp[remN,this]
 ·obtain⟨n,hn,e1,e2⟩:=hb.lf y hy;have gz:n.key≠q.key:=fun e=>a7 y hy (by rw[<-e1,T.inj n hn q hq e])
  exact⟨_,(ai _).2 ⟨n,hn,gz,rfl⟩,(jU n hn).1.trans e1,(jU n hn).2.trans e2⟩
theorem qb6.back(h:qb6 τ t W bt nodes last vw va ws as_){p:Node}(hq:q∈nodes)(hp:p∈nodes)(aW:q≠p)(M:BkM W p q sl w'):
  ∃τ',(∀b,b<W.heap.size -> τ' b = τ b)/\(∀b,W.heap.size<=b -> τ' b=.free\/(τ' b).prog t)/\qb6 τ' t w' bt (reSl nodes p sl) last vw va ws as_:=by
 have T:=h.pr.tree;obtain⟨r,hr,hb⟩:=h.bk;obtain⟨gd,bK⟩:=qeh T hr;obtain⟨τ',fV⟩:∃τ':Nat->Tag,τ'=fun x=>if x<W.heap.size then τ x else if sl.ownBlock=some x then .row t p.blk else .free:=⟨_,rfl⟩
 have iu:∀x,x<W.heap.size -> τ' x = τ x:=fun x hx=>by rw[fV];simp[hx]
 have hS:=fun z=>qyp p sl z
 have ai:∀n,n∈reSl nodes p sl↔∃z∈nodes,n=if z.key=p.key then {z with sl:=sl} else z:=fun n=>by
  unfold reSl;simp only[xrq];exact⟨fun ⟨z,h1,h2⟩=>⟨z,h1,h2.symm⟩,fun ⟨z,h1,h2⟩=>⟨z,h1,h2.symm⟩⟩
 refine⟨τ',iu,fun x hx=>?_,?_⟩
 ·rw[fV];simp only[Nat.not_lt.2 hx,if_false]
  split
  ·exact .inr rfl
  ·exact .inl rfl
 have:=h.new (τ' := τ') (f:=id) (T.reSl p sl) (fun n hn=>?_) (fun n hn=>?_) (fun a ha b aZ e=>?_) hr (r':=if r.key=p.key then {r with sl:=sl} else r) ?_ (hS r).blk M.keep (fun b _ e=>(h.tch hq hp b e).1) iu (fun y _=>⟨rfl,rfl,rfl,rfl,rfl⟩) (fun y hy=>?_)
 ·simpa using this
 ·obtain⟨z,hz,rfl⟩:=(ai n).1 hn
  by_cases e:z.key=p.key
  ·obtain rfl:=T.inj z hz p hp e;rw[if_pos rfl];exact M.par
  ·rw[if_neg e]
   by_cases e2:z=q
   ·rw[e2];exact M.kid
   ·exact h.other hq hp hz (fun e3=>e (by rw[e3])) e2 M.keep
 ·obtain⟨z,hz,rfl⟩:=(ai n).1 hn;obtain⟨j,hj⟩:=xre hz;obtain⟨t1,t2⟩:=h.pr.tags j z hj;rw[(hS z).blk]
  refine⟨by rw[iu _ (h.pr.ins z hz).lt];exact t1,fun g hg=>?_⟩
  by_cases e:z.key=p.key
  ·obtain rfl:=T.inj z hz p hp e;rw[if_pos rfl]at hg;have hg:sl.ownBlock=some g:=hg
   rcases M.own with e2|⟨g',e2,fB⟩
   ·rw[e2]at hg;rw[iu _ ((h.pr.ins z hz).row.lt g hg).2];exact t2 g hg
   ·rw[hg]at e2;cases e2;rw[fV]
    simp[Nat.not_lt.2 fB,hg]
  ·rw[if_neg e]at hg;rw[iu _ ((h.pr.ins z hz).row.lt g hg).2];exact t2 g hg
 ·obtain⟨z,hz,rfl⟩:=(ai a).1 ha;obtain⟨y,hy,rfl⟩:=(ai b).1 aZ;rw[(hS z).blk,(hS y).blk]at e;rw[h.pr.binj z hz y hy e]
 ·unfold reSl;rw[xrs,hr];rfl
 ·obtain⟨n,hn,e1,e2⟩:=hb.lf y hy
  exact⟨_,(ai _).2 ⟨n,hn,rfl⟩,(hS n).blk.trans e1,(hS n).key.trans e2⟩
end
def Node.qxh(n:Node)(a b c d:Int):Node:={n with n0:=if n.leaf then a else n.n0,n1:=if n.leaf then b else n.n1,b0:=c,b1:=d}
theorem qx8(hn:qan w n)(eK:n.sl.ownBlock≠some n.blk)(a b c d:Int):
  Cl 89 #[vP n.blk,.agg #[vI a,vI b],.agg #[vI c,vI d]] w fun e w'=>e=.returned (.tuple #[])/\qan w' (n.qxh a b c d)/\Keep (fun x=>x=n.blk) w w':=by
 have ak:=hn.lt;have hB:Blk w n.blk 136 n.cells:=hn.at_;obtain⟨W0,bJ⟩:∃W0,W0=(w.alloc (.cells #[vI a,vI b] 35)).alloc (.cells #[vI c,vI d] 35):=⟨_,rfl⟩;have bn:Blk W0 n.blk 136 n.cells:=by rw[bJ];exact(hB.alloc _).alloc _
 have b1:Blk W0 w.heap.size 35 #[vI a,vI b]:=by rw[bJ];exact(Blk.new w 35 _).alloc _
 have b2:Blk W0 (w.heap.size+1) 35 #[vI c,vI d]:=by rw[bJ];exact Blk.new' (by simp)
 have eE:Keep (fun x=>x=n.blk) w W0:=by rw[bJ];exact((Keep.refl _ _).alloc _).alloc _
 have n1:¬(n.blk=w.heap.size):=by omega
 have n2:¬(n.blk=w.heap.size+1):=by omega
 have n3:¬(w.heap.size=n.blk):=by omega
 have n4:¬(w.heap.size+1=n.blk):=by omega
 have c1:=bn.cell 1;have c2:=bn.cell 2;have c3:=bn.cell 3;have c4:=bn.cell 4;have c5:=bn.cell 5;have f2:=bn.frozen 2;have f3:=bn.frozen 3;have f4:=bn.frozen 4;have f5:=bn.frozen 5;have d0:=b1.cell 0;have d1:=b1.cell 1;have e0:=b2.cell 0;have e1:=b2.cell 1;simp only[Node.cells,xq0,xq1,xq2]at c1 c2 c3 c4 c5 d0 d1 e0 e1;have au:=hn.row
 cases hl:n.leaf with
 |true =>
  rw[hl]at c1
  go_enter func89,ntmps89
  go_upto_region 1 with fail
  rw[<-bJ];clear bJ
  go_wp2
  go_end0
  have hk:=((((eE.setCell (p:=vA n.blk 2) rfl (vI a)).setCell (p:=vA n.blk 3) rfl (vI b)).setCell (p:=vA n.blk 4) rfl (vI c)).setCell (p:=vA n.blk 5) rfl (vI d))
  refine⟨rfl,⟨?_,qab au hk (fun g hg e=>eK (by rw[<-e];exact hg))⟩,hk⟩
  refine((((bn.set 2 (vI a)).set 3 (vI b)).set 4 (vI c)).set 5 (vI d)).trans ?_
  simp[Node.cells,Node.qxh,hl]
 |false =>
  rw[hl]at c1
  go_enter func89,ntmps89
  go_upto_region 1 with fail
  rw[<-bJ];clear bJ
  go_wp2
  go_end0
  have hk:=(eE.setCell (p:=vA n.blk 4) rfl (vI c)).setCell (p:=vA n.blk 5) rfl (vI d)
  refine⟨rfl,⟨?_,qab au hk (fun g hg e=>eK (by rw[<-e];exact hg))⟩,hk⟩
  refine((bn.set 4 (vI c)).set 5 (vI d)).trans ?_
  simp[Node.cells,Node.qxh,hl]
structure q0s (n n':Node):Prop where
 blk:n'.blk=n.blk
 key:n'.key=n.key
 leaf:n'.leaf=n.leaf
 up:n'.up=n.up
 sl:n'.sl=n.sl
 kids:n'.kids=n.kids
theorem Tree.mapN{nodes:List Node}(T:Tree nodes){f:Node->Node}(hf:∀n∈nodes,q0s n (f n))
  (fL:∀n∈nodes,(0<=(f n).n0/\(f n).n0<=1000)/\(0<=(f n).n1/\(f n).n1<=1000)/\(0<=(f n).b0/\(f n).b0<=1000)/\(0<=(f n).b1/\(f n).b1<=1000)/\((f n).leaf=false->(f n).n0=0/\(f n).n1=0))
  (lF:∀n∈nodes,n.key=[]->(f n).b0=0/\(f n).b1=0):Tree (nodes.map f):=by
 have ai:∀x,x∈nodes.map f↔∃n∈nodes,x=f n:=fun x=>by simp only[xrq];exact⟨fun ⟨n,h,e⟩=>⟨n,h,e.symm⟩,fun ⟨n,h,e⟩=>⟨n,h,e.symm⟩⟩
 refine⟨?_,?_,?_,?_,?_,?_,?_,?_,by simpa using T.len⟩
 ·obtain⟨r,h0,h1,h2,h3,h4⟩:=T.root;have hr:=xr2 h0;have k:=hf r hr
  exact⟨f r,by simp[h0],k.key.trans h1,k.leaf.trans h2,(lF r hr h1).1,(lF r hr h1).2⟩
 ·intro n hn m hm e;obtain⟨x,hx,rfl⟩:=(ai n).1 hn;obtain⟨y,hy,rfl⟩:=(ai m).1 hm;rw[(hf x hx).key,(hf y hy).key]at e;rw[T.inj x hx y hy e]
 ·rw[List.map_map]
  have:nodes.map ((fun n=>n.key) ∘ f)=nodes.map (·.key):=List.map_congr_left (fun n hn=>(hf n hn).key)
  rw[this];exact T.nodup
 ·intro n hn;obtain⟨x,hx,rfl⟩:=(ai n).1 hn;rw[(hf x hx).key];exact T.ok x hx
 ·intro n hn;obtain⟨x,hx,rfl⟩:=(ai n).1 hn
  exact fL x hx
 ·intro n hn hk;obtain⟨x,hx,rfl⟩:=(ai n).1 hn;rw[(hf x hx).key]at hk;rw[(hf x hx).up];exact T.top x hx hk
 ·intro n hn k z hk;obtain⟨x,hx,rfl⟩:=(ai n).1 hn;rw[(hf x hx).key]at hk;obtain⟨p,h1,h2,h3,h4⟩:=T.par x hx k z hk
  exact⟨f p,(ai _).2 ⟨p,h1,rfl⟩,(hf p h1).key.trans h2,(hf p h1).leaf.trans h3,by rw[(hf x hx).up,(hf p h1).blk];exact h4⟩
 ·intro p hp;obtain⟨x,hx,rfl⟩:=(ai p).1 hp;obtain⟨ks,k1,k2,k3⟩:=T.kids x hx
  refine⟨ks.map f,?_,fun k=>?_,?_⟩
  ·rw[(hf x hx).kids,k1,List.map_map]
   exact List.map_congr_left (fun n hn=>((hf n ((k2 n).1 hn).1).blk).symm)
  ·rw[(hf x hx).key]
   constructor
   ·intro h;obtain⟨z,hz,rfl⟩:=xrq.1 h;obtain⟨g1,y,g2⟩:=(k2 z).1 hz
    exact⟨(ai _).2 ⟨z,g1,rfl⟩,y,by rw[(hf z g1).key];exact g2⟩
   ·rintro⟨h,y,hy⟩
    obtain⟨z,hz,rfl⟩:=(ai k).1 h;rw[(hf z hz).key]at hy
    exact xrq.2 ⟨z,(k2 z).2 ⟨hz,y,hy⟩,rfl⟩
  ·have:(ks.map f).map (fun k=>qbv k.key)=ks.map fun k=>qbv k.key:=by
    rw[List.map_map];exact List.map_congr_left (fun n hn=>by simp only[Function.comp];rw[(hf n ((k2 n).1 hn).1).key])
   rw[this];exact k3
theorem qb6.mapN{τ : Nat->Tag}{t:Nat}{W:World}{bt:Nat}{nodes:List Node}{last:Int}{vw va:Value}{ws as_:List Pw}(h:qb6 τ t W bt nodes last vw va ws as_){f:Node->Node}(hf:∀n∈nodes,q0s n (f n))(T':Tree (nodes.map f))
  (k:Keep T W W') (hT:∀b,b<W.heap.size->T b->∃n∈nodes,n.blk=b) (cH:∀n∈nodes,qan W' (f n)) (hτ : ∀b,b<W.heap.size -> τ' b = τ b):qb6 τ' t W' bt (nodes.map f) last vw va ws as_:=by
 obtain⟨l1,l2,l3⟩:=h.lts;obtain⟨r,hr,hb⟩:=h.bk;have gd:=xr2 hr;have jx:∀b,b<W.heap.size->T b->(τ b).k=1:=fun b aZ e=>by
  obtain⟨n,hn,rfl⟩:=hT b aZ e;obtain⟨i,hi⟩:=xre hn;rw[(h.pr.tags i n hi).1]
 have yK:∀n∈nodes.map f,qan W' n:=fun n hn=>by obtain⟨x,hx,rfl⟩:=xrq.1 hn;exact cH x hx
 have dx:Blk W' bt 102 #[nptr (f r).blk,vI last,vw,va]:=by
  rw[(hf r gd).blk]
  exact hb.bk.at_.keep k (fun e=>by have:=jx _ l1 e;rw[h.pr.ttag]at this;simp at this)
 refine⟨⟨T',yK,fun i n hi=>?_,⟨f r,by simp[hr],dx⟩,by rw[hτ _ l1];exact h.pr.ttag,fun a ha b hb e=>by
  obtain⟨x,hx,rfl⟩:=xrq.1 ha;obtain⟨y,hy,rfl⟩:=xrq.1 hb;rw[(hf x hx).blk,(hf y hy).blk]at e;rw[h.pr.binj x hx y hy e]⟩,⟨f r,by simp[hr],yK,?_,fun p hp=>?_,hb.nm⟩,fun b e=>by rw[hτ b (l2 b e)];exact h.wtag b e,fun p hq=>by rw[hτ _ (l3 p hq)];exact h.ptag p hq⟩
 ·simp only[xrs,Option.map_eq_some_iff]at hi;obtain⟨x,hx,rfl⟩:=hi;have cg:=xr2 hx;obtain⟨t1,t2⟩:=h.pr.tags i x hx;have hn:=h.pr.ins x cg
  exact⟨by rw[(hf x cg).blk,hτ _ hn.lt];exact t1,fun g hg=>by rw[(hf x cg).sl]at hg;rw[(hf x cg).blk,hτ _ (hn.row.lt g hg).2];exact t2 g hg⟩
 ·have hB:=hb.bk
  refine⟨dx,qab hB.wrow k (fun g hg e=>by have:=jx _ (l2 g (.inl hg)) e;rw[h.wtag g (.inl hg)]at this;simp at this),qab hB.arow k (fun g hg e=>by have:=jx _ (l2 g (.inr hg)) e;rw[h.wtag g (.inr hg)]at this;simp at this),fun p hp=>(hB.works p hp).keep k (fun e=>by have:=jx _ (l3 p hp) e;rw[h.ptag p hp]at this;simp at this),hB.sep,hB.nd,hB.inj,hB.len⟩
 ·obtain⟨n,hn,e1,e2⟩:=hb.lf p hp
  exact⟨f n,xrj hn,(hf n hn).blk.trans e1,(hf n hn).key.trans e2⟩
def setQ (nodes:List Node)(k:List Bs)(a b c d:Int):List Node:=nodes.map fun n=>if n.key=k then n.qxh a b c d else n
theorem qxk(k:List Bs)(a b c d:Int)(n:Node):q0s n (if n.key=k then n.qxh a b c d else n):=by
 by_cases h:n.key=k
 ·rw[if_pos h];exact⟨rfl,rfl,rfl,rfl,rfl,rfl⟩
 ·rw[if_neg h];exact⟨rfl,rfl,rfl,rfl,rfl,rfl⟩
theorem Tree.setQ{nodes:List Node}(T:Tree nodes)(hk:k≠[]){b c:Int}(h1:qao a b=true)(h2:qao c d=true):Tree (setQ nodes k a b c d):=by
 simp[qao]at h1 h2
 refine T.mapN (fun n _=>qxk k a b c d n) (fun n hn=>?_) (fun n hn eE=>?_)
 ·have:=T.num n hn
  by_cases h:n.key=k
  ·rw[if_pos h]
   cases hl:n.leaf
   ·have h3:=this.2.2.2.2 hl;simp only[Node.qxh,hl,Bool.false_eq_true,if_false]
    exact⟨this.1,this.2.1,by omega,by omega,fun _=>h3⟩
   ·simp only[Node.qxh,hl,if_true]
    exact⟨by omega,by omega,by omega,by omega,fun e=>by cases e⟩
  ·rw[if_neg h];exact this
 ·rw[if_neg (fun e=>hk (by rw[<-e,eE]))];obtain⟨r,g0,g1,g2,g3,g4⟩:=T.root;rw[T.inj n hn r (xr2 g0) (eE.trans g1.symm)]
  exact⟨g3,g4⟩
def errQuo(nodes:List Node)(s:Bs)(ok:Bool)(a b:Int):Int :=
 if qar s=false then 1 else if s=[] then 2 else match findKey nodes (qaa s) with
 |none=>3
 |some n=>if ok=false then 6 else if (!n.leaf&&!(a == 0&&b == 0))=true then 6 else 0
theorem qxt{nodes:List Node}(T0:Tree nodes){bt:Nat}{lst vw va:Value}{ws as_:List Pw}(h:TwAt w nodes bt r lst vw va ws as_)(hr:r∈nodes)(bK:r.key=[])(s:ByteArray)(hs:s.size<=2000000)(a b c d:Int):
  Cl 84 #[vP bt,.string s,.agg #[vI a,vI b],.agg #[vI c,vI d]] w fun e w'=>e=.returned (vI (errQuo nodes (bl s) (qb3 [(a,b),(c,d)]) a b))/\Bw w w':=by
 have aJ:=fun W=>qhr s hs W
 rw[qs3]at aJ;have dx:=h.bk.at_.lt;have cI:∀W,Bw w W->W.cell? (vA bt 0)=some (nptr r.blk):=fun W (hW:Bw w W)=>(h.below hW).bk.at_.cell 0
 have ag:=fun W (hW:Bw w W) v hv=>qfh T0 hr bK s hs W (h.below hW).ins v hv
 have bD:=fun n (hn:n∈nodes) W (hW:Bw w W)=>qko n.blk n.leaf W (((h.below hW).ins n hn).cell rfl)
 have ee:∀W vb,Blk W vb 35 #[vI a,vI b,vI c,vI d]->Cl 133 #[vS vb 2 2] W fun e w'=>e=.returned (.bool (qb3 [(a,b),(c,d)]))/\Bw W w':=fun W vb hb=>by
  refine qi1 vb 2 [(a,b),(c,d)] (by simp) W hb.lt (fun j x hx=>?_)
  cases j with
  |zero=>simp at hx;subst hx;have c0:=hb.cell 0;have c1:=hb.cell 1;simp at c0 c1;exact⟨c0,c1⟩
  |succ j =>
   cases j with
   |zero=>simp at hx;subst hx;have c0:=hb.cell 2;have c1:=hb.cell 3;simp at c0 c1;exact⟨c0,c1⟩
   |succ j=>simp at hx
 have b0:Blk ((w.alloc (.cells #[vI a,vI b] 35)).alloc (.cells #[vI c,vI d] 35)) w.heap.size 35 #[vI a,vI b]:=(Blk.new w 35 _).alloc _;have b1:Blk ((w.alloc (.cells #[vI a,vI b] 35)).alloc (.cells #[vI c,vI d] 35)) (w.heap.size+1) 35 #[vI c,vI d]:=Blk.new' (by simp);have ia:=fun W=>qwk a b 0 0 W
 unfold nptr at cI;unfold errQuo
 cases hv:qar (bl s)
 ·rw[hv]at aJ;simp only[if_true]at aJ ⊢;clear ag cI bD ee
  go_enter func84,ntmps84
  go_wp2_with (go_at_call 132;refine(aJ _).mono ?_;rintro e w1 ⟨rfl,aa⟩)
  refine xrn (v:=vI 1) (by simp[results,results84,go_sem]) rfl ⟨rfl,?_⟩
  exact qac (by exact bel2) aa
 rw[hv]at aJ;simp only[Bool.true_eq_false,if_false]at aJ ⊢
 by_cases h0:bl s=[]
 ·have hz:s=⟨#[]⟩:=qer (h0.trans qh4.symm);simp only[h0,if_true]at aJ ⊢;clear ag cI bD ee;subst hz
  go_enter func84,ntmps84
  go_wp2_with (go_at_call 132;refine(aJ _).mono ?_;rintro e w1 ⟨rfl,aa⟩)
  refine xrn (v:=vI 2) (by simp[results,results84,go_sem]) rfl ⟨rfl,?_⟩
  exact qac (by exact bel2) aa
 simp only[h0,if_false]at aJ ⊢
 cases hf:findKey nodes (qaa (bl s)) with
 |none =>
  rw[hf]at ag;clear hf bD ee;unfold nptr at ag
  go_enter func84,ntmps84
  go_wp2_with (first
   |(go_at_call 132;refine(aJ _).mono ?_;rintro e w1 ⟨rfl,aa⟩;have aj:Bw w w1:=qac (by exact bel2) aa;have j_:=cI w1 aj)
   |(go_at_call 63;refine(ag _ aj (.pointer none) rfl).mono ?_;rintro e w2 ⟨rfl,af⟩;have aw:Bw w w2:=qac aj af))
  refine xrn (v:=vI 3) (by simp[results,results84,go_sem]) rfl ⟨rfl,?_⟩
  exact aw
 |some n =>
  obtain⟨hn,dh⟩:=qbw hf;rw[hf]at ag
  replace bD:=bD n hn
  clear hf;simp only[nptr]at ag
  dsimp only
  have rO:∀w1:World,Below (w.heap.size+2) ((w.alloc (.cells #[vI a,vI b] 35)).alloc (.cells #[vI c,vI d] 35)) w1->True:=fun _ _=>trivial
  cases p6:qb3 [(a,b),(c,d)]
  ·rw[p6]at ee;simp only[if_true];clear bD
   go_enter func84,ntmps84
   go_wp2_with (first
    |(go_at_call 132;refine(aJ _).mono ?_;rintro e w1 ⟨rfl,aa⟩;have aj:Bw w w1:=qac (by exact bel2) aa;have j_:=cI w1 aj;have c0:=b0.below aa (by simp<;>omega);have c1:=b1.below aa (by simp<;>omega))
    |(go_at_call 63;refine(ag _ aj (vP n.blk) rfl).mono ?_;rintro e w2 ⟨rfl,af⟩;have aw:Bw w w2:=qac aj af;have d0:=c0.below af c0.lt;have d1:=c1.below af c1.lt;have x0:=d0.cell 0;have x1:=d0.cell 1;have y0:=d1.cell 0;have y1:=d1.cell 1;have l0:=d0.lt;have l1:=d1.lt;simp only[xq0,xq1,xq2]at x0 x1 y0 y1)
    |(go_at_call 133;refine(ee _ _ (by exact blk2)).mono ?_;rintro e w3 ⟨rfl,ax⟩;have aK:Bw w w3:=qac (by exact bel2) ax))
   refine xrn (v:=vI 6) (by simp[results,results84,go_sem]) rfl ⟨rfl,?_⟩
   exact aK
  ·rw[p6]at ee;simp only[Bool.true_eq_false,if_false]
   cases hl:n.leaf
   ·rw[hl]at bD;simp only[Bool.not_false,Bool.true_and];generalize kD:(a == 0&&b == 0)=ab at ia ⊢;clear kD
    cases ab
    ·simp only[Bool.not_false,if_true]
     go_enter func84,ntmps84
     go_wp2_with (first
      |(go_at_call 132;refine(aJ _).mono ?_;rintro e w1 ⟨rfl,aa⟩;have aj:Bw w w1:=qac (by exact bel2) aa;have j_:=cI w1 aj;have c0:=b0.below aa (by simp<;>omega);have c1:=b1.below aa (by simp<;>omega))
      |(go_at_call 63;refine(ag _ aj (vP n.blk) rfl).mono ?_;rintro e w2 ⟨rfl,af⟩;have aw:Bw w w2:=qac aj af;have d0:=c0.below af c0.lt;have d1:=c1.below af c1.lt;have x0:=d0.cell 0;have x1:=d0.cell 1;have y0:=d1.cell 0;have y1:=d1.cell 1;have l0:=d0.lt;have l1:=d1.lt;simp only[xq0,xq1,xq2]at x0 x1 y0 y1)
      |(go_at_call 133;refine(ee _ _ (by exact blk2)).mono ?_;rintro e w3 ⟨rfl,ax⟩;have aK:Bw w w3:=qac (by exact bel2) ax;have f0:=(d0.alloc (.cells #[vI a,vI b,vI c,vI d] 35)).below ax (by simp;omega);have u0:=f0.cell 0;have u1:=f0.cell 1;simp only[xq0,xq1,xq2]at u0 u1)
      |(go_at_call 105;refine(bD _ aK).mono ?_;rintro e w4 ⟨rfl,fQ⟩;subst fQ))
     refine xrn (v:=vI 6) (by simp[results,results84,go_sem]) rfl ⟨rfl,?_⟩
     exact aK
    ·simp only[Bool.not_true,Bool.false_eq_true,if_false]
     go_enter func84,ntmps84
     go_wp2_with (first
      |(go_at_call 132;refine(aJ _).mono ?_;rintro e w1 ⟨rfl,aa⟩;have aj:Bw w w1:=qac (by exact bel2) aa;have j_:=cI w1 aj;have c0:=b0.below aa (by simp<;>omega);have c1:=b1.below aa (by simp<;>omega))
      |(go_at_call 63;refine(ag _ aj (vP n.blk) rfl).mono ?_;rintro e w2 ⟨rfl,af⟩;have aw:Bw w w2:=qac aj af;have d0:=c0.below af c0.lt;have d1:=c1.below af c1.lt;have x0:=d0.cell 0;have x1:=d0.cell 1;have y0:=d1.cell 0;have y1:=d1.cell 1;have l0:=d0.lt;have l1:=d1.lt;simp only[xq0,xq1,xq2]at x0 x1 y0 y1)
      |(go_at_call 133;refine(ee _ _ (by exact blk2)).mono ?_;rintro e w3 ⟨rfl,ax⟩;have aK:Bw w w3:=qac (by exact bel2) ax;have f0:=(d0.alloc (.cells #[vI a,vI b,vI c,vI d] 35)).below ax (by simp;omega);have u0:=f0.cell 0;have u1:=f0.cell 1;simp only[xq0,xq1,xq2]at u0 u1)
      |(go_at_call 105;refine(bD _ aK).mono ?_;rintro e w4 ⟨rfl,fQ⟩;subst fQ))
     refine xrn (v:=vI 0) (by simp[results,results84,go_sem]) rfl ⟨rfl,?_⟩
     exact aK
   ·rw[hl]at bD;simp only[Bool.not_true,Bool.false_and,Bool.false_eq_true,if_false];clear ia
    go_enter func84,ntmps84
    go_wp2_with (first
     |(go_at_call 132;refine(aJ _).mono ?_;rintro e w1 ⟨rfl,aa⟩;have aj:Bw w w1:=qac (by exact bel2) aa;have j_:=cI w1 aj;have c0:=b0.below aa (by simp<;>omega);have c1:=b1.below aa (by simp<;>omega))
     |(go_at_call 63;refine(ag _ aj (vP n.blk) rfl).mono ?_;rintro e w2 ⟨rfl,af⟩;have aw:Bw w w2:=qac aj af;have d0:=c0.below af c0.lt;have d1:=c1.below af c1.lt;have x0:=d0.cell 0;have x1:=d0.cell 1;have y0:=d1.cell 0;have y1:=d1.cell 1;have l0:=d0.lt;have l1:=d1.lt;simp only[xq0,xq1,xq2]at x0 x1 y0 y1)
     |(go_at_call 133;refine(ee _ _ (by exact blk2)).mono ?_;rintro e w3 ⟨rfl,ax⟩;have aK:Bw w w3:=qac (by exact bel2) ax)
     |(go_at_call 105;refine(bD _ aK).mono ?_;rintro e w4 ⟨rfl,fQ⟩;subst fQ))
    refine xrn (v:=vI 0) (by simp[results,results84,go_sem]) rfl ⟨rfl,?_⟩
    exact aK
theorem q1t{a:Nat}(h:w.cell? (vA a 0)=some (vI 0)):
  CallsD prog 140 #[vP a,vP b] .returning w fun e u' w'=>u'=.returning/\(e=.returned (.tuple #[])/\w'=w):=by
 go_enter_d func140,ntmps140
 go_wp2
 go_end0
 exact⟨rfl,rfl⟩
theorem q0q{a:Nat}(he:(er != 0)=true)(h:w.cell? (vA a 0)=some (vI er))(hb:w.cell? (vA b 0)=some (.func (.func 90) #[] #[x1,y2,y3])){M:World->Prop}
  (hU:Cl 90 #[x1,y2,y3] w fun e w'=>e=.returned (.tuple #[])/\M w') :
  CallsD prog 140 #[vP a,vP b] .returning w fun e u' w'=>u'=.returning/\(e=.returned (.tuple #[])/\M w'):=by
 go_enter_d func140,ntmps140
 go_wp2_with (go_at_call 90;refine hU.mono ?_;rintro e w1 ⟨rfl,hM⟩)
 go_end0
 exact⟨rfl,hM⟩
theorem q0v{bt:Nat}{M1 M2 M3:World->Prop}(dx:bt<w.heap.size)
  (hC:∀W1,Bw w W1->Cl 88 #[x1,x2,x3] W1 fun e w'=>e=.returned (.tuple #[])/\Keep (fun b=>b<w.heap.size) W1 w'/\M1 w')
  (hO:∀W1,M1 W1->Cl 141 #[vP bt] W1 fun e w'=>e=.returned (vI er)/\Bw W1 w')
  (h2:er=0->∀W1 W2,M1 W1->w.heap.size<=W1.heap.size->Keep (fun b=>w.heap.size<=b) W1 W2->M2 W2)
  (hU:er≠0->∀W1 W2,M1 W1->w.heap.size<=W1.heap.size->Keep (fun b=>w.heap.size<=b) W1 W2->Cl 90 #[x1,y2,y3] W2 fun e w'=>e=.returned (.tuple #[])/\Keep (fun b=>b<w.heap.size) W2 w'/\M3 w') :
  Cl 87 #[vP bt,.func (.func 88) #[] #[x1,x2,x3],.func (.func 90) #[] #[x1,y2,y3]] w fun e w'=>e=.returned (vI er)/\(er=0->M2 w')/\(er≠0->M3 w'):=by
 have nT:∀(fn:Fn) (first cap:Array Value) (w:World),(Instr.makeFunc fn first cap).run prog w=.ok (.func fn first cap) w:=fun _ _ _ _=>rfl
 obtain⟨W0,bJ⟩:∃W0,W0=(w.alloc (.cells #[.func (.func 90) #[] #[x1,y2,y3]] 1)).alloc (.cells #[vI 0] 53):=⟨_,rfl⟩;have b1:Box W0 w.heap.size 1 (.func (.func 90) #[] #[x1,y2,y3]):=by rw[bJ];exact(Box.new w 1 _).alloc _
 have b2:Box W0 (w.heap.size+1) 53 (vI 0):=by
  rw[bJ];have:=Box.new (w.alloc (.cells #[.func (.func 90) #[] #[x1,y2,y3]] 1)) 53 (vI 0)
  rwa[xrt]at this
 have aO:Bw w W0:=by rw[bJ];exact bel2
 have fE:w.heap.size+2<=W0.heap.size:=by rw[bJ];simp
 go_enter_defers func87,ntmps87
 go_upto_region 1 with fail
 rw[<-bJ];clear bJ
 go_wp2_with (first
  |(go_at_call 88;refine(hC _ (by exact bel2)).mono ?_;rintro e w1 ⟨rfl,c_,kR⟩;have d1:=b1.keep c_ (by omega);have d2:=b2.keep c_ (by omega);have cJ:=c_.size)
  |(go_at_call 141;refine(hO _ kR).mono ?_;rintro e w2 ⟨rfl,af⟩;have f1:=d1.below af d1.lt;have f2:=d2.below af d2.lt;have q2:=f2.cell;have p2:=f2.frozen))
 have bM:Keep (fun b=>w.heap.size<=b) w1 (w2.setCell (vA (w.heap.size+1) 0) (vI er)):=(Keep.new (T:=fun b=>w.heap.size<=b) af).setCell (p:=vA (w.heap.size+1) 0) (by simp) _;have g1:=(f1.other (vA (w.heap.size+1) 0) (vI er) (by simp)).cell;have g2:=(f2.set (vI er)).cell
 by_cases he:er=0
 ·subst he
  refine leaves_cons (f:=140) (args:=#[vP (w.heap.size+1),vP w.heap.size]) (by simp) (by simp[go_sem]) ?_
  refine(q1t (b:=w.heap.size) g2).mono ?_
  rintro e u' ko ⟨rfl,rfl,rfl⟩
  simp[Leaves,settle,results,results87,go_sem,g2]
  exact h2 rfl _ _ kR (by omega) bM
 ·refine leaves_cons (f:=140) (args:=#[vP (w.heap.size+1),vP w.heap.size]) (by simp) (by simp[go_sem]) ?_
  refine(q0q (by simpa using he) g2 g1 (hU he _ _ kR (by omega) bM)).mono ?_
  rintro e u' ko ⟨rfl,rfl,dZ,rf⟩
  have g3:=((f2.set (vI er)).keep dZ (by omega)).cell
  simp[Leaves,settle,results,results87,go_sem,g3]
  exact⟨fun e=>absurd e he,fun _=>rf⟩
end
end Go.Proofs.YtphclnolomgjoaaGreatDoor
