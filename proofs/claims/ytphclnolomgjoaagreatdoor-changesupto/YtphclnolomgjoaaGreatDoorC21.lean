import Derived.Test.YtphclnolomgjoaaGreatDoorC20
set_option linter.unusedVariables false
set_option linter.unusedSimpArgs false
set_option maxRecDepth 100000
set_option maxHeartbeats 4000000
namespace Go.Proofs.YtphclnolomgjoaaGreatDoor
open Tryz
section
open Go.RowKit Go.Shelf
variable {P:Program}{s0:SS}
attribute [local go_sem] Oper.semAt_some
section
variable {w:World}{nodes:List Node}{rr bt:Nat}{r:Node}{lst vw va ev:Value}{ws as_:List Pw}{evs:List (Int×Int)}
theorem qfl{F:Fence}{n:Nat}{c:Code}{Q:Exit->Act->World->Prop}{a:Act}{w:World}(h:c.wpIn F n P (Exit.then (fun a w=>Q .normal a w) (fun _ _ _=>False)) a w):c.wpIn F n P Q a w :=
 wpIn_mono h (fun e a w hq=>by cases e with|normal=>exact hq|_=>exact hq.elim)
theorem quh(f:Value)(hf:∃a b c,f=.func a b c)(w:World):Cl 175 #[f] w fun e w'=>e=.returned (vP w.heap.size)/\w'=w.alloc (.cells #[f,v0_] 254):=by
 obtain⟨a,b,c,rfl⟩:=hf
 go_enter func175,ntmps175
 go_wp2_with fail
 go_ret
 exact⟨rfl,rfl⟩
theorem qkt(T0:Tree nodes)(hB:qa7 nodes){ch:Node->List Node}(K0:Kids nodes ch)(h:LdAt w nodes rr bt r lst vw va ev ws as_ evs)(hr:r∈nodes)(bK:r.key=[])(R:Rel nodes s0.Ws ws as_)(I:SInv s0)(mw:s0.evs=evs)(an:evs.length<=1000)(k0:Nat)(eE:qcm s0.Ws<=k0)(c_:k0<=100):
  Cl 131 #[vP rr] w fun e w'=>e=.returned (.tuple #[])/\∃aQ aX ck bg aR,LdAt w' nodes rr bt r lst aQ aX ck bg aR (iterS (qas (nodes.map Node.ent)) k0 s0).evs/\Rel nodes (iterS (qas (nodes.map Node.ent)) k0 s0).Ws bg aR/\qbu rr bt w w' vw va ev aQ aX ck/\(∀p∈bg++aR,p∈ws++as_):=by
 generalize aM:iterS (qas (nodes.map Node.ent)) k0 s0=fin;have bU:Hid (iterS (qas (nodes.map Node.ent)) k0 s0=fin):=aM;clear aM;have b_:∀k:Nat,Fence.wide.depth.isSome=true->1<=k:=fun k h=>by simp[Fence.wide]at h
 have zc:=quh (.func (.func 176) #[] #[]) ⟨_,_,_,rfl⟩
 refine(xrv (n:=3)).1 ?_
 refine callsIn_of_wp_marks func131 rfl trivial ?_ rfl
 simp only[ntmps131,List.size_toArray,List.length_cons,List.length_nil,Nat.reduceAdd,Nat.reduceSub,Array.replicate_succ,Array.replicate_zero,List.push_toArray,List.append_toArray,List.nil_append,List.cons_append];have mA:=fun W (hW:Bw w W)=>qlb T0 K0 (h.below hW).rw_ hr
 unfold nptr at mA;obtain⟨W0,bJ⟩:∃W0,W0=((w.alloc (.cells #[vP rr] 186)).alloc (.cells #[.func (.func 176) #[] #[],v0_] 254)).alloc (.cells #[vP (w.heap.size+1)] 223):=⟨_,rfl⟩;have aO:Bw w W0:=by rw[bJ];exact bel2
 have cZ:W0.heap.size=w.heap.size+3:=by rw[bJ];simp
 have x1:Box W0 w.heap.size 186 (vP rr):=by rw[bJ];exact((Box.new w 186 _).alloc _).alloc _
 have qY:HqAt W0 (w.heap.size+1) (.func (.func 176) #[] #[]) v0_ []:=by
  refine⟨?_,⟨rfl,.inl ⟨rfl,rfl⟩⟩,by simp[Value.ownBlock]⟩
  have:=(Blk.new (w.alloc (.cells #[vP rr] 186)) 254 #[.func (.func 176) #[] #[],v0_]).alloc (.cells #[vP (w.heap.size+1)] 223)
  rw[xrt]at this;rw[bJ];exact this
 have x3:Box W0 (w.heap.size+1+1) 223 (vP (w.heap.size+1)):=by
  have:=Box.new ((w.alloc (.cells #[vP rr] 186)).alloc (.cells #[.func (.func 176) #[] #[],v0_] 254)) 223 (vP (w.heap.size+1))
  rw[xrt,xrt]at this;rw[bJ];exact this
 have c1:=x1.cell;rw[bJ]at c1
 gi_wp2_with (first
  |((first|refine⟨trivial,b_ _,?_⟩|refine⟨trivial,?_⟩);gi_at_call 175;refine(xrv.2 (zc _)).mono ?_;rintro e W3 ⟨rfl,rfl⟩)
  |((first|refine⟨trivial,b_ _,?_⟩|refine⟨trivial,?_⟩);gi_at_call 169;refine(xrv.2 (mA _ (by exact bel1))).mono ?_;rintro e W3 ⟨rfl,rfl,aI⟩))
 obtain⟨W,hW⟩:∃W,W=W0.alloc (.cells #[vP rr] 186):=⟨_,rfl⟩;have dk:W.heap.size=w.heap.size+4:=by rw[hW];simp[cZ]
 have aj:Bw W0 W:=by rw[hW];exact bel2
 have cn:Bw w W:=qac aO aj;have z1:=x1.below aj x1.lt;have z3:=x3.below aj x3.lt;have qZ:=qY.below aj;simp only[xrt]at aI;simp only[<-bJ,<- hW]at aI ⊢;have hq:=aI (fun b=>b=w.heap.size+1) (fun b e=>by omega) (h.lt (fun b e=>by omega)).rw_;have jD:(qap ws (dfs ch 4 r)).length<=20:=Nat.le_trans (qjf ws (dfs ch 4 r)) (qoe T0 K0 hr);have cg:∀p∈qap ws (dfs ch 4 r),p∈ws++as_:=fun p hp=>xr9 _ (qjl hp)
 have pU:=qgc T0 K0 hr bK;generalize dfs ch 4 r=DX at hq jD cg pU;have av:∀ys:List Ak,ys.Perm ((qap ws DX).map fun p=>⟨p,qc0 nodes as_ p.x⟩)->qbt (nodes.map Node.ent) s0.Ws (ys.map akx):=fun ys jE=>R.qwf T0 hB I.wks pU jE
 generalize qap ws DX=X at hq jD cg av;clear aI mA hW bJ c1 x1 x3 qY zc;have a7:∀b,b<W.heap.size->¬(False\/(W.heap.size<=b/\b<W.heap.size+2+4)):=fun b hb e=>by rcases e with e|e;exact e;omega
 refine qgs (T:=fun b=>b=w.heap.size+1) (S:=fun _=>False) rfl (enters_of func206 (by kernel_rfl) rfl) hq (Below.refl _ _) (fun _=>rfl) (fun b e=>e.elim) (fun b e=>by omega)
  (fun (pre:List Pw) A=>(∃v ys,HqAt A (w.heap.size+1) (.func (.func 176) #[] #[]) v ys/\qbp ltA ys/\ys.Perm (pre.map fun p=>⟨p,qc0 nodes as_ p.x⟩)/\(∀b,v.ownBlock=some b->W.heap.size+2+4<=b))/\Box A w.heap.size 186 (vP rr)/\Box A (w.heap.size+1+1) 223 (vP (w.heap.size+1))/\Bw w A)
  (fun c (pre:List Pw) A=>False)
  (fun pre A B hs hk=>by
   obtain⟨⟨v,ys,g1,g2,g3,g4⟩,g5,g6,g7⟩:=hs
   exact⟨⟨v,ys,g1.keep hk (a7 _ (by omega)) (fun b hb e=>by have:=g4 b hb;rcases e with e|e;exact e;omega),g2,g3,g4⟩,g5.keep hk (a7 _ (by omega)),g6.keep hk (a7 _ (by omega)),g7.trans (hk.toBelow g7.size (fun b aZ=>a7 b (by omega)))⟩)
  (fun c pre A B hs hk=>hs)
  ⟨⟨_,[],qZ,fun j a b hj ha=>by simp at ha,by simp,by simp[Value.ownBlock]⟩,z1,z3,cn⟩
  (fun x=>{tmps:=#[vP rr,vP w.heap.size,vP (w.heap.size+1+1),vP x.blk,undef,undef,undef,vP (w.heap.size+1),vP rr,.func (.func 206) #[] #[vP (w.heap.size+1+1+1)],vP x.blk,undef,undef,undef,undef,undef,undef,undef,undef,undef,undef,undef,undef,undef,undef,undef,undef,undef,undef,undef,undef,undef,undef,undef,undef,undef,undef,undef,undef,undef,undef,undef,undef,undef,undef,undef,undef,undef,undef,undef,undef,undef,undef,undef],defers:=[]}) ?assign ?body ?done ?stop
 case assign =>
  intro l x W K hK
  gi_wp2
  exact hK
 case stop =>
  rintro c pre A aC hx hD
  exact hx.elim
 case body =>
  rintro l2 pre x W2 ⟨⟨v,ys,g1,g2,g3,g4⟩,g5,g6,g7⟩ gP aC
  have lX:ys.length<=50:=by
   have:=g3.length_eq
   have h2:=aC.length_le
   simp at this h2
   omega
  have zJ:x∈ws++as_:=cg x (aC.subset (by simp));have jQ:=fun W' (bI:Bw w W')=>qjh T0 hB (h.below bI).rd hr bK (h.below bI).cells.1 ((h.below bI).pin zJ)
  have nY:=fun W' (bI:Bw W2 W')=>qrz qip (g1.below bI) lX g2 ⟨x,qc0 nodes as_ x.x⟩ ((h.below (qac g7 bI)).befq (h.lt (fun b e=>by
   rcases e with e|e
   ·omega
   ·have:=g4 b e;omega)) (fun p hp=>by
    rcases xri.1 hp with e|e
    ·obtain⟨p',kI,rfl⟩:=xrq.1 (g3.mem_iff.1 e)
     exact cg p' (aC.subset (xr9 _ kI))
    ·simp at e;subst e;exact zJ))
  have c1:=g5.cell;have c2:=g6.cell;have HY:Hid (ys.Perm (pre.map fun p=>⟨p,qc0 nodes as_ p.x⟩)):=g3;have eN:∀W',Bw W2 W'->W'.cell? (vA w.heap.size 0)=some (vP rr)/\W'.cell? (vA (w.heap.size+1+1) 0)=some (vP (w.heap.size+1)):=fun W' bI=>⟨(g5.below bI g5.lt).cell,(g6.below bI g6.lt).cell⟩
  have dh:∀ {W':World},Keep (fun y=>y=w.heap.size+1\/v.ownBlock=some y) W2 W'->W'.cell? (vA w.heap.size 0)=some (vP rr)/\W'.cell? (vA (w.heap.size+1+1) 0)=some (vP (w.heap.size+1))/\Box W' w.heap.size 186 (vP rr)/\Box W' (w.heap.size+1+1) 223 (vP (w.heap.size+1)):=fun {W'} hk=>by
   have q1:=g5.keep hk (g1.qdy g5 (by decide) (by decide));have q2:=g6.keep hk (g1.qdy g6 (by decide) (by decide))
   exact⟨q1.cell,q2.cell,q1,q2⟩
  generalize te:qc0 nodes as_ x.x=sx at jQ nY;have G_:Hid (qc0 nodes as_ x.x=sx):=te;clear te;clear g3 hq av;unfold akv nptr at jQ nY
  gi_upto_region 4 with fail
  refine qfl ?_
  refine qdk (fun W'=>W'.cell? (vA w.heap.size 0)=some (vP rr)/\W'.cell? (vA (w.heap.size+1+1) 0)=some (vP (w.heap.size+1))) (by kernel_rfl) (by kernel_rfl) (eN W2.drew (Below.refl _ _).drew) (fun hS=>?_)
  refine wpAnyH_take (i:=0) (v:=vP (w.heap.size+1)) rfl (by kernel_rfl) (by kernel_rfl) (by kernel_rfl) (fun _ _ _ h=>absurd h.1 (by intro e;cases e)) (Or.inl ⟨by rfl,?_⟩) hS ?_
  ·intro w' bY;obtain⟨s1,s2⟩:=bY
   go_simp
  try simp only[xr5,xr3,xr4,Act.put,xr6,xr8,xr7]
  refine wpAnyH_take (i:=1) (v:=vP rr) rfl (by kernel_rfl) (by kernel_rfl) (by kernel_rfl) (fun _ _ _ h=>absurd h.1 (by intro e;cases e)) (Or.inl ⟨by rfl,?_⟩) hS ?_
  ·intro w' bY;obtain⟨s1,s2⟩:=bY
   go_simp
  try simp only[xr5,xr3,xr4,Act.put,xr6,xr8,xr7]
  refine wpAnyH_take (i:=2) (v:=vP x.blk) rfl (by kernel_rfl) (by kernel_rfl) (by kernel_rfl) (fun _ _ _ h=>absurd h.1 (by intro e;cases e)) (Or.inl ⟨by rfl,?_⟩) hS ?_
  ·intro w' bY;obtain⟨s1,s2⟩:=bY
   go_simp
  try simp only[xr5,xr3,xr4,Act.put,xr6,xr8,xr7]
  refine wpAnyH_ready (rs:=[3]) (by kernel_rfl) (by simp) ?_
  refine AllReadyH.cons rfl (fun K' hK=>?_) AllReadyH.nil
  rw[if_pos (by rfl)]
  try simp only[xr5,xr3,xr4]
  go_simp
  refine(jQ _ (qac g7 (by exact bel2))).mono ?_
  rintro e W3 ⟨rfl,ax⟩
  have aK:Bw W2 W3:=qac (show Bw W2 W2.drew by exact bel2) ax
  refine hK.out _ _ (eN _ aK) (fun hS=>?_)
  clear hK
  try simp only[xr5,xr3,xr4,Act.put,xr6,xr8,xr7]
  refine wpAnyH_ready (rs:=[4]) (by kernel_rfl) (by simp) ?_
  refine AllReadyH.cons rfl (fun K' hK=>?_) AllReadyH.nil
  rw[if_pos (by rfl)]
  try simp only[xr5,xr3,xr4]
  go_simp
  refine(nY _ aK).mono ?_
  rintro e W5 ⟨rfl,v',zs,y1,y2,y3,y4,y5⟩
  have fS:Keep (fun y=>y=w.heap.size+1\/v.ownBlock=some y) W2 W5:=(Keep.new aK).trans y4;obtain⟨q1,q2,q3,q4⟩:=dh fS
  refine hK.out _ _ ⟨q1,q2⟩ (fun hS=>?_)
  clear hK
  refine wpAnyH_done (by kernel_rfl) ⟨rfl,?_⟩ _
  clear nY jQ dh eN
  refine show Keep (fun b=>b=w.heap.size+1\/W.heap.size+2+4<=b) W2 W5/\_ from⟨fS.mono (fun b e=>?_),⟨v',zs,y3,y2,?_,fun b hb=>?_⟩,q3,q4,g7.trans (fS.toBelow g7.size (fun b hb e=>?_))⟩
  ·rcases e with e|e
   ·exact .inl e
   ·exact .inr (g4 b e)
  ·rw[List.map_append];have e:[x].map (fun p=>(⟨p,qc0 nodes as_ p.x⟩:Ak))=[⟨x,sx⟩]:=by rw[<-G_.out];rfl
   rw[e]
   exact y1.trans (HY.out.append_right _)
  ·rcases y5 with e|⟨g,e1,e2⟩
   ·rw[e]at hb;exact g4 b hb
   ·rw[e1]at hb;cases hb;have:=aK.size;omega
  ·rcases e with e|e
   ·omega
   ·have:=g4 _ e;omega
 case done =>
  rintro A ⟨⟨v,ys,g1,g2,g3,g4⟩,g5,g6,g7⟩ hD
  have hO:=av ys g3;have lX:ys.length<=20:=by
   have:=g3.length_eq
   simp at this
   omega
  have eU:∀p∈ys,p.p∈ws++as_:=fun p hp=>by
   obtain⟨p',kI,rfl⟩:=xrq.1 (g3.mem_iff.1 hp)
   exact cg p' kI
  have hA:=h.below g7;have ho:=h.lt (T:=fun y=>y=w.heap.size+1\/v.ownBlock=some y) (fun b e=>by
   rcases e with e|e
   ·omega
   ·have:=g4 b e;omega)
  have c1:=g5.cell;have c2:=g6.cell;have Fy:GD nodes rr bt r lst w W.heap.size [] vw va ev ws as_ fin k0 A v ys vw va ev ws as_ s0:=⟨g1,g2,eU,by rw[mw];exact hA,R,I,bU.out.symm,eE,by rw[mw];omega,(qbu.refl _ _ _ _ _ _).below g7,ho,fun b hb=>by have:=g4 b hb;omega,fun _ e=>e,g5,g6,hD,fun x hx=>by simp at hx⟩;have nV:=Fy.pop hO;generalize 2*k0+ys.length=q0 at nV;clear av cg hq g3 bU Fy hO g1 g2 g4 hA ho lX eU R I mw z1 z3 qZ cn hD eE c_ an
  gi_wp2_with ((first|refine⟨trivial,b_ _,?_⟩|refine⟨trivial,?_⟩);gi_at_call 179;refine(xrv.2 nV).mono ?_;rintro e A1 ⟨sY,oq,GJ,rfl,hG⟩)
  obtain⟨A2,sw⟩:∃A2,A2=A1.alloc (.cells #[.pointer sY,vI oq] 226):=⟨_,rfl⟩;have hF:H1 nodes rr bt r lst w W.heap.size [(A1.heap.size,#[.pointer sY,vI oq])] vw va ev ws as_ fin q0 sY oq GJ A2:=by
   obtain⟨k,v1,oe,gG,gj,jI,ws1,gS,s1,hC,dD⟩:=hG
   exact⟨k,v1,oe,gG,gj,jI,ws1,gS,s1,hC.mark (by rw[sw];exact bel2) (by rw[sw];exact Blk.new _ _ _),dD⟩
  have vH:w.heap.size<=A1.heap.size:=by
   obtain⟨k,v1,oe,gG,gj,jI,ws1,gS,s1,hC,dD⟩:=hG
   have:=hC.b1.lt;omega
  simp only[<-sw];clear sw hG;generalize A1.heap.size=F0 at hF vH ⊢
  gi_loopg [4,5] q0 (fun q v4 v5 wr=>∃F hp hi sb,v4=vP F/\v5=.bool sb/\w.heap.size<=F/\H1 nodes rr bt r lst w W.heap.size [(F,#[.pointer hp,vI hi])] vw va ev ws as_ fin q hp hi sb wr)
  case atStart=>exact⟨F0,sY,oq,GJ,rfl,rfl,vH,hF⟩
  case round =>
   clear hF vH nV c1 c2;obtain⟨F,hp,hi,sb,rfl,rfl,vH,k,v1,oe,gG,gj,jI,ws1,gS,s1,hC,dD⟩:=hrel
   rcases dD with ⟨rfl,sP⟩|⟨rfl,fc,a,rfl,rfl,mj,hO,dR⟩
   ·have xb:Hid (fin=s1):=sP;clear sP
    gi_wp2_with fail
    have hd:=hC.d;rw[dk]at hd
    refine⟨by simp,.inl ⟨_,_,rfl,run_takeDeferred hd,?_⟩⟩
    have yO:Keep (fun b=>b=w.heap.size+4) wr (wr.putObj (w.heap.size+4) (.deferred none)):=(Keep.refl (fun b=>b=w.heap.size+4) _).putObj rfl _
    refine⟨.tuple #[],by simp[results,results131,go_sem],rfl,gG,gj,jI,ws1,gS,?_,?_,⟨hC.st.keep.qbo yO (fun b hb e=>by omega),hC.st.new⟩,hC.sub⟩
    ·rw[xb.out];exact hC.ld.keep yO (hC.ld.outD hd)
    ·rw[xb.out];exact hC.rel
   ·have mz:=hC.fits T0 hB mj;have HQ:Hid (2*k+oe.length+1<=_):=fc;have aY:∀W',Bw wr W'->W'.cell? (vA w.heap.size 0)=some (vP rr)/\W'.cell? (vA (w.heap.size+1+1) 0)=some (vP (w.heap.size+1))/\W'.cell? (vA F 0)=some (vP a.p.blk)/\W'.cell? (vA F 1)=some (vI a.s):=fun W' bI=>⟨(hC.below bI).b1.cell,(hC.below bI).b3.cell,(hC.below bI).fblk.cell 0,(hC.below bI).fblk.cell 1⟩
    obtain⟨e1,e2,e3,e4⟩:=aY wr (Below.refl _ _)
    cases hfw:qbm (nodes.map Node.ent) s1.Ws a.p.x with
    |false =>
     rw[hfw]at mz;have IC:=hO.drop hfw;have ic:=fun W' (bI:Bw wr W')=>(hC.below bI).popN IC #[vP a.p.blk,vI a.s]
     clear hO dR fc
     gi_wp2_with (first
      |((first|refine⟨trivial,b_ _,?_⟩|refine⟨trivial,?_⟩);gi_at_call 180;refine(xrv.2 mz).mono ?_;rintro e w3 ⟨rfl,ax⟩;obtain⟨f1,f2,f3,f4⟩:=aY w3 ax;have DD:=ic w3 ax;have f5:=(aY (w3.alloc (.cells #[vP a.p.blk,vI a.s] 226)) (ax.alloc ax.size _)).2.1)
      |((first|refine⟨trivial,b_ _,?_⟩|refine⟨trivial,?_⟩);gi_at_call 179;refine(xrv.2 DD).mono ?_;rintro e A5 ⟨AP,wE,Lk,rfl,j8⟩;have bF:=j8.blk;have cF:=bF.cell;have gF:=bF.frozen))
     have sC:=j8.setF (vs':=#[.pointer AP,vI wE]) (((Keep.refl (fun b=>b=w3.heap.size) A5).setCell (p:=vA w3.heap.size 0) rfl (.pointer AP)).setCell (p:=vA w3.heap.size 1) rfl (vI wE)) (by have:=(bF.set 0 (.pointer AP)).set 1 (vI wE);simpa using this) (by have:=ax.size;have:=hC.b1.lt;omega)
     gi_roundg (2*k+oe.length)
     case measure=>have:=HQ.out;omega
     case rel=>exact⟨_,AP,wE,Lk,rfl,rfl,by have:=ax.size;have:=hC.b1.lt;omega,sC⟩
    |true =>
     rw[hfw]at mz;obtain⟨s',i,kG,yz,FD,Fz,Cv,k',rfl,yL,za,yf⟩:=hC.qw4 T0 mj hO hfw dR;obtain⟨n,hn,gz,dh⟩:=hC.ld.lf a.p mj;have yg:s1.evs.length<=10000:=by have:=hC.bd;omega
     have dY:=fun W' (bI:Bw wr W')=>(hC.below bI).ld.admit yg kG
     rw[<-dh]at Cv;have gy:∀p∈(ws1.take i++ws1.drop (i+1))++(gS++[a.p]),p∈ws1++gS:=fun p hp=>by
      rcases xri.1 hp with h1|h1
      ·exact xr9 _ (qbb h1)
      ·rcases xri.1 h1 with h1|h1
       ·exact xra _ h1
       ·simp at h1;subst h1;exact xr9 _ (xr2 kG)
     have ir:∀p∈ws1++gS,p∈(ws1.take i++ws1.drop (i+1))++(gS++[a.p]):=fun p hp=>by
      rcases xri.1 hp with h1|h1
      ·rcases List.mem_cons.1 ((qb0 kG).mem_iff.1 h1) with rfl|h1
       ·simp
       ·exact xr9 _ h1
      ·exact xra _ (xr9 _ h1)
     have AK:∀W' Ao ik gR eV,Bw wr W'->LdAt Ao nodes rr bt r lst ik gR eV (ws1.take i++ws1.drop (i+1)) (gS++[a.p]) (s1.evs++[(1,a.p.x.num)])->qbu rr bt W' Ao gG gj jI ik gR eV->GD nodes rr bt r lst w W.heap.size [(F,#[vP a.p.blk,vI a.s])] vw va ev ws as_ fin k' Ao v1 oe ik gR eV (ws1.take i++ws1.drop (i+1)) (gS++[a.p]) s':=fun W' Ao ik gR eV bI hl bW=>(hC.below bI).qng (by rw[yz];exact hl) bW gy ir FD Fz yL za yf
     have oZ:a.p∈(ws1.take i++ws1.drop (i+1))++(gS++[a.p]):=by simp
     unfold nptr at dY;clear hO dR fc FD Fz yL za yf gy ir yg yz kG;generalize ws1.take i++ws1.drop (i+1)=jF at dY AK oZ;generalize gS++[a.p]=mY at dY AK oZ
     gi_upto_region 10 with (first
      |((first|refine⟨trivial,b_ _,?_⟩|refine⟨trivial,?_⟩);gi_at_call 180;refine(xrv.2 mz).mono ?_;rintro e w3 ⟨rfl,ax⟩;obtain⟨f1,f2,f3,f4⟩:=aY w3 ax;have sI:=dY w3 ax)
      |((first|refine⟨trivial,b_ _,?_⟩|refine⟨trivial,?_⟩);gi_at_call 173;refine(xrv.2 sI).mono ?_;rintro e w4 ⟨rfl,ik,gR,eV,n1,n2⟩;have qW:=AK _ _ _ _ _ ax n1 n2;clear sI dY AK n1 n2))
     clear aY e1 e2 e3 e4 f1 f2 f3 f4 mz;have JP:w.heap.size<=w4.heap.size:=by have:=qW.b1.lt;omega
     have aY:∀ {k v ys} (W':World),GD nodes rr bt r lst w W.heap.size [(F,#[vP a.p.blk,vI a.s])] vw va ev ws as_ fin k W' v ys ik gR eV jF mY s'->W'.cell? (vA w.heap.size 0)=some (vP rr)/\W'.cell? (vA (w.heap.size+1+1) 0)=some (vP (w.heap.size+1))/\W'.cell? (vA F 0)=some (vP a.p.blk)/\W'.cell? (vA F 1)=some (vI a.s)/\W'.cell? (vA rr 1)=some (.pointer (some (vA bt 1)))/\W'.cell? (vA a.p.blk 1)=some (vP a.p.q):=fun W' hg=>⟨hg.b1.cell,hg.b3.cell,hg.fblk.cell 0,hg.fblk.cell 1,hg.ld.cells.2.1,(hg.ld.pin oZ).cells.2.1⟩
     obtain⟨e1,e2,e3,e4,e5,e6⟩:=aY w4 qW;have iK:∀W',Bw w4 W'->Cl 174 #[.pointer (some (vA bt 1)),vP a.p.q] W' fun e w'=>e=.returned (optP (qbl jF n.blk))/\Below W'.heap.size W' w':=fun W' bI=>by
      have:=(qW.below bI).ld.rw_.head hn
      rw[show a.p.q=n.blk from gz.symm];exact this
     have a_:∀W',Bw w4 W'->_:=fun W' bI=>aY W' (qW.below bI)
     generalize sX:optP (qbl jF n.blk)=ov at iK;have EH:Hid (optP (qbl jF n.blk)=ov):=sX;clear sX
     refine wpIn_wide.2 ?_
     go_region_held3 (fun w'=>w'.cell? (vA w.heap.size 0)=some (vP rr)/\w'.cell? (vA F 0)=some (vP a.p.blk)/\w'.cell? (vA rr 1)=some (.pointer (some (vA bt 1)))/\w'.cell? (vA a.p.blk 1)=some (vP a.p.q)) (go_keep)
      (first|(go_at_call 174;refine(iK _ ?_).mono ?_;(focus exact bel2);rintro e w5 ⟨rfl,aG⟩;have eM:Bw w4 w5:=qac (by exact bel2) aG;obtain⟨f1,f2,f3,f4,f5,f6⟩:=a_ _ eM))
     have qX:=qW.below eM;clear iK a_ qW e1 e2 e3 e4 e5 e6;have zH:w.heap.size<=w5.heap.size:=by have:=qX.b1.lt;omega
     have rA:∀W',Bw w5 W'->_:=fun W' bI=>aY W' (qX.below bI)
     have ju:=fun W=>qd8 (W:=W)
     have rO:=fun W (p:Pw)=>qgv (W:=W) (x:=p)
     cases hhp:qbl jF n.blk with
     |none =>
      have DE:=qX.popN (qX.qwj T0 hB hn hhp Cv) #[vP a.p.blk,vI a.s];have f7:=(rA (w5.alloc (.cells #[vP a.p.blk,vI a.s] 226)) (by exact bel2)).2.1;have Gf:=ju w5;have ve:ov=.pointer none:=by rw[<-EH.out,hhp];rfl
      subst ve;clear rA aY ju rO
      gi_wp2_with ((first|refine⟨trivial,b_ _,?_⟩|refine⟨trivial,?_⟩);gi_at_call 179;refine(xrv.2 DE).mono ?_;rintro e A7 ⟨rP,rJ,Ey,rfl,xP⟩;have bF:=xP.blk;have cF:=bF.cell;have gF:=bF.frozen)
      have Cm:=xP.setF (vs':=#[.pointer rP,vI rJ]) (((Keep.refl (fun b=>b=w5.heap.size) A7).setCell (p:=vA w5.heap.size 0) rfl (.pointer rP)).setCell (p:=vA w5.heap.size 1) rfl (vI rJ)) (by have:=(bF.set 0 (.pointer rP)).set 1 (vI rJ);simpa using this) zH
      gi_roundg (2*k'+oe.length)
      case measure=>have:=HQ.out;omega
      case rel=>exact⟨_,rP,rJ,Ey,rfl,rfl,zH,Cm⟩
     |some p =>
      obtain⟨nk,fU⟩:=qX.rel.qcu T0 hB hn hhp;have dM:p∈jF++mY:=xr9 _ (qeu hhp);have jQ:∀W',Bw w5 W'->_:=fun W' bI=>qjh T0 hB (qX.below bI).ld.rd hr bK (qX.below bI).ld.cells.1 ((qX.below bI).ld.pin dM)
      have nY:∀W',Bw w5 W'->_:=fun W' bI=>(qX.below bI).qs0 T0 hB hn hhp Cv
      have Gf:=rO w5 p;generalize qc0 nodes mY p.x=sx at jQ nY;unfold akv nptr at jQ nY;have ve:ov=vP p.blk:=by rw[<-EH.out,hhp];rfl
      subst ve;clear ju rO
      gi_upto_region 12 with fail
      refine wpIn_wide.2 ?_
      go_region_held3 (fun w'=>w'.cell? (vA w.heap.size 0)=some (vP rr)/\w'.cell? (vA (w.heap.size+1+1) 0)=some (vP (w.heap.size+1))) (go_keep)
       (first
       |(go_at_call 178;refine(jQ _ ?_).mono ?_;(focus exact bel2);rintro e w6 ⟨rfl,gW⟩;have j7:Bw w5 w6:=qac (by exact bel2) gW;obtain⟨g1,g2,g3,g4,M7,M8⟩:=rA _ j7)
       |(go_at_call 177;refine(nY _ ?_).mono ?_;(focus exact bel2);rintro e w7 ⟨rfl,v7,Mb,Nb,A8,IE⟩;obtain⟨j1,j2,j3,j4,j5,j6⟩:=aY w7 A8))
      have DE:=A8.popN IE #[vP a.p.blk,vI a.s];have f7:=(aY _ (A8.below (show Bw w7 (w7.alloc (.cells #[vP a.p.blk,vI a.s] 226)) by exact bel2))).2.1;have zI:w.heap.size<=w7.heap.size:=by have:=A8.b1.lt;omega
      clear jQ nY rA aY
      gi_wp2_with ((first|refine⟨trivial,b_ _,?_⟩|refine⟨trivial,?_⟩);gi_at_call 179;refine(xrv.2 DE).mono ?_;rintro e A7 ⟨rP,rJ,Ey,rfl,xP⟩;have bF:=xP.blk;have cF:=bF.cell;have gF:=bF.frozen)
      have Cm:=xP.setF (vs':=#[.pointer rP,vI rJ]) (((Keep.refl (fun b=>b=w7.heap.size) A7).setCell (p:=vA w7.heap.size 0) rfl (.pointer rP)).setCell (p:=vA w7.heap.size 1) rfl (vI rJ)) (by have:=(bF.set 0 (.pointer rP)).set 1 (vI rJ);simpa using this) zI
      gi_roundg (2*k'+Mb.length)
      case measure=>have:=HQ.out;omega
      case rel=>exact⟨_,rP,rJ,Ey,rfl,rfl,zI,Cm⟩
end
end
section
open Go.RowKit
variable {W W' w:World}{nodes:List Node}{bt:Nat}{r:Node}{va vw:Value}{as_ ws:List Pw}{s0:SS}
structure TwAt (W:World) (nodes:List Node) (bt:Nat) (r:Node) (lst vw va:Value) (ws as_:List Pw):Prop where
 ins:∀n∈nodes,qan W n
 bk:BkAt W bt (nptr r.blk) lst vw va ws as_
 lf:∀p∈ws++as_,∃n∈nodes,n.blk=p.q/\n.key=p.x.key
 nm:∀p∈ws++as_,(0<=p.x.d0/\p.x.d0<=1000)/\(0<=p.x.d1/\p.x.d1<=1000)
theorem TwAt.below{lst:Value}(h:TwAt W nodes bt r lst vw va ws as_)(hb:Bw W W'):TwAt W' nodes bt r lst vw va ws as_ :=
 ⟨fun n hn=>(h.ins n hn).below hb,h.bk.keep (T:=fun _=>False) (Keep.new hb) id (fun _ _=>id) (fun _ _=>id) (fun _ _=>id),h.lf,h.nm⟩
theorem qgk{f:SS->Option SS}{I:SS->Prop}(c:Nat)(hI:∀s s',I s->f s=some s'->I s'/\s'.evs.length<=s.evs.length+c):∀(n:Nat) (s:SS),I s->I (iterS f n s)/\(iterS f n s).evs.length<=s.evs.length+c*n
 |0,s,h=>⟨h,by simp[iterS]⟩
 |n+1,s,h=>by
  unfold iterS
  cases hf:f s with
  |none=>exact⟨h,Nat.le_add_right _ _⟩
  |some s' =>
   obtain⟨h1,h2⟩:=hI s s' h hf;obtain⟨h3,h4⟩:=qgk c hI n s' h1
   refine⟨h3,?_⟩
   have:c*(n+1)=c*n+c:=by rw[Nat.mul_add,Nat.mul_one]
   simp only
   omega
theorem qr7(T0:Tree nodes)(hB:qa7 nodes){lst:Value}(h:TwAt w nodes bt r lst vw va ws as_)(hr:r∈nodes)(bK:r.key=[])(R:Rel nodes s0.Ws ws as_)(I:SInv s0)(mw:s0.evs=[]):
  Cl 79 #[nptr r.blk,.pointer (some (vA bt 1))] w fun e w'=>∃aQ aX ck bg aR,e=.returned ck/\TwAt w' nodes bt r lst aQ aX bg aR/\w'.ownsRow 0 60 2 ck (qaj (nodes.map Node.ent) s0).evs.length (qai (qaj (nodes.map Node.ent) s0).evs)/\Rel nodes (qaj (nodes.map Node.ent) s0).Ws bg aR/\Keep (BkT bt vw va) w w'/\(∀b,aQ.ownBlock=some b\/aX.ownBlock=some b->vw.ownBlock=some b\/va.ownBlock=some b\/w.heap.size<=b)/\(∀b,ck.ownBlock=some b->w.heap.size<=b)/\(∀p∈bg++aR,p∈ws++as_):=by
 obtain⟨ch,K0⟩:=T0.ch;have A_:=I.wks.wks.len;obtain⟨I1,b1⟩:=qgk (f:=ownStep (nodes.map Node.ent)) (I:=SInv) 25 (fun s s' hs hf=>⟨(hs.own hf).1,(hs.own hf).2.2.2.2⟩) s0.Ws.length s0 I;have wm:(qa2 (nodes.map Node.ent) s0).evs.length<=1000:=by
  unfold qa2;rw[mw]at b1
  have:25*s0.Ws.length<=600:=by omega
  simp at b1
  omega
 have xQ:SInv (qa2 (nodes.map Node.ent) s0):=I1;have cX:qaj (nodes.map Node.ent) s0=iterS (qas (nodes.map Node.ent)) s0.Ws.length (qa2 (nodes.map Node.ent) s0):=rfl;have Ed:(qa2 (nodes.map Node.ent) s0).Ws.length=s0.Ws.length:=by
  unfold qa2
  exact qe6 (I:=fun s=>SInv s/\s.Ws.length=s0.Ws.length) (fun s s' hs hf=>⟨(hs.1.own hf).1,by rw[(hs.1.own hf).2.2.2.1];exact hs.2⟩) _ _ ⟨I,rfl⟩ |>.2
 rw[cX];have dx:=h.bk.at_.lt;have tK:LdAt (w.alloc (.cells #[nptr r.blk,.pointer (some (vA bt 1)),v0_] 188)) nodes w.heap.size bt r lst vw va v0_ ws as_ []:=by
  have cx:Bw w (w.alloc (.cells #[nptr r.blk,.pointer (some (vA bt 1)),v0_] 188)):=by exact bel2
  exact⟨fun n hn=>(h.ins n hn).below cx,⟨h.bk.keep (T:=fun _=>False) (Keep.new cx) id (fun _ _=>id) (fun _ _=>id) (fun _ _=>id),⟨Blk.new _ _ _,⟨rfl,.inl ⟨rfl,rfl⟩⟩⟩⟩,h.lf,h.nm⟩
 have nj:=ql0 T0 hB K0 tK hr bK R I mw (by simp);have nu:=fun W aQ aX ck bg aR (hl:LdAt W nodes w.heap.size bt r lst aQ aX ck bg aR (qa2 (nodes.map Node.ent) s0).evs) (hR:Rel nodes (qa2 (nodes.map Node.ent) s0).Ws bg aR)=>qkt T0 hB K0 hl hr bK hR xQ rfl wm s0.Ws.length (by rw[<-Ed];exact qom _) (by omega)
 generalize iterS (qas (nodes.map Node.ent)) s0.Ws.length (qa2 (nodes.map Node.ent) s0)=fin at nu ⊢;generalize qa2 (nodes.map Node.ent) s0=N6 at nj nu;clear cX;unfold nptr at nj ⊢
 go_enter func79,ntmps79
 go_wp2_with fail
 refine nj.mono ?_
 rintro e w2 ⟨rfl,gG,gj,jI,ws1,gS,m1,m2,m3,m4⟩
 have gx:=nu _ _ _ _ _ _ m1 m2;clear nj nu
 go_wp2_with fail
 refine gx.mono ?_
 rintro e w3 ⟨rfl,ik,gR,eV,il,jj,n1,n2,n3,n4⟩
 have c2:=n1.cells.2.2.1;clear gx
 go_wp2_with fail
 go_ret
 have bW:=m3.trans n3;have cx:Bw w (w.alloc (.cells #[vP r.blk,.pointer (some (vA bt 1)),v0_] 188)):=by exact bel2
 refine⟨ik,gR,eV,il,jj,rfl,⟨n1.ins,n1.ld.bk,n1.lf,n1.nm⟩,n1.ld.rnd.row,n2,(Keep.new cx).qbo bW.keep (fun b hb e=>?_),fun b e=>?_,fun b e=>?_,fun p hp=>m4 p (n4 p hp)⟩
 ·rcases e with e|e|e
  ·omega
  ·exact e
  ·cases e
 ·rcases bW.new.bk b e with e|e|e
  ·exact .inl e
  ·exact .inr (.inl e)
  ·simp at e;exact .inr (.inr (by omega))
 ·rcases bW.new.ev b e with e|e
  ·cases e
  ·simp at e;omega
theorem qf6(T0:Tree nodes)(hB:qa7 nodes){lst:Value}(h:TwAt w nodes bt r lst vw va ws as_)(hr:r∈nodes)(bK:r.key=[])(R:Rel nodes s0.Ws ws as_)(I:SInv s0)(mw:s0.evs=[]):
  Cl 51 #[vP bt,vI 0] w fun e w'=>∃aQ aX ck bg aR,e=.returned (.tuple #[ck,vI 0])/\TwAt w' nodes bt r lst aQ aX bg aR/\w'.ownsRow 0 60 2 ck (qaj (nodes.map Node.ent) s0).evs.length (qai (qaj (nodes.map Node.ent) s0).evs)/\Rel nodes (qaj (nodes.map Node.ent) s0).Ws bg aR/\Keep (BkT bt vw va) w w'/\(∀b,aQ.ownBlock=some b\/aX.ownBlock=some b->vw.ownBlock=some b\/va.ownBlock=some b\/w.heap.size<=b)/\(∀b,ck.ownBlock=some b->w.heap.size<=b)/\(∀p∈bg++aR,p∈ws++as_):=by
 have gY:=fun W (hW:Bw w W)=>(qr7 T0 hB (h.below hW) hr bK R I mw).mono (R':=fun e w'=>∃aQ aX ck bg aR,e=.returned ck/\w'.cell? (vA bt 0)=some (vP r.blk)/\TwAt w' nodes bt r lst aQ aX bg aR/\w'.ownsRow 0 60 2 ck (qaj (nodes.map Node.ent) s0).evs.length (qai (qaj (nodes.map Node.ent) s0).evs)/\Rel nodes (qaj (nodes.map Node.ent) s0).Ws bg aR/\Keep (BkT bt vw va) w w'/\(∀b,aQ.ownBlock=some b\/aX.ownBlock=some b->vw.ownBlock=some b\/va.ownBlock=some b\/w.heap.size<=b)/\(∀b,ck.ownBlock=some b->w.heap.size<=b)/\(∀p∈bg++aR,p∈ws++as_)) (fun e w' ⟨aQ,aX,ck,bg,aR,h1,h2,h3,h4,h5,h6,h7,h8⟩=>⟨aQ,aX,ck,bg,aR,h1,h2.bk.at_.cell 0,h2,h3,h4,(Keep.new hW).trans h5,fun b e=>(h6 b e).imp id (fun e=>e.imp id (fun e=>Nat.le_trans hW.size e)),fun b e=>Nat.le_trans hW.size (h7 b e),h8⟩)
 have c0:=h.bk.at_.cell 0;simp only[List.getElem?_toArray,List.getElem?_cons_zero]at c0;generalize qaj (nodes.map Node.ent) s0=fin at gY ⊢;unfold nptr at gY c0
 go_enter func51,ntmps51
 go_upto_region 3 with fail
 go_region_held3 (fun w'=>w'.cell? (vA bt 0)=some (vP r.blk)) (go_keep)
  (first|(go_at_call 79;refine(gY _ ?_).mono ?_;(focus exact bel2);rintro e w2 ⟨ik,gR,eV,il,jj,rfl,c2,m1⟩))
 clear gY
 go_wp2_with fail
 exact xrn (v:=.tuple #[eV,vI 0]) (by simp[results,results51,go_sem]) rfl ⟨_,_,_,_,_,rfl,m1⟩
theorem qgg{x:Int}(hx:x≠0):
  Cl 51 #[vP bt,vI x] w fun e w'=>e=.returned (.tuple #[v0_,vI x])/\w'=w:=by
 have ke:(x == 0)=false:=by simp[hx]
 go_enter func51,ntmps51
 go_wp2_with fail
 exact xrn (v:=.tuple #[v0_,vI x]) (by simp[results,results51,go_sem]) rfl ⟨rfl,rfl⟩
end
section
open Go.RowKit Go.Shelf
variable {nodes:List Node}{w:World}{bt:Nat}{m r:Node}{va vw:Value}{as_ ws:List Pw}
attribute [local go_sem] Oper.semAt_some
def qfz (l:List Pw):List Value:=l.map fun p=>vI p.x.num
theorem qlu{lst:Value}(h:TwAt w nodes bt r lst vw va ws as_)(hm:m∈nodes):
  Cl 107 #[vP bt,nptr m.blk] w fun e w'=>∃v',e=.returned v'/\w'.ownsRow 0 3 1 v' (qa4 ws m.blk).length (qfz (qa4 ws m.blk))/\Bw w w'/\(∀b,v'.ownBlock=some b->w.heap.size<=b):=by
 have b_:∀k:Nat,Fence.wide.depth.isSome=true->1<=k:=fun k h=>by simp[Fence.wide]at h
 have dx:=h.bk.at_.lt;have A_:=h.bk.len;have ga:=fun W (hW:Bw w W)=>qn4 (w:=W) (h.below hW).ins ((h.below hW).bk.at_.cell 2) ⟨(h.below hW).bk.wrow,fun p hp=>(h.below hW).bk.works p (xr9 _ hp)⟩ (by omega) (fun p hp=>by obtain⟨n,h1,h2,_⟩:=h.lf p (xr9 _ hp);exact⟨n,h1,h2⟩) hm
 have nU:=fun (T:Nat->Prop) (hT:∀b,T b->w.heap.size<=b)=>(⟨fun n hn=>⟨fun e=>by have:=(h.ins n hn).lt;have:=hT _ e;omega,fun g hg e=>by have:=((h.ins n hn).row.lt g hg).2;have:=hT _ e;omega⟩,fun e=>by have:=hT _ e;omega,fun b hb e=>by have:=qal h.bk.wrow hb;have:=hT _ e;omega,fun p hp e=>by have:=(h.bk.works p (xr9 _ hp)).lt;have:=hT _ e;omega⟩:(∀n∈nodes,¬T n.blk/\∀g,n.sl.ownBlock=some g->¬T g)/\¬T bt/\(∀b,vw.ownBlock=some b->¬T b)/\(∀p∈ws,¬T p.blk))
 have dM:∀p∈qa4 ws m.blk,p∈ws:=fun p hp=>(xrr.1 hp).1
 have JC:(qa4 ws m.blk).length<=24:=Nat.le_trans (xrh _ _) (by omega);have fL:∀W,Bw w W->∀p∈ws,W.cell? (vA p.blk 0)=some (vI p.x.num):=fun W hW p hp=>((h.below hW).bk.works p (xr9 _ hp)).cell 0
 generalize qa4 ws m.blk=X at ga dM JC ⊢
 refine(xrv (n:=3)).1 ?_
 refine callsIn_of_wp_marks func107 rfl trivial ?_ rfl
 unfold nptr at ga ⊢;simp only[ntmps107,List.size_toArray,List.length_cons,List.length_nil,Nat.reduceAdd,Nat.reduceSub,Array.replicate_succ,Array.replicate_zero,List.push_toArray,List.append_toArray,List.nil_append,List.cons_append]
 gi_wp2_with ((first|refine⟨trivial,b_ _,?_⟩|refine⟨trivial,?_⟩);gi_at_call 156;refine(xrv.2 (ga _ (by exact bel1))).mono ?_;rintro e W3 ⟨rfl,rfl,aI⟩)
 obtain⟨W,hW⟩:∃W,W=(((w.alloc (.cells #[v0_] 25)).alloc (.cells #[.pointer (some (vA bt 1))] 132)).alloc (.cells #[vP m.blk] 97)):=⟨_,rfl⟩;have dk:W.heap.size=w.heap.size+3:=by rw[hW];simp
 have cn:Bw w W:=by rw[hW];exact bel2
 have z1:Box W w.heap.size 25 v0_:=by rw[hW];exact((Box.new w 25 _).alloc _).alloc _
 simp only[xrt]at aI;simp only[<-hW]at aI ⊢;have hq:SeqM prog 198 #[vP (w.heap.size+1),vP (w.heap.size+1+1)] (fun p:Pw=>#[vP p.blk]) (fun _=>False) 0 (fun b=>b=w.heap.size) X W:=qss (fun B l0 h1 h2=>by
  obtain⟨o1,o2,o3,o4⟩:=nU (fun b=>b=w.heap.size\/b=l0\/B<=b) (fun b e=>by omega)
  exact aI _ o1 o2 o3 o4 (by omega) (by omega))
 clear aI ga hW nU;have a7:∀b,b<W.heap.size->¬(False\/(W.heap.size<=b/\b<W.heap.size+2+0)):=fun b hb e=>by rcases e with e|e;exact e;omega
 refine qgs (T:=fun b=>b=w.heap.size) (S:=fun _=>False) rfl (enters_of func198 (by kernel_rfl) rfl) hq (Below.refl _ _) (fun _=>rfl) (fun b e=>e.elim) (fun b e=>by omega)
  (fun (pre:List Pw) A=>(∃v,A.ownsRow 0 3 1 v pre.length (qfz pre)/\Box A w.heap.size 25 v/\(∀b,v.ownBlock=some b->W.heap.size+2+0<=b))/\Bw w A)
  (fun c (pre:List Pw) A=>False)
  (fun pre A B hs hk=>by
   obtain⟨⟨v,g1,g2,g3⟩,g4⟩:=hs
   exact⟨⟨v,qab g1 hk (fun b hb e=>by have:=g3 b hb;rcases e with e|e;exact e;omega),g2.keep hk (a7 _ (by omega)),g3⟩,g4.trans (hk.toBelow g4.size (fun b aZ=>a7 b (by omega)))⟩)
  (fun c pre A B hs hk=>hs)
  ⟨⟨_,⟨rfl,.inl ⟨rfl,rfl⟩⟩,z1,by simp[Value.ownBlock]⟩,cn⟩
  (fun x=>{tmps:=#[vP bt,vP m.blk,undef,undef,v0_,vP w.heap.size,vP x.blk,vP bt,vP bt,.pointer (some (vA bt 1)),vP m.blk,.func (.func 198) #[] #[vP (w.heap.size+1),vP (w.heap.size+1+1)],vP x.blk,undef,undef,undef,undef,undef,undef,undef,undef],defers:=[]}) ?assign ?body ?done ?stop
 case assign =>
  intro l x W K hK
  gi_wp2
  exact hK
 case stop =>
  rintro c pre A aC hx hD
  exact hx.elim
 case body =>
  rintro l2 pre x W2 ⟨⟨v,g1,g2,g3⟩,g4⟩ gP aC
  have cg:x∈ws:=dM x (aC.subset (by simp));have fN:pre.length<=24:=by have:=aC.length_le;simp at this;omega
  have c0:=g2.cell;have n0:=fL W2 g4 x cg;have eN:∀W',Bw W2 W'->W'.cell? (vA x.blk 0)=some (vI x.x.num):=fun W' bI=>fL W' (qac g4 bI) x cg
  obtain⟨WA,C4⟩:∃WA,WA=(W2.alloc (.cells #[vI x.x.num] 3)).drew:=⟨_,rfl⟩;have gV:Bw W2 WA:=by rw[C4];exact bel2
  have cU:Blk WA W2.heap.size 3 #[vI x.x.num]:=by rw[C4];exact Blk.new W2 3 _
  have cA:=(g2.below gV g2.lt).cell;obtain⟨v1,w1,hr,g,cap,rfl,RA⟩:=qby un29 inf3 (by omega) WA v pre.length (qfz pre) (qab (T:=fun _=>False) g1 (Keep.new gV) (fun _ _ e=>e)) W2.heap.size 1 1 (by omega) [vI x.x.num] rfl cU (fun u hu=>by simp at hu;subst hu;rfl) (by unfold maxLen;omega) (by omega);have b1:Box w1 w.heap.size 25 v:=(g2.below gV g2.lt).keep RA.keep (fun e=>by have:=g3 _ e;omega);have k1:=b1.cell;have f1:=b1.frozen;have n1:w1.cell? (vA x.blk 0)=some (vI x.x.num):=by
   have vK:x.blk<WA.heap.size:=xrb _ _ (eN WA gV)
   refine(RA.keep.cell (p:=vA x.blk 0) vK (fun e=>?_)).trans (eN WA gV)
   have JW:x.blk<w.heap.size:=(h.bk.works x (xr9 _ cg)).lt
   have:=g3 x.blk e
   omega
  have aM:Keep (fun b=>b=w.heap.size\/W.heap.size+2+0<=b) W2 (w1.setCell (vA w.heap.size 0) (vS g (pre.length+1) cap))/\((∃v',(w1.setCell (vA w.heap.size 0) (vS g (pre.length+1) cap)).ownsRow 0 3 1 v' (pre++[x]).length (qfz (pre++[x]))/\Box (w1.setCell (vA w.heap.size 0) (vS g (pre.length+1) cap)) w.heap.size 25 v'/\(∀b,v'.ownBlock=some b->W.heap.size+2+0<=b))/\Bw w (w1.setCell (vA w.heap.size 0) (vS g (pre.length+1) cap))):=by
   have hz:=gV.size;have ct:W.heap.size+2+0<=g:=by
    rcases RA.new with e|e
    ·exact g3 _ e
    ·omega
   have hK:Keep (fun b=>b=w.heap.size\/W.heap.size+2+0<=b) W2 w1:=(Keep.new gV).qbo RA.keep (fun b hb e=>.inr (g3 b e));have fp:=hK.setCell (p:=vA w.heap.size 0) (.inl rfl) (vS g (pre.length+1) cap)
   refine⟨fp,⟨vS g (pre.length+1) cap,?_,b1.set _,fun b hb=>?_⟩,g4.trans (fp.toBelow g4.size (fun b hb e=>by omega))⟩
   ·have e:qfz (pre++[x])=qfz pre++[vI x.x.num]:=by simp[qfz]
    rw[e,show(pre++[x]).length=pre.length+1 by simp]
    exact xrl RA.own (by simp[Value.ownBlock];omega) _
   ·simp[Value.ownBlock]at hb;omega
  have da:(w1.setCell (vA w.heap.size 0) (vS g (pre.length+1) cap)).cell? (vA x.blk 0)=some (vI x.x.num):=by
   have JW:x.blk<w.heap.size:=(h.bk.works x (xr9 _ cg)).lt
   exact(World.cell?_setCell_other _ _ _ _ (by intro e;injection e with e1;omega)).trans n1
  rw[C4]at hr cA;have HF:Hid (Keep (fun b=>b=w.heap.size\/W.heap.size+2+0<=b) W2 (w1.setCell (vA w.heap.size 0) (vS g (pre.length+1) cap))/\((∃v',(w1.setCell (vA w.heap.size 0) (vS g (pre.length+1) cap)).ownsRow 0 3 1 v' (pre++[x]).length (qfz (pre++[x]))/\Box (w1.setCell (vA w.heap.size 0) (vS g (pre.length+1) cap)) w.heap.size 25 v'/\(∀b,v'.ownBlock=some b->W.heap.size+2+0<=b))/\Bw w (w1.setCell (vA w.heap.size 0) (vS g (pre.length+1) cap)))):=aM;obtain⟨a0,dA,hv,_,_⟩:=qbe g1;generalize hn:pre.length=n at hr hv da HF;clear hn aM RA cU gV hq g1 g3 b1;subst hv
  gi_upto_region 4 with fail
  refine qfl ?_
  refine qdk (fun W'=>W'.cell? (vA x.blk 0)=some (vI x.x.num)) (by kernel_rfl) (by kernel_rfl) (eN W2.drew (Below.refl _ _).drew) (fun hS=>?_)
  refine wpAnyH_take (i:=1) (v:=vP x.blk) rfl (by kernel_rfl) (by kernel_rfl) (by kernel_rfl) (fun _ _ _ h=>absurd h.1 (by intro e;cases e)) (Or.inl ⟨by rfl,?_⟩) hS ?_
  ·intro w' bY
   go_simp
  try simp only[xr5,xr3,xr4,Act.put,xr6,xr8,xr7]
  refine wpAnyH_take (i:=2) (v:=vP x.blk) rfl (by kernel_rfl) (by kernel_rfl) (by kernel_rfl) (fun _ _ _ h=>absurd h.1 (by intro e;cases e)) (Or.inl ⟨by rfl,?_⟩) hS ?_
  ·intro w' bY
   go_simp
  try simp only[xr5,xr3,xr4,Act.put,xr6,xr8,xr7]
  refine wpAnyH_take (i:=3) (v:=vP x.blk) rfl (by kernel_rfl) (by kernel_rfl) (by kernel_rfl) (fun _ _ _ h=>absurd h.1 (by intro e;cases e)) (Or.inl ⟨by rfl,?_⟩) hS ?_
  ·intro w' bY
   go_simp
  try simp only[xr5,xr3,xr4,Act.put,xr6,xr8,xr7]
  refine wpAnyH_take (i:=4) (v:=vI x.x.num) rfl (by kernel_rfl) (by kernel_rfl) (by kernel_rfl) (fun _ _ _ h=>absurd h.1 (by intro e;cases e)) (Or.inl ⟨by rfl,?_⟩) hS ?_
  ·intro w' bY
   go_simp
  try simp only[xr5,xr3,xr4,Act.put,xr6,xr8,xr7]
  refine wpAnyH_ready (rs:=[0,5]) (by kernel_rfl) (by simp) ?_
  refine AllReadyH.cons rfl (fun K' hK=>?_) (AllReadyH.cons rfl (fun K' hK=>?_) AllReadyH.nil)
  ·rw[if_pos (by rfl)]
   try simp only[xr5,xr3,xr4]
   go_simp
   refine hK.out _ _ (eN W2.drew (Below.refl _ _).drew) (fun hS=>?_)
   clear hK
   try simp only[xr5,xr3,xr4,Act.put,xr6,xr8,xr7]
   refine wpAnyH_ready (rs:=[5]) (by kernel_rfl) (by simp) ?_
   refine AllReadyH.cons rfl (fun K' hK=>?_) AllReadyH.nil
   rw[if_pos (by rfl)]
   try simp only[xr5,xr3,xr4]
   go_simp
   refine hK.out _ _ (eN _ (by exact bel2)) (fun hS=>?_)
   clear hK
   try simp only[xr5,xr3,xr4,Act.put,xr6,xr8,xr7]
   refine wpAnyH_ready (rs:=[6]) (by kernel_rfl) (by simp) ?_
   refine AllReadyH.cons rfl (fun K' hK=>?_) AllReadyH.nil
   refine qau (R:=fun v' w'=>v'=vS g (n+1) cap/\w'=w1) rfl (.tmp 13) (.tmp 18) 25 25 rfl (.slice a0 n dA) (vS W2.heap.size 1 1) rfl rfl ⟨_,_,hr,rfl,rfl⟩ ?_
   rintro v' w' ⟨rfl,rfl⟩
   refine hK.out _ _ n1 (fun hS=>?_)
   clear hK
   try simp only[xr5,xr3,xr4,Act.put,xr6,xr8,xr7]
   refine wpAnyH_ready (rs:=[7]) (by kernel_rfl) (by simp) ?_
   refine AllReadyH.cons rfl (fun K' hK=>?_) AllReadyH.nil
   rw[if_pos (by rfl)]
   try simp only[xr5,xr3,xr4]
   go_simp
   refine hK.out _ _ da (fun hS=>?_)
   clear hK
   refine wpAnyH_done (by kernel_rfl) ⟨rfl,?_⟩ _
   exact HF.out
  ·rw[if_pos (by rfl)]
   try simp only[xr5,xr3,xr4]
   go_simp
   refine hK.out _ _ (eN _ (by exact bel2)) (fun hS=>?_)
   clear hK
   try simp only[xr5,xr3,xr4,Act.put,xr6,xr8,xr7]
   refine wpAnyH_ready (rs:=[0]) (by kernel_rfl) (by simp) ?_
   refine AllReadyH.cons rfl (fun K' hK=>?_) AllReadyH.nil
   rw[if_pos (by rfl)]
   try simp only[xr5,xr3,xr4]
   go_simp
   refine hK.out _ _ (eN _ (by exact bel2)) (fun hS=>?_)
   clear hK
   try simp only[xr5,xr3,xr4,Act.put,xr6,xr8,xr7]
   refine wpAnyH_ready (rs:=[6]) (by kernel_rfl) (by simp) ?_
   refine AllReadyH.cons rfl (fun K' hK=>?_) AllReadyH.nil
   refine qau (R:=fun v' w'=>v'=vS g (n+1) cap/\w'=w1) rfl (.tmp 13) (.tmp 18) 25 25 rfl (.slice a0 n dA) (vS W2.heap.size 1 1) rfl rfl ⟨_,_,hr,rfl,rfl⟩ ?_
   rintro v' w' ⟨rfl,rfl⟩
   refine hK.out _ _ n1 (fun hS=>?_)
   clear hK
   try simp only[xr5,xr3,xr4,Act.put,xr6,xr8,xr7]
   refine wpAnyH_ready (rs:=[7]) (by kernel_rfl) (by simp) ?_
   refine AllReadyH.cons rfl (fun K' hK=>?_) AllReadyH.nil
   rw[if_pos (by rfl)]
   try simp only[xr5,xr3,xr4]
   go_simp
   refine hK.out _ _ da (fun hS=>?_)
   clear hK
   refine wpAnyH_done (by kernel_rfl) ⟨rfl,?_⟩ _
   exact HF.out
 case done =>
  rintro A ⟨⟨v,g1,g2,g3⟩,g4⟩ hD
  have c0:=g2.cell
  gi_wp2_with fail
  refine⟨by simp,.inl ⟨_,_,rfl,run_takeDeferred hD,?_⟩⟩
  have hk:Keep (fun b=>b=W.heap.size) A (A.putObj W.heap.size (.deferred none)):=(Keep.refl (fun b=>b=W.heap.size) _).putObj rfl _
  exact⟨v,by simp[results,results107,go_sem],v,rfl,qab g1 hk (fun b hb e=>by have:=g3 b hb;omega),g4.trans (hk.toBelow g4.size (fun b hb e=>by omega)),fun b hb=>by have:=g3 b hb;omega⟩
end
section
open Go.RowKit
variable {W w:World}{nodes:List Node}{bt:Nat}{n r:Node}{va vw:Value}{as_ ws:List Pw}
def qo6 (p:Bs)(leaf:Bool)(a b c d e f:Int)(v:Value):Array Value:=#[.string (sb p),.bool leaf,vI a,vI b,vI c,vI d,vI e,vI f,v]
theorem TwAt.pws{lst:Value}(h:TwAt W nodes bt r lst vw va ws as_):qhe W nodes va as_ :=
 ⟨h.bk.arow,fun p hp=>h.bk.works p (xra _ hp),fun p hp=>h.lf p (xra _ hp),fun p hp=>h.nm p (xra _ hp),by have:=h.bk.len;omega⟩
theorem qop(T0:Tree nodes)(hB:qa7 nodes){lst:Value}(h:TwAt w nodes bt r lst vw va ws as_)(hn:n∈nodes):
  Cl 64 #[vP bt,nptr n.blk] w fun e w'=>∃v',e=.returned (.agg (qo6 (joinB n.key) n.leaf (pn0 nodes n.key) (pn1 nodes n.key) n.b0 n.b1 (ws0 (pun as_ n.key)) (ws1 (pun as_ n.key)) v'))/\w'.ownsRow 0 3 1 v' (qa4 ws n.blk).length (qfz (qa4 ws n.blk))/\Bw w w'/\(∀b,v'.ownBlock=some b->w.heap.size<b):=by
 have dx:=h.bk.at_.lt;have kP:=fun W (hW:Bw w W)=>qhh T0 n.key.length n hn rfl W (h.below hW).ins
 have xE:=fun W (hW:Bw w W)=>qko n.blk n.leaf W (((h.below hW).ins n hn).cell rfl)
 have Fv:=fun W (hW:Bw w W)=>qcz T0 hn W (h.below hW).ins
 have Fw:=fun W (hW:Bw w W)=>qpw n.blk n.b0 n.b1 W (((h.below hW).ins n hn).cell rfl) (((h.below hW).ins n hn).cell rfl)
 have xF:=fun W (hW:Bw w W)=>qjo T0 hB W (h.below hW).ins bt ((h.below hW).bk.at_.cell 3) (h.below hW).pws hn
 have xG:=fun W (hW:Bw w W)=>qlu (h.below hW) hn
 unfold qo6;generalize pn0 nodes n.key=s0 at *;generalize pn1 nodes n.key=s1 at *;generalize ws0 (pun as_ n.key)=u0 at *;generalize ws1 (pun as_ n.key)=u1 at *;generalize sb (joinB n.key)=cw at *;generalize (qa4 ws n.blk).length=wl at *;generalize qfz (qa4 ws n.blk)=wn at *;unfold nptr at *
 go_enter func64,ntmps64
 have BF:Blk (w.alloc (.cells #[.string ⟨#[]⟩,.bool false,vI 0,vI 0,vI 0,vI 0,vI 0,vI 0,v0_] 37)).drew w.heap.size 37 #[.string ⟨#[]⟩,.bool false,vI 0,vI 0,vI 0,vI 0,vI 0,vI 0,v0_]:=Blk.new w 37 _
 go_upto_region 1 with fail
 go_region_held3 (fun _=>True) (exact trivial)
  (first
   |(go_at_call 47;refine(kP _ ?_).mono ?_;(focus exact bel2);rintro e w1 ⟨rfl,aa⟩;have aj:Bw w w1:=qac (by exact bel2) aa)
   |(go_at_call 105;refine(xE _ aj).mono ?_;rintro e w2 ⟨rfl,en⟩;subst en)
   |(go_at_call 85;refine(Fv _ aj).mono ?_;rintro e w3 ⟨rfl,ax⟩;have aK:Bw w w3:=qac aj ax)
   |(go_at_call 86;refine(Fw _ aK).mono ?_;rintro e w4 ⟨rfl,a_⟩;have dU:Bw w w4:=qac aK a_)
   |(go_at_call 106;refine(xF _ dU).mono ?_;rintro e w5 ⟨rfl,aG⟩;have eM:Bw w w5:=qac dU aG)
   |(go_at_call 107;refine(xG _ eM).mono ?_;rintro e w6 ⟨v6,rfl,Gi,gW,Gp⟩;have j7:Bw w w6:=qac eM gW;obtain⟨a6,c6,zD,_,_⟩:=qbe Gi;subst zD;have mm:Blk w6 w.heap.size 37 #[.string ⟨#[]⟩,.bool false,vI 0,vI 0,vI 0,vI 0,vI 0,vI 0,v0_]:=((((BF.below aa (by simp)).below ax (by have:=aa.size;simp at this;omega)).below a_ (by have:=aa.size;have:=ax.size;simp at *;omega)).below aG (by have:=aa.size;have:=ax.size;have:=a_.size;simp at *;omega)).below gW (by have:=aa.size;have:=ax.size;have:=a_.size;have:=aG.size;simp at *;omega);have aY:=mm.cell;have cV:=mm.frozen;clear kP xE Fv Fw xF xG))
 go_wp2_with fail
 have aM:=(((((((((mm.set 0 (.string cw)).set 1 (.bool n.leaf)).set 2 (vI s0)).set 3 (vI s1)).set 4 (vI n.b0)).set 5 (vI n.b1)).set 6 (vI u0)).set 7 (vI u1)).set 8 (.slice a6 wl c6));have hc:=aM.cell;have hk:=(((((((((Keep.refl (fun b=>b=w.heap.size) w6).setCell (p:=vA w.heap.size 0) rfl (.string cw)).setCell (p:=vA w.heap.size 1) rfl (.bool n.leaf)).setCell (p:=vA w.heap.size 2) rfl (vI s0)).setCell (p:=vA w.heap.size 3) rfl (vI s1)).setCell (p:=vA w.heap.size 4) rfl (vI n.b0)).setCell (p:=vA w.heap.size 5) rfl (vI n.b1)).setCell (p:=vA w.heap.size 6) rfl (vI u0)).setCell (p:=vA w.heap.size 7) rfl (vI u1)).setCell (p:=vA w.heap.size 8) rfl (.slice a6 wl c6);have ak:w.heap.size<w5.heap.size:=by have:=aa.size;have:=ax.size;have:=a_.size;have:=aG.size;simp at *;omega
 clear aY cV
 exact xrn (v:=.agg #[.string cw,.bool n.leaf,vI s0,vI s1,vI n.b0,vI n.b1,vI u0,vI u1,.slice a6 wl c6]) (by simp[results,results64,go_sem,hc]) rfl ⟨_,rfl,qab Gi hk (fun b hb e=>by have:=Gp b hb;omega),j7.trans (hk.toBelow j7.size (fun b hb e=>by omega)),fun b hb=>by have:=Gp b hb;omega⟩
end
end Go.Proofs.YtphclnolomgjoaaGreatDoor
