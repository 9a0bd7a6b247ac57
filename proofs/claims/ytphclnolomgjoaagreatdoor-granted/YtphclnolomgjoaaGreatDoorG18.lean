import Derived.Test.YtphclnolomgjoaaGreatDoorG17
set_option linter.unusedVariables false
set_option linter.unusedSimpArgs false
set_option maxRecDepth 100000
set_option maxHeartbeats 4000000
namespace Go.Proofs.YtphclnolomgjoaaGreatDoor
open Tryz
section
open Go.RowKit Go.Shelf
variable {P:Program}{s0:SS}
attribute [local go_sem] Oper.semAt_some
section
variable {w:World}{nodes:List Node}{rr bt:Nat}{r:Node}{ai vw va ev:Value}{ws as_:List Pw}{evs:List (Int×Int)}
theorem qf7{F:Fence}{n:Nat}{c:Code}{Q:Exit->Act->World->Prop}{a:Act}{w:World}(h:c.wpIn F n P (Exit.then (fun a w=>Q .normal a w) (fun _ _ _=>False)) a w):c.wpIn F n P Q a w :=
 wpIn_mono h (fun e a w hq=>by cases e with|normal=>exact hq|_=>exact hq.elim)
theorem qvm(f:Value)(hf:∃a b c,f=.func a b c)(w:World):Calls prog 175 #[f] w fun e w'=>e=.returned (.pointer (some ⟨w.heap.size,0,none⟩))/\w'=w.alloc (.cells #[f,.slice none 0 0] 254):=by
 obtain⟨a,b,c,rfl⟩:=hf
 go_enter func175,ntmps175
 go_wp2_with fail
 go_ret
 exact⟨rfl,rfl⟩
theorem qlm(T0:Tree nodes)(hB:qa2 nodes){ch:Node->List Node}(K0:Kids nodes ch)(h:LdAt w nodes rr bt r ai vw va ev ws as_ evs)(hr:r∈nodes)(a_:r.key=[])(R:Rel nodes s0.Ws ws as_)(I:SInv s0)(ef:s0.evs=evs)(ay:evs.length<=1000)(k0:Nat)(fk:qi8 s0.Ws<=k0)(cd:k0<=100):
  Calls prog 131 #[.pointer (some ⟨rr,0,none⟩)] w fun e w'=>e=.returned (.tuple #[])/\∃aH aO bB aj aK,LdAt w' nodes rr bt r ai aH aO bB aj aK (qbd (qap (nodes.map Node.ent)) k0 s0).evs/\Rel nodes (qbd (qap (nodes.map Node.ent)) k0 s0).Ws aj aK/\qca rr bt w w' vw va ev aH aO bB/\(∀p∈aj++aK,p∈ws++as_):=by
 generalize aI:qbd (qap (nodes.map Node.ent)) k0 s0=aT;have dW:Hid (qbd (qap (nodes.map Node.ent)) k0 s0=aT):=aI;clear aI;have bu:∀k:Nat,Fence.wide.depth.isSome=true->1<=k:=fun k h=>by simp[Fence.wide]at h
 have rQ:=qvm (.func (.func 176) #[] #[]) ⟨_,_,_,rfl⟩
 refine(xrv (n:=3)).1 ?_
 refine callsIn_of_wp_marks func131 rfl trivial ?_ rfl
 simp only[ntmps131,List.size_toArray,List.length_cons,List.length_nil,Nat.reduceAdd,Nat.reduceSub,Array.replicate_succ,Array.replicate_zero,List.push_toArray,List.append_toArray,List.nil_append,List.cons_append];have iZ:=fun W (hW:Below w.heap.size w W)=>qmm T0 K0 (h.below hW).rw_ hr
 unfold nptr at iZ;obtain⟨W0,bf⟩:∃W0,W0=((w.alloc (.cells #[.pointer (some ⟨rr,0,none⟩)] 186)).alloc (.cells #[.func (.func 176) #[] #[],.slice none 0 0] 254)).alloc (.cells #[.pointer (some ⟨w.heap.size+1,0,none⟩)] 223):=⟨_,rfl⟩;have bh:Below w.heap.size w W0:=by rw[bf];exact bel2
 have dt:W0.heap.size=w.heap.size+3:=by rw[bf];simp
 have x1:Box W0 w.heap.size 186 (.pointer (some ⟨rr,0,none⟩)):=by rw[bf];exact((Box.new w 186 _).alloc _).alloc _
 have mB:HqAt W0 (w.heap.size+1) (.func (.func 176) #[] #[]) (.slice none 0 0) []:=by
  refine⟨?_,⟨rfl,.inl ⟨rfl,rfl⟩⟩,by simp[Value.ownBlock]⟩
  have:=(Blk.new (w.alloc (.cells #[.pointer (some ⟨rr,0,none⟩)] 186)) 254 #[.func (.func 176) #[] #[],.slice none 0 0]).alloc (.cells #[.pointer (some ⟨w.heap.size+1,0,none⟩)] 223)
  rw[xrt]at this;rw[bf];exact this
 have x3:Box W0 (w.heap.size+1+1) 223 (.pointer (some ⟨w.heap.size+1,0,none⟩)):=by
  have:=Box.new ((w.alloc (.cells #[.pointer (some ⟨rr,0,none⟩)] 186)).alloc (.cells #[.func (.func 176) #[] #[],.slice none 0 0] 254)) 223 (.pointer (some ⟨w.heap.size+1,0,none⟩))
  rw[xrt,xrt]at this;rw[bf];exact this
 have c1:=x1.cell;rw[bf]at c1
 gi_wp2_with (first
  |((first|refine⟨trivial,bu _,?_⟩|refine⟨trivial,?_⟩);gi_at_call 175;refine(xrv.2 (rQ _)).mono ?_;rintro e W3 ⟨rfl,rfl⟩)
  |((first|refine⟨trivial,bu _,?_⟩|refine⟨trivial,?_⟩);gi_at_call 169;refine(xrv.2 (iZ _ (by exact bel1))).mono ?_;rintro e W3 ⟨rfl,rfl,aB⟩))
 obtain⟨W,hW⟩:∃W,W=W0.alloc (.cells #[.pointer (some ⟨rr,0,none⟩)] 186):=⟨_,rfl⟩;have df:W.heap.size=w.heap.size+4:=by rw[hW];simp[dt]
 have au:Below W0.heap.size W0 W:=by rw[hW];exact bel2
 have b_:Below w.heap.size w W:=qac bh au;have z1:=x1.below au x1.lt;have z3:=x3.below au x3.lt;have mC:=mB.below au;simp only[xrt]at aB;simp only[<-bf,<- hW]at aB ⊢;have hq:=aB (fun b=>b=w.heap.size+1) (fun b e=>by omega) (h.lt (fun b e=>by omega)).rw_;have jj:(qau ws (dfs ch 4 r)).length<=20:=Nat.le_trans (qkd ws (dfs ch 4 r)) (qo4 T0 K0 hr);have bZ:∀p∈qau ws (dfs ch 4 r),p∈ws++as_:=fun p hp=>xr9 _ (qke hp)
 have lu:=qgq T0 K0 hr a_;generalize dfs ch 4 r=DX at hq jj bZ lu;have aF:∀ys:List Ak,ys.Perm ((qau ws DX).map fun p=>⟨p,qdl nodes as_ p.x⟩)->qb9 (nodes.map Node.ent) s0.Ws (ys.map akx):=fun ys fQ=>R.qyn T0 hB I.wks lu fQ
 generalize qau ws DX=X at hq jj bZ aF;clear aB iZ hW bf c1 x1 x3 mB rQ;have aA:∀b,b<W.heap.size->¬(False\/(W.heap.size<=b/\b<W.heap.size+2+4)):=fun b hb e=>by rcases e with e|e;exact e;omega
 refine qhq (T:=fun b=>b=w.heap.size+1) (S:=fun _=>False) rfl (enters_of func206 (by kernel_rfl) rfl) hq (Below.refl _ _) (fun _=>rfl) (fun b e=>e.elim) (fun b e=>by omega)
  (fun (pre:List Pw) A=>(∃v ys,HqAt A (w.heap.size+1) (.func (.func 176) #[] #[]) v ys/\qb1 ltA ys/\ys.Perm (pre.map fun p=>⟨p,qdl nodes as_ p.x⟩)/\(∀b,v.ownBlock=some b->W.heap.size+2+4<=b))/\Box A w.heap.size 186 (.pointer (some ⟨rr,0,none⟩))/\Box A (w.heap.size+1+1) 223 (.pointer (some ⟨w.heap.size+1,0,none⟩))/\Below w.heap.size w A)
  (fun c (pre:List Pw) A=>False)
  (fun pre A B hs hk=>by
   obtain⟨⟨v,ys,g1,g2,g3,g4⟩,g5,g6,g7⟩:=hs
   exact⟨⟨v,ys,g1.keep hk (aA _ (by omega)) (fun b hb e=>by have:=g4 b hb;rcases e with e|e;exact e;omega),g2,g3,g4⟩,g5.keep hk (aA _ (by omega)),g6.keep hk (aA _ (by omega)),g7.trans (hk.toBelow g7.size (fun b bg=>aA b (by omega)))⟩)
  (fun c pre A B hs hk=>hs)
  ⟨⟨_,[],mC,fun j a b hj ha=>by simp at ha,by simp,by simp[Value.ownBlock]⟩,z1,z3,b_⟩
  (fun x=>{tmps:=#[.pointer (some ⟨rr,0,none⟩),.pointer (some ⟨w.heap.size,0,none⟩),.pointer (some ⟨w.heap.size+1+1,0,none⟩),.pointer (some ⟨x.blk,0,none⟩),undef,undef,undef,.pointer (some ⟨w.heap.size+1,0,none⟩),.pointer (some ⟨rr,0,none⟩),.func (.func 206) #[] #[.pointer (some ⟨w.heap.size+1+1+1,0,none⟩)],.pointer (some ⟨x.blk,0,none⟩),undef,undef,undef,undef,undef,undef,undef,undef,undef,undef,undef,undef,undef,undef,undef,undef,undef,undef,undef,undef,undef,undef,undef,undef,undef,undef,undef,undef,undef,undef,undef,undef,undef,undef,undef,undef,undef,undef,undef,undef,undef,undef,undef],defers:=[]}) ?assign ?body ?done ?stop
 case assign =>
  intro l x W K hK
  gi_wp2
  exact hK
 case stop =>
  rintro c pre A ax hx hD
  exact hx.elim
 case body =>
  rintro l2 pre x W2 ⟨⟨v,ys,g1,g2,g3,g4⟩,g5,g6,g7⟩ eL ax
  have pG:ys.length<=50:=by
   have:=g3.length_eq
   have h2:=ax.length_le
   simp at this h2
   omega
  have sG:x∈ws++as_:=bZ x (ax.subset (by simp));have gB:=fun W' (aX:Below w.heap.size w W')=>qj4 T0 hB (h.below aX).rd hr a_ (h.below aX).cells.1 ((h.below aX).pin sG)
  have jQ:=fun W' (aX:Below W2.heap.size W2 W')=>qti qi7 (g1.below aX) pG g2 ⟨x,qdl nodes as_ x.x⟩ ((h.below (qac g7 aX)).befq (h.lt (fun b e=>by
   rcases e with e|e
   ·omega
   ·have:=g4 b e;omega)) (fun p hp=>by
    rcases xri.1 hp with e|e
    ·obtain⟨p',mg,rfl⟩:=xrq.1 (g3.mem_iff.1 e)
     exact bZ p' (ax.subset (xr9 _ mg))
    ·simp at e;subst e;exact sG))
  have c1:=g5.cell;have c2:=g6.cell;have HY:Hid (ys.Perm (pre.map fun p=>⟨p,qdl nodes as_ p.x⟩)):=g3;have fW:∀W',Below W2.heap.size W2 W'->W'.cell? ⟨w.heap.size,0,none⟩=some (.pointer (some ⟨rr,0,none⟩))/\W'.cell? ⟨w.heap.size+1+1,0,none⟩=some (.pointer (some ⟨w.heap.size+1,0,none⟩)):=fun W' aX=>⟨(g5.below aX g5.lt).cell,(g6.below aX g6.lt).cell⟩
  have bR:∀ {W':World},Keep (fun y=>y=w.heap.size+1\/v.ownBlock=some y) W2 W'->W'.cell? ⟨w.heap.size,0,none⟩=some (.pointer (some ⟨rr,0,none⟩))/\W'.cell? ⟨w.heap.size+1+1,0,none⟩=some (.pointer (some ⟨w.heap.size+1,0,none⟩))/\Box W' w.heap.size 186 (.pointer (some ⟨rr,0,none⟩))/\Box W' (w.heap.size+1+1) 223 (.pointer (some ⟨w.heap.size+1,0,none⟩)):=fun {W'} hk=>by
   have q1:=g5.keep hk (g1.qef g5 (by decide) (by decide));have q2:=g6.keep hk (g1.qef g6 (by decide) (by decide))
   exact⟨q1.cell,q2.cell,q1,q2⟩
  generalize nY:qdl nodes as_ x.x=sx at gB jQ;have Af:Hid (qdl nodes as_ x.x=sx):=nY;clear nY;clear g3 hq aF;unfold akv nptr at gB jQ
  gi_upto_region 4 with fail
  refine qf7 ?_
  refine qdb (fun W'=>W'.cell? ⟨w.heap.size,0,none⟩=some (.pointer (some ⟨rr,0,none⟩))/\W'.cell? ⟨w.heap.size+1+1,0,none⟩=some (.pointer (some ⟨w.heap.size+1,0,none⟩))) (by kernel_rfl) (by kernel_rfl) (fW W2.drew (Below.refl _ _).drew) (fun hS=>?_)
  refine wpAnyH_take (i:=0) (v:=.pointer (some ⟨w.heap.size+1,0,none⟩)) rfl (by kernel_rfl) (by kernel_rfl) (by kernel_rfl) (fun _ _ _ h=>absurd h.1 (by intro e;cases e)) (Or.inl ⟨by rfl,?_⟩) hS ?_
  ·intro w' bz;obtain⟨s1,s2⟩:=bz
   go_simp
  try simp only[xr5,xr3,xr4,Act.put,xr6,xr8,xr7]
  refine wpAnyH_take (i:=1) (v:=.pointer (some ⟨rr,0,none⟩)) rfl (by kernel_rfl) (by kernel_rfl) (by kernel_rfl) (fun _ _ _ h=>absurd h.1 (by intro e;cases e)) (Or.inl ⟨by rfl,?_⟩) hS ?_
  ·intro w' bz;obtain⟨s1,s2⟩:=bz
   go_simp
  try simp only[xr5,xr3,xr4,Act.put,xr6,xr8,xr7]
  refine wpAnyH_take (i:=2) (v:=.pointer (some ⟨x.blk,0,none⟩)) rfl (by kernel_rfl) (by kernel_rfl) (by kernel_rfl) (fun _ _ _ h=>absurd h.1 (by intro e;cases e)) (Or.inl ⟨by rfl,?_⟩) hS ?_
  ·intro w' bz;obtain⟨s1,s2⟩:=bz
   go_simp
  try simp only[xr5,xr3,xr4,Act.put,xr6,xr8,xr7]
  refine wpAnyH_ready (rs:=[3]) (by kernel_rfl) (by simp) ?_
  refine AllReadyH.cons rfl (fun K' hK=>?_) AllReadyH.nil
  rw[if_pos (by rfl)]
  try simp only[xr5,xr3,xr4]
  go_simp
  refine(gB _ (qac g7 (by exact bel2))).mono ?_
  rintro e W3 ⟨rfl,aM⟩
  have bE:Below W2.heap.size W2 W3:=qac (show Below W2.heap.size W2 W2.drew by exact bel2) aM
  refine hK.out _ _ (fW _ bE) (fun hS=>?_)
  clear hK
  try simp only[xr5,xr3,xr4,Act.put,xr6,xr8,xr7]
  refine wpAnyH_ready (rs:=[4]) (by kernel_rfl) (by simp) ?_
  refine AllReadyH.cons rfl (fun K' hK=>?_) AllReadyH.nil
  rw[if_pos (by rfl)]
  try simp only[xr5,xr3,xr4]
  go_simp
  refine(jQ _ bE).mono ?_
  rintro e W5 ⟨rfl,v',zs,y1,y2,y3,y4,y5⟩
  have gK:Keep (fun y=>y=w.heap.size+1\/v.ownBlock=some y) W2 W5:=(Keep.new bE).trans y4;obtain⟨q1,q2,q3,q4⟩:=bR gK
  refine hK.out _ _ ⟨q1,q2⟩ (fun hS=>?_)
  clear hK
  refine wpAnyH_done (by kernel_rfl) ⟨rfl,?_⟩ _
  clear jQ gB bR fW
  refine show Keep (fun b=>b=w.heap.size+1\/W.heap.size+2+4<=b) W2 W5/\_ from⟨gK.mono (fun b e=>?_),⟨v',zs,y3,y2,?_,fun b hb=>?_⟩,q3,q4,g7.trans (gK.toBelow g7.size (fun b hb e=>?_))⟩
  ·rcases e with e|e
   ·exact .inl e
   ·exact .inr (g4 b e)
  ·rw[List.map_append];have e:[x].map (fun p=>(⟨p,qdl nodes as_ p.x⟩:Ak))=[⟨x,sx⟩]:=by rw[<-Af.out];rfl
   rw[e]
   exact y1.trans (HY.out.append_right _)
  ·rcases y5 with e|⟨g,e1,e2⟩
   ·rw[e]at hb;exact g4 b hb
   ·rw[e1]at hb;cases hb;have:=bE.size;omega
  ·rcases e with e|e
   ·omega
   ·have:=g4 _ e;omega
 case done =>
  rintro A ⟨⟨v,ys,g1,g2,g3,g4⟩,g5,g6,g7⟩ hD
  have hO:=aF ys g3;have pG:ys.length<=20:=by
   have:=g3.length_eq
   simp at this
   omega
  have pH:∀p∈ys,p.p∈ws++as_:=fun p hp=>by
   obtain⟨p',mg,rfl⟩:=xrq.1 (g3.mem_iff.1 hp)
   exact bZ p' mg
  have hA:=h.below g7;have ho:=h.lt (T:=fun y=>y=w.heap.size+1\/v.ownBlock=some y) (fun b e=>by
   rcases e with e|e
   ·omega
   ·have:=g4 b e;omega)
  have c1:=g5.cell;have c2:=g6.cell;have yD:GD nodes rr bt r ai w W.heap.size [] vw va ev ws as_ aT k0 A v ys vw va ev ws as_ s0:=⟨g1,g2,pH,by rw[ef];exact hA,R,I,dW.out.symm,fk,by rw[ef];omega,(qca.refl _ _ _ _ _ _).below g7,ho,fun b hb=>by have:=g4 b hb;omega,fun _ e=>e,g5,g6,hD,fun x hx=>by simp at hx⟩;have jO:=yD.pop hO;generalize 2*k0+ys.length=q0 at jO;clear aF bZ hq g3 dW yD hO g1 g2 g4 hA ho pG pH R I ef z1 z3 mC b_ hD fk cd ay
  gi_wp2_with ((first|refine⟨trivial,bu _,?_⟩|refine⟨trivial,?_⟩);gi_at_call 179;refine(xrv.2 jO).mono ?_;rintro e A1 ⟨ln,mT,zS,rfl,hG⟩)
  obtain⟨A2,lT⟩:∃A2,A2=A1.alloc (.cells #[.pointer ln,.int .i64 mT] 226):=⟨_,rfl⟩;have hF:H1 nodes rr bt r ai w W.heap.size [(A1.heap.size,#[.pointer ln,.int .i64 mT])] vw va ev ws as_ aT q0 ln mT zS A2:=by
   obtain⟨k,v1,jY,eQ,e_,gv,ws1,fg,s1,hC,bT⟩:=hG
   exact⟨k,v1,jY,eQ,e_,gv,ws1,fg,s1,hC.mark (by rw[lT];exact bel2) (by rw[lT];exact Blk.new _ _ _),bT⟩
  have pD:w.heap.size<=A1.heap.size:=by
   obtain⟨k,v1,jY,eQ,e_,gv,ws1,fg,s1,hC,bT⟩:=hG
   have:=hC.b1.lt;omega
  simp only[<-lT];clear lT hG;generalize A1.heap.size=F0 at hF pD ⊢
  gi_loopg [4,5] q0 (fun q v4 v5 wr=>∃F hp hi sb,v4=.pointer (some ⟨F,0,none⟩)/\v5=.bool sb/\w.heap.size<=F/\H1 nodes rr bt r ai w W.heap.size [(F,#[.pointer hp,.int .i64 hi])] vw va ev ws as_ aT q hp hi sb wr)
  case atStart=>exact⟨F0,ln,mT,zS,rfl,rfl,pD,hF⟩
  case round =>
   clear hF pD jO c1 c2;obtain⟨F,hp,hi,sb,rfl,rfl,pD,k,v1,jY,eQ,e_,gv,ws1,fg,s1,hC,bT⟩:=hrel
   rcases bT with ⟨rfl,nH⟩|⟨rfl,cS,a,rfl,rfl,ij,hO,ct⟩
   ·have qi:Hid (aT=s1):=nH;clear nH
    gi_wp2_with fail
    have hd:=hC.d;rw[df]at hd
    refine⟨by simp,.inl ⟨_,_,rfl,run_takeDeferred hd,?_⟩⟩
    have rE:Keep (fun b=>b=w.heap.size+4) wr (wr.putObj (w.heap.size+4) (.deferred none)):=(Keep.refl (fun b=>b=w.heap.size+4) _).putObj rfl _
    refine⟨.tuple #[],by simp[results,results131,go_sem],rfl,eQ,e_,gv,ws1,fg,?_,?_,⟨hC.st.keep.qbm rE (fun b hb e=>by omega),hC.st.new⟩,hC.sub⟩
    ·rw[qi.out];exact hC.ld.keep rE (hC.ld.outD hd)
    ·rw[qi.out];exact hC.rel
   ·have jG:=hC.fits T0 hB ij;have HQ:Hid (2*k+jY.length+1<=_):=cS;have bj:∀W',Below wr.heap.size wr W'->W'.cell? ⟨w.heap.size,0,none⟩=some (.pointer (some ⟨rr,0,none⟩))/\W'.cell? ⟨w.heap.size+1+1,0,none⟩=some (.pointer (some ⟨w.heap.size+1,0,none⟩))/\W'.cell? ⟨F,0,none⟩=some (.pointer (some ⟨a.p.blk,0,none⟩))/\W'.cell? ⟨F,1,none⟩=some (.int .i64 a.s):=fun W' aX=>⟨(hC.below aX).b1.cell,(hC.below aX).b3.cell,(hC.below aX).fblk.cell 0,(hC.below aX).fblk.cell 1⟩
    obtain⟨e1,e2,e3,e4⟩:=bj wr (Below.refl _ _)
    cases hfw:qbv (nodes.map Node.ent) s1.Ws a.p.x with
    |false =>
     rw[hfw]at jG;have Bb:=hO.drop hfw;have gl:=fun W' (aX:Below wr.heap.size wr W')=>(hC.below aX).popN Bb #[.pointer (some ⟨a.p.blk,0,none⟩),.int .i64 a.s]
     clear hO ct cS
     gi_wp2_with (first
      |((first|refine⟨trivial,bu _,?_⟩|refine⟨trivial,?_⟩);gi_at_call 180;refine(xrv.2 jG).mono ?_;rintro e w3 ⟨rfl,aM⟩;obtain⟨f1,f2,f3,f4⟩:=bj w3 aM;have wX:=gl w3 aM;have f5:=(bj (w3.alloc (.cells #[.pointer (some ⟨a.p.blk,0,none⟩),.int .i64 a.s] 226)) (aM.alloc aM.size _)).2.1)
      |((first|refine⟨trivial,bu _,?_⟩|refine⟨trivial,?_⟩);gi_at_call 179;refine(xrv.2 wX).mono ?_;rintro e A5 ⟨tO,pQ,Dz,rfl,tz⟩;have bF:=tz.blk;have cF:=bF.cell;have gF:=bF.frozen))
     have AU:=tz.setF (vs':=#[.pointer tO,.int .i64 pQ]) (((Keep.refl (fun b=>b=w3.heap.size) A5).setCell (p:=⟨w3.heap.size,0,none⟩) rfl (.pointer tO)).setCell (p:=⟨w3.heap.size,1,none⟩) rfl (.int .i64 pQ)) (by have:=(bF.set 0 (.pointer tO)).set 1 (.int .i64 pQ);simpa using this) (by have:=aM.size;have:=hC.b1.lt;omega)
     gi_roundg (2*k+jY.length)
     case measure=>have:=HQ.out;omega
     case rel=>exact⟨_,tO,pQ,Dz,rfl,rfl,by have:=aM.size;have:=hC.b1.lt;omega,AU⟩
    |true =>
     rw[hfw]at jG;obtain⟨s',i,ez,rh,tC,tA,vg,k',rfl,rB,rO,qT⟩:=hC.qz2 T0 ij hO hfw ct;obtain⟨n,hn,gk,bR⟩:=hC.ld.lf a.p ij;have qU:s1.evs.length<=10000:=by have:=hC.bd;omega
     have dZ:=fun W' (aX:Below wr.heap.size wr W')=>(hC.below aX).ld.admit qU ez
     rw[<-bR]at vg;have eE:∀p∈(ws1.take i++ws1.drop (i+1))++(fg++[a.p]),p∈ws1++fg:=fun p hp=>by
      rcases xri.1 hp with h1|h1
      ·exact xr9 _ (qbl h1)
      ·rcases xri.1 h1 with h1|h1
       ·exact xra _ h1
       ·simp at h1;subst h1;exact xr9 _ (xr2 ez)
     have jc:∀p∈ws1++fg,p∈(ws1.take i++ws1.drop (i+1))++(fg++[a.p]):=fun p hp=>by
      rcases xri.1 hp with h1|h1
      ·rcases List.mem_cons.1 ((qcf ez).mem_iff.1 h1) with rfl|h1
       ·simp
       ·exact xr9 _ h1
      ·exact xra _ (xr9 _ h1)
     have tL:∀W' ti fe fc ee,Below wr.heap.size wr W'->LdAt ti nodes rr bt r ai fe fc ee (ws1.take i++ws1.drop (i+1)) (fg++[a.p]) (s1.evs++[(1,a.p.x.num)])->qca rr bt W' ti eQ e_ gv fe fc ee->GD nodes rr bt r ai w W.heap.size [(F,#[.pointer (some ⟨a.p.blk,0,none⟩),.int .i64 a.s])] vw va ev ws as_ aT k' ti v1 jY fe fc ee (ws1.take i++ws1.drop (i+1)) (fg++[a.p]) s':=fun W' ti fe fc ee aX hl cH=>(hC.below aX).qoq (by rw[rh];exact hl) cH eE jc tC tA rB rO qT
     have kH:a.p∈(ws1.take i++ws1.drop (i+1))++(fg++[a.p]):=by simp
     unfold nptr at dZ;clear hO ct cS tC tA rB rO qT eE jc qU rh ez;generalize ws1.take i++ws1.drop (i+1)=gu at dZ tL kH;generalize fg++[a.p]=jn at dZ tL kH
     gi_upto_region 10 with (first
      |((first|refine⟨trivial,bu _,?_⟩|refine⟨trivial,?_⟩);gi_at_call 180;refine(xrv.2 jG).mono ?_;rintro e w3 ⟨rfl,aM⟩;obtain⟨f1,f2,f3,f4⟩:=bj w3 aM;have nD:=dZ w3 aM)
      |((first|refine⟨trivial,bu _,?_⟩|refine⟨trivial,?_⟩);gi_at_call 173;refine(xrv.2 nD).mono ?_;rintro e w4 ⟨rfl,fe,fc,ee,n1,n2⟩;have m9:=tL _ _ _ _ _ aM n1 n2;clear nD dZ tL n1 n2))
     clear bj e1 e2 e3 e4 f1 f2 f3 f4 jG;have C6:w.heap.size<=w4.heap.size:=by have:=m9.b1.lt;omega
     have bj:∀ {k v ys} (W':World),GD nodes rr bt r ai w W.heap.size [(F,#[.pointer (some ⟨a.p.blk,0,none⟩),.int .i64 a.s])] vw va ev ws as_ aT k W' v ys fe fc ee gu jn s'->W'.cell? ⟨w.heap.size,0,none⟩=some (.pointer (some ⟨rr,0,none⟩))/\W'.cell? ⟨w.heap.size+1+1,0,none⟩=some (.pointer (some ⟨w.heap.size+1,0,none⟩))/\W'.cell? ⟨F,0,none⟩=some (.pointer (some ⟨a.p.blk,0,none⟩))/\W'.cell? ⟨F,1,none⟩=some (.int .i64 a.s)/\W'.cell? ⟨rr,1,none⟩=some (.pointer (some ⟨bt,1,none⟩))/\W'.cell? ⟨a.p.blk,1,none⟩=some (.pointer (some ⟨a.p.q,0,none⟩)):=fun W' hg=>⟨hg.b1.cell,hg.b3.cell,hg.fblk.cell 0,hg.fblk.cell 1,hg.ld.cells.2.1,(hg.ld.pin kH).cells.2.1⟩
     obtain⟨e1,e2,e3,e4,e5,e6⟩:=bj w4 m9;have fA:∀W',Below w4.heap.size w4 W'->Calls prog 174 #[.pointer (some ⟨bt,1,none⟩),.pointer (some ⟨a.p.q,0,none⟩)] W' fun e w'=>e=.returned (optP (qbw gu n.blk))/\Below W'.heap.size W' w':=fun W' aX=>by
      have:=(m9.below aX).ld.rw_.head hn
      rw[show a.p.q=n.blk from gk.symm];exact this
     have bm:∀W',Below w4.heap.size w4 W'->_:=fun W' aX=>bj W' (m9.below aX)
     generalize mf:optP (qbw gu n.blk)=ov at fA;have xV:Hid (optP (qbw gu n.blk)=ov):=mf;clear mf
     refine wpIn_wide.2 ?_
     go_region_held3 (fun w'=>w'.cell? ⟨w.heap.size,0,none⟩=some (.pointer (some ⟨rr,0,none⟩))/\w'.cell? ⟨F,0,none⟩=some (.pointer (some ⟨a.p.blk,0,none⟩))/\w'.cell? ⟨rr,1,none⟩=some (.pointer (some ⟨bt,1,none⟩))/\w'.cell? ⟨a.p.blk,1,none⟩=some (.pointer (some ⟨a.p.q,0,none⟩))) (go_keep)
      (first|(go_at_call 174;refine(fA _ ?_).mono ?_;(focus exact bel2);rintro e w5 ⟨rfl,bO⟩;have dC:Below w4.heap.size w4 w5:=qac (by exact bel2) bO;obtain⟨f1,f2,f3,f4,f5,f6⟩:=bm _ dC))
     have mA:=m9.below dC;clear fA bm m9 e1 e2 e3 e4 e5 e6;have sD:w.heap.size<=w5.heap.size:=by have:=mA.b1.lt;omega
     have mL:∀W',Below w5.heap.size w5 W'->_:=fun W' aX=>bj W' (mA.below aX)
     have e9:=fun W=>qet (W:=W)
     have jM:=fun W (p:Pw)=>qhl (W:=W) (x:=p)
     cases hhp:qbw gu n.blk with
     |none =>
      have wY:=mA.popN (mA.qzb T0 hB hn hhp vg) #[.pointer (some ⟨a.p.blk,0,none⟩),.int .i64 a.s];have f7:=(mL (w5.alloc (.cells #[.pointer (some ⟨a.p.blk,0,none⟩),.int .i64 a.s] 226)) (by exact bel2)).2.1;have zk:=e9 w5;have lk:ov=.pointer none:=by rw[<-xV.out,hhp];rfl
      subst lk;clear mL bj e9 jM
      gi_wp2_with ((first|refine⟨trivial,bu _,?_⟩|refine⟨trivial,?_⟩);gi_at_call 179;refine(xrv.2 wY).mono ?_;rintro e A7 ⟨nf,mU,xI,rfl,qC⟩;have bF:=qC.blk;have cF:=bF.cell;have gF:=bF.frozen)
      have uW:=qC.setF (vs':=#[.pointer nf,.int .i64 mU]) (((Keep.refl (fun b=>b=w5.heap.size) A7).setCell (p:=⟨w5.heap.size,0,none⟩) rfl (.pointer nf)).setCell (p:=⟨w5.heap.size,1,none⟩) rfl (.int .i64 mU)) (by have:=(bF.set 0 (.pointer nf)).set 1 (.int .i64 mU);simpa using this) sD
      gi_roundg (2*k'+jY.length)
      case measure=>have:=HQ.out;omega
      case rel=>exact⟨_,nf,mU,xI,rfl,rfl,sD,uW⟩
     |some p =>
      obtain⟨nk,dM⟩:=mA.rel.qda T0 hB hn hhp;have cm:p∈gu++jn:=xr9 _ (qff hhp);have gB:∀W',Below w5.heap.size w5 W'->_:=fun W' aX=>qj4 T0 hB (mA.below aX).ld.rd hr a_ (mA.below aX).ld.cells.1 ((mA.below aX).ld.pin cm)
      have jQ:∀W',Below w5.heap.size w5 W'->_:=fun W' aX=>(mA.below aX).qtj T0 hB hn hhp vg
      have zk:=jM w5 p;generalize qdl nodes jn p.x=sx at gB jQ;unfold akv nptr at gB jQ;have lk:ov=.pointer (some ⟨p.blk,0,none⟩):=by rw[<-xV.out,hhp];rfl
      subst lk;clear e9 jM
      gi_upto_region 12 with fail
      refine wpIn_wide.2 ?_
      go_region_held3 (fun w'=>w'.cell? ⟨w.heap.size,0,none⟩=some (.pointer (some ⟨rr,0,none⟩))/\w'.cell? ⟨w.heap.size+1+1,0,none⟩=some (.pointer (some ⟨w.heap.size+1,0,none⟩))) (go_keep)
       (first
       |(go_at_call 178;refine(gB _ ?_).mono ?_;(focus exact bel2);rintro e w6 ⟨rfl,jB⟩;have my:Below w5.heap.size w5 w6:=qac (by exact bel2) jB;obtain⟨g1,g2,g3,g4,Er,Es⟩:=mL _ my)
       |(go_at_call 177;refine(jQ _ ?_).mono ?_;(focus exact bel2);rintro e w7 ⟨rfl,v7,DQ,ED,tx,Bd⟩;obtain⟨j1,j2,j3,j4,j5,j6⟩:=bj w7 tx))
      have wY:=tx.popN Bd #[.pointer (some ⟨a.p.blk,0,none⟩),.int .i64 a.s];have f7:=(bj _ (tx.below (show Below w7.heap.size w7 (w7.alloc (.cells #[.pointer (some ⟨a.p.blk,0,none⟩),.int .i64 a.s] 226)) by exact bel2))).2.1;have sE:w.heap.size<=w7.heap.size:=by have:=tx.b1.lt;omega
      clear gB jQ mL bj
      gi_wp2_with ((first|refine⟨trivial,bu _,?_⟩|refine⟨trivial,?_⟩);gi_at_call 179;refine(xrv.2 wY).mono ?_;rintro e A7 ⟨nf,mU,xI,rfl,qC⟩;have bF:=qC.blk;have cF:=bF.cell;have gF:=bF.frozen)
      have uW:=qC.setF (vs':=#[.pointer nf,.int .i64 mU]) (((Keep.refl (fun b=>b=w7.heap.size) A7).setCell (p:=⟨w7.heap.size,0,none⟩) rfl (.pointer nf)).setCell (p:=⟨w7.heap.size,1,none⟩) rfl (.int .i64 mU)) (by have:=(bF.set 0 (.pointer nf)).set 1 (.int .i64 mU);simpa using this) sE
      gi_roundg (2*k'+DQ.length)
      case measure=>have:=HQ.out;omega
      case rel=>exact⟨_,nf,mU,xI,rfl,rfl,sE,uW⟩
end
end
section
open Go.RowKit
variable {W W' w:World}{nodes:List Node}{bt:Nat}{r:Node}{ai va vw:Value}{as_ ws:List Pw}{s0:SS}
structure TwAt (W:World) (nodes:List Node) (bt:Nat) (r:Node) (ai vw va:Value) (ws as_:List Pw):Prop where
 ins:∀n∈nodes,qaf W n
 bk:BkAt W bt (nptr r.blk) ai vw va ws as_
 lf:∀p∈ws++as_,∃n∈nodes,n.blk=p.q/\n.key=p.x.key
 nm:∀p∈ws++as_,(0<=p.x.d0/\p.x.d0<=1000)/\(0<=p.x.d1/\p.x.d1<=1000)
theorem TwAt.below(h:TwAt W nodes bt r ai vw va ws as_)(hb:Below W.heap.size W W'):TwAt W' nodes bt r ai vw va ws as_ :=
 ⟨fun n hn=>(h.ins n hn).below hb,h.bk.keep (T:=fun _=>False) (Keep.new hb) id (fun _ _=>id) (fun _ _=>id) (fun _ _=>id),h.lf,h.nm⟩
theorem qgv{f:SS->Option SS}{I:SS->Prop}(c:Nat)(hI:∀s s',I s->f s=some s'->I s'/\s'.evs.length<=s.evs.length+c):∀(n:Nat) (s:SS),I s->I (qbd f n s)/\(qbd f n s).evs.length<=s.evs.length+c*n
 |0,s,h=>⟨h,by simp[qbd]⟩
 |n+1,s,h=>by
  unfold qbd
  cases hf:f s with
  |none=>exact⟨h,Nat.le_add_right _ _⟩
  |some s' =>
   obtain⟨h1,h2⟩:=hI s s' h hf;obtain⟨h3,h4⟩:=qgv c hI n s' h1
   refine⟨h3,?_⟩
   have:c*(n+1)=c*n+c:=by rw[Nat.mul_add,Nat.mul_one]
   simp only
   omega
theorem qs2(T0:Tree nodes)(hB:qa2 nodes)(h:TwAt w nodes bt r ai vw va ws as_)(hr:r∈nodes)(a_:r.key=[])(R:Rel nodes s0.Ws ws as_)(I:SInv s0)(ef:s0.evs=[]):
  Calls prog 79 #[nptr r.blk,.pointer (some ⟨bt,1,none⟩)] w fun e w'=>∃aH aO bB aj aK,e=.returned bB/\TwAt w' nodes bt r ai aH aO aj aK/\w'.ownsRow 0 60 2 bB (qal (nodes.map Node.ent) s0).evs.length (qam (qal (nodes.map Node.ent) s0).evs)/\Rel nodes (qal (nodes.map Node.ent) s0).Ws aj aK/\Keep (BkT bt vw va) w w'/\(∀b,aH.ownBlock=some b\/aO.ownBlock=some b->vw.ownBlock=some b\/va.ownBlock=some b\/w.heap.size<=b)/\(∀b,bB.ownBlock=some b->w.heap.size<=b)/\(∀p∈aj++aK,p∈ws++as_):=by
 obtain⟨ch,K0⟩:=T0.ch;have oa:=I.wks.wks.len;obtain⟨I1,b1⟩:=qgv (f:=qaz (nodes.map Node.ent)) (I:=SInv) 25 (fun s s' hs hf=>⟨(hs.own hf).1,(hs.own hf).2.2.2.2⟩) s0.Ws.length s0 I;have pL:(qco (nodes.map Node.ent) s0).evs.length<=1000:=by
  unfold qco;rw[ef]at b1
  have:25*s0.Ws.length<=600:=by omega
  simp at b1
  omega
 have qD:SInv (qco (nodes.map Node.ent) s0):=I1;have eK:qal (nodes.map Node.ent) s0=qbd (qap (nodes.map Node.ent)) s0.Ws.length (qco (nodes.map Node.ent) s0):=rfl;have xv:(qco (nodes.map Node.ent) s0).Ws.length=s0.Ws.length:=by
  unfold qco
  exact qc1 (I:=fun s=>SInv s/\s.Ws.length=s0.Ws.length) (fun s s' hs hf=>⟨(hs.1.own hf).1,by rw[(hs.1.own hf).2.2.2.1];exact hs.2⟩) _ _ ⟨I,rfl⟩ |>.2
 rw[eK];have cC:=h.bk.at_.lt;have uP:LdAt (w.alloc (.cells #[nptr r.blk,.pointer (some ⟨bt,1,none⟩),.slice none 0 0] 188)) nodes w.heap.size bt r ai vw va (.slice none 0 0) ws as_ []:=by
  have db:Below w.heap.size w (w.alloc (.cells #[nptr r.blk,.pointer (some ⟨bt,1,none⟩),.slice none 0 0] 188)):=by exact bel2
  exact⟨fun n hn=>(h.ins n hn).below db,⟨h.bk.keep (T:=fun _=>False) (Keep.new db) id (fun _ _=>id) (fun _ _=>id) (fun _ _=>id),⟨Blk.new _ _ _,⟨rfl,.inl ⟨rfl,rfl⟩⟩⟩⟩,h.lf,h.nm⟩
 have jr:=qmj T0 hB K0 uP hr a_ R I ef (by simp);have js:=fun W aH aO bB aj aK (hl:LdAt W nodes w.heap.size bt r ai aH aO bB aj aK (qco (nodes.map Node.ent) s0).evs) (hR:Rel nodes (qco (nodes.map Node.ent) s0).Ws aj aK)=>qlm T0 hB K0 hl hr a_ hR qD rfl pL s0.Ws.length (by rw[<-xv];exact qpi _) (by omega)
 generalize qbd (qap (nodes.map Node.ent)) s0.Ws.length (qco (nodes.map Node.ent) s0)=aT at js ⊢;generalize qco (nodes.map Node.ent) s0=EZ at jr js;clear eK;unfold nptr at jr ⊢
 go_enter func79,ntmps79
 go_wp2_with fail
 refine jr.mono ?_
 rintro e w2 ⟨rfl,eQ,e_,gv,ws1,fg,m1,m2,m3,m4⟩
 have fZ:=js _ _ _ _ _ _ m1 m2;clear jr js
 go_wp2_with fail
 refine fZ.mono ?_
 rintro e w3 ⟨rfl,fe,fc,ee,eC,fS,n1,n2,n3,n4⟩
 have c2:=n1.cells.2.2.1;clear fZ
 go_wp2_with fail
 go_ret
 have cH:=m3.trans n3;have db:Below w.heap.size w (w.alloc (.cells #[.pointer (some ⟨r.blk,0,none⟩),.pointer (some ⟨bt,1,none⟩),.slice none 0 0] 188)):=by exact bel2
 refine⟨fe,fc,ee,eC,fS,rfl,⟨n1.ins,n1.ld.bk,n1.lf,n1.nm⟩,n1.ld.rnd.row,n2,(Keep.new db).qbm cH.keep (fun b hb e=>?_),fun b e=>?_,fun b e=>?_,fun p hp=>m4 p (n4 p hp)⟩
 ·rcases e with e|e|e
  ·omega
  ·exact e
  ·cases e
 ·rcases cH.new.bk b e with e|e|e
  ·exact .inl e
  ·exact .inr (.inl e)
  ·simp at e;exact .inr (.inr (by omega))
 ·rcases cH.new.ev b e with e|e
  ·cases e
  ·simp at e;omega
theorem qfb(T0:Tree nodes)(hB:qa2 nodes)(h:TwAt w nodes bt r ai vw va ws as_)(hr:r∈nodes)(a_:r.key=[])(R:Rel nodes s0.Ws ws as_)(I:SInv s0)(ef:s0.evs=[]):
  Calls prog 51 #[.pointer (some ⟨bt,0,none⟩),.int .i64 0] w fun e w'=>∃aH aO bB aj aK,e=.returned (.tuple #[bB,.int .i64 0])/\TwAt w' nodes bt r ai aH aO aj aK/\w'.ownsRow 0 60 2 bB (qal (nodes.map Node.ent) s0).evs.length (qam (qal (nodes.map Node.ent) s0).evs)/\Rel nodes (qal (nodes.map Node.ent) s0).Ws aj aK/\Keep (BkT bt vw va) w w'/\(∀b,aH.ownBlock=some b\/aO.ownBlock=some b->vw.ownBlock=some b\/va.ownBlock=some b\/w.heap.size<=b)/\(∀b,bB.ownBlock=some b->w.heap.size<=b)/\(∀p∈aj++aK,p∈ws++as_):=by
 have jt:=fun W (hW:Below w.heap.size w W)=>(qs2 T0 hB (h.below hW) hr a_ R I ef).mono (R':=fun e w'=>∃aH aO bB aj aK,e=.returned bB/\w'.cell? ⟨bt,0,none⟩=some (.pointer (some ⟨r.blk,0,none⟩))/\TwAt w' nodes bt r ai aH aO aj aK/\w'.ownsRow 0 60 2 bB (qal (nodes.map Node.ent) s0).evs.length (qam (qal (nodes.map Node.ent) s0).evs)/\Rel nodes (qal (nodes.map Node.ent) s0).Ws aj aK/\Keep (BkT bt vw va) w w'/\(∀b,aH.ownBlock=some b\/aO.ownBlock=some b->vw.ownBlock=some b\/va.ownBlock=some b\/w.heap.size<=b)/\(∀b,bB.ownBlock=some b->w.heap.size<=b)/\(∀p∈aj++aK,p∈ws++as_)) (fun e w' ⟨aH,aO,bB,aj,aK,h1,h2,h3,h4,h5,h6,h7,h8⟩=>⟨aH,aO,bB,aj,aK,h1,h2.bk.at_.cell 0,h2,h3,h4,(Keep.new hW).trans h5,fun b e=>(h6 b e).imp id (fun e=>e.imp id (fun e=>Nat.le_trans hW.size e)),fun b e=>Nat.le_trans hW.size (h7 b e),h8⟩)
 have c0:=h.bk.at_.cell 0;simp only[List.getElem?_toArray,List.getElem?_cons_zero]at c0;generalize qal (nodes.map Node.ent) s0=aT at jt ⊢;unfold nptr at jt c0
 go_enter func51,ntmps51
 go_upto_region 3 with fail
 go_region_held3 (fun w'=>w'.cell? ⟨bt,0,none⟩=some (.pointer (some ⟨r.blk,0,none⟩))) (go_keep)
  (first|(go_at_call 79;refine(jt _ ?_).mono ?_;(focus exact bel2);rintro e w2 ⟨fe,fc,ee,eC,fS,rfl,c2,m1⟩))
 clear jt
 go_wp2_with fail
 exact xrn (v:=.tuple #[ee,.int .i64 0]) (by simp[results,results51,go_sem]) rfl ⟨_,_,_,_,_,rfl,m1⟩
theorem qcq{x:Int}(hx:x≠0):
  Calls prog 51 #[.pointer (some ⟨bt,0,none⟩),.int .i64 x] w fun e w'=>e=.returned (.tuple #[.slice none 0 0,.int .i64 x])/\w'=w:=by
 have ji:(x == 0)=false:=by simp[hx]
 go_enter func51,ntmps51
 go_wp2_with fail
 exact xrn (v:=.tuple #[.slice none 0 0,.int .i64 x]) (by simp[results,results51,go_sem]) rfl ⟨rfl,rfl⟩
end
section
open Go.RowKit Go.Shelf
variable {nodes:List Node}{w:World}{bt:Nat}{m r:Node}{ai va vw:Value}{as_ ws:List Pw}
attribute [local go_sem] Oper.semAt_some
def qg1 (l:List Pw):List Value:=l.map fun p=>.int .i64 p.x.num
theorem qnm(h:TwAt w nodes bt r ai vw va ws as_)(hm:m∈nodes):
  Calls prog 107 #[.pointer (some ⟨bt,0,none⟩),nptr m.blk] w fun e w'=>∃v',e=.returned v'/\w'.ownsRow 0 3 1 v' (qba ws m.blk).length (qg1 (qba ws m.blk))/\Below w.heap.size w w'/\(∀b,v'.ownBlock=some b->w.heap.size<=b):=by
 have bu:∀k:Nat,Fence.wide.depth.isSome=true->1<=k:=fun k h=>by simp[Fence.wide]at h
 have cC:=h.bk.at_.lt;have oa:=h.bk.len;have e8:=fun W (hW:Below w.heap.size w W)=>qph (w:=W) (h.below hW).ins ((h.below hW).bk.at_.cell 2) ⟨(h.below hW).bk.wrow,fun p hp=>(h.below hW).bk.works p (xr9 _ hp)⟩ (by omega) (fun p hp=>by obtain⟨n,h1,h2,_⟩:=h.lf p (xr9 _ hp);exact⟨n,h1,h2⟩) hm
 have jN:=fun (T:Nat->Prop) (hT:∀b,T b->w.heap.size<=b)=>(⟨fun n hn=>⟨fun e=>by have:=(h.ins n hn).lt;have:=hT _ e;omega,fun g hg e=>by have:=((h.ins n hn).row.lt g hg).2;have:=hT _ e;omega⟩,fun e=>by have:=hT _ e;omega,fun b hb e=>by have:=qar h.bk.wrow hb;have:=hT _ e;omega,fun p hp e=>by have:=(h.bk.works p (xr9 _ hp)).lt;have:=hT _ e;omega⟩:(∀n∈nodes,¬T n.blk/\∀g,n.sl.ownBlock=some g->¬T g)/\¬T bt/\(∀b,vw.ownBlock=some b->¬T b)/\(∀p∈ws,¬T p.blk))
 have cm:∀p∈qba ws m.blk,p∈ws:=fun p hp=>(xrr.1 hp).1
 have Ck:(qba ws m.blk).length<=24:=Nat.le_trans (xrh _ _) (by omega);have dL:∀W,Below w.heap.size w W->∀p∈ws,W.cell? ⟨p.blk,0,none⟩=some (.int .i64 p.x.num):=fun W hW p hp=>((h.below hW).bk.works p (xr9 _ hp)).cell 0
 generalize qba ws m.blk=X at e8 cm Ck ⊢
 refine(xrv (n:=3)).1 ?_
 refine callsIn_of_wp_marks func107 rfl trivial ?_ rfl
 unfold nptr at e8 ⊢;simp only[ntmps107,List.size_toArray,List.length_cons,List.length_nil,Nat.reduceAdd,Nat.reduceSub,Array.replicate_succ,Array.replicate_zero,List.push_toArray,List.append_toArray,List.nil_append,List.cons_append]
 gi_wp2_with ((first|refine⟨trivial,bu _,?_⟩|refine⟨trivial,?_⟩);gi_at_call 156;refine(xrv.2 (e8 _ (by exact bel1))).mono ?_;rintro e W3 ⟨rfl,rfl,aB⟩)
 obtain⟨W,hW⟩:∃W,W=(((w.alloc (.cells #[.slice none 0 0] 25)).alloc (.cells #[.pointer (some ⟨bt,1,none⟩)] 132)).alloc (.cells #[.pointer (some ⟨m.blk,0,none⟩)] 97)):=⟨_,rfl⟩;have df:W.heap.size=w.heap.size+3:=by rw[hW];simp
 have b_:Below w.heap.size w W:=by rw[hW];exact bel2
 have z1:Box W w.heap.size 25 (.slice none 0 0):=by rw[hW];exact((Box.new w 25 _).alloc _).alloc _
 simp only[xrt]at aB;simp only[<-hW]at aB ⊢;have hq:SeqM prog 198 #[.pointer (some ⟨w.heap.size+1,0,none⟩),.pointer (some ⟨w.heap.size+1+1,0,none⟩)] (fun p:Pw=>#[.pointer (some ⟨p.blk,0,none⟩)]) (fun _=>False) 0 (fun b=>b=w.heap.size) X W:=qts (fun B l0 h1 h2=>by
  obtain⟨o1,o2,o3,o4⟩:=jN (fun b=>b=w.heap.size\/b=l0\/B<=b) (fun b e=>by omega)
  exact aB _ o1 o2 o3 o4 (by omega) (by omega))
 clear aB e8 hW jN;have aA:∀b,b<W.heap.size->¬(False\/(W.heap.size<=b/\b<W.heap.size+2+0)):=fun b hb e=>by rcases e with e|e;exact e;omega
 refine qhq (T:=fun b=>b=w.heap.size) (S:=fun _=>False) rfl (enters_of func198 (by kernel_rfl) rfl) hq (Below.refl _ _) (fun _=>rfl) (fun b e=>e.elim) (fun b e=>by omega)
  (fun (pre:List Pw) A=>(∃v,A.ownsRow 0 3 1 v pre.length (qg1 pre)/\Box A w.heap.size 25 v/\(∀b,v.ownBlock=some b->W.heap.size+2+0<=b))/\Below w.heap.size w A)
  (fun c (pre:List Pw) A=>False)
  (fun pre A B hs hk=>by
   obtain⟨⟨v,g1,g2,g3⟩,g4⟩:=hs
   exact⟨⟨v,qae g1 hk (fun b hb e=>by have:=g3 b hb;rcases e with e|e;exact e;omega),g2.keep hk (aA _ (by omega)),g3⟩,g4.trans (hk.toBelow g4.size (fun b bg=>aA b (by omega)))⟩)
  (fun c pre A B hs hk=>hs)
  ⟨⟨_,⟨rfl,.inl ⟨rfl,rfl⟩⟩,z1,by simp[Value.ownBlock]⟩,b_⟩
  (fun x=>{tmps:=#[.pointer (some ⟨bt,0,none⟩),.pointer (some ⟨m.blk,0,none⟩),undef,undef,.slice none 0 0,.pointer (some ⟨w.heap.size,0,none⟩),.pointer (some ⟨x.blk,0,none⟩),.pointer (some ⟨bt,0,none⟩),.pointer (some ⟨bt,0,none⟩),.pointer (some ⟨bt,1,none⟩),.pointer (some ⟨m.blk,0,none⟩),.func (.func 198) #[] #[.pointer (some ⟨w.heap.size+1,0,none⟩),.pointer (some ⟨w.heap.size+1+1,0,none⟩)],.pointer (some ⟨x.blk,0,none⟩),undef,undef,undef,undef,undef,undef,undef,undef],defers:=[]}) ?assign ?body ?done ?stop
 case assign =>
  intro l x W K hK
  gi_wp2
  exact hK
 case stop =>
  rintro c pre A ax hx hD
  exact hx.elim
 case body =>
  rintro l2 pre x W2 ⟨⟨v,g1,g2,g3⟩,g4⟩ eL ax
  have bZ:x∈ws:=cm x (ax.subset (by simp));have dR:pre.length<=24:=by have:=ax.length_le;simp at this;omega
  have c0:=g2.cell;have n0:=dL W2 g4 x bZ;have fW:∀W',Below W2.heap.size W2 W'->W'.cell? ⟨x.blk,0,none⟩=some (.int .i64 x.x.num):=fun W' aX=>dL W' (qac g4 aX) x bZ
  obtain⟨WA,vu⟩:∃WA,WA=(W2.alloc (.cells #[.int .i64 x.x.num] 3)).drew:=⟨_,rfl⟩;have nC:Below W2.heap.size W2 WA:=by rw[vu];exact bel2
  have ej:Blk WA W2.heap.size 3 #[.int .i64 x.x.num]:=by rw[vu];exact Blk.new W2 3 _
  have cA:=(g2.below nC g2.lt).cell;obtain⟨v1,w1,hr,g,cap,rfl,RA⟩:=qey un29 inf3 (by omega) WA v pre.length (qg1 pre) (qae (T:=fun _=>False) g1 (Keep.new nC) (fun _ _ e=>e)) W2.heap.size 1 1 (by omega) [.int .i64 x.x.num] rfl ej (fun u hu=>by simp at hu;subst hu;rfl) (by unfold maxLen;omega) (by omega);have b1:Box w1 w.heap.size 25 v:=(g2.below nC g2.lt).keep RA.keep (fun e=>by have:=g3 _ e;omega);have k1:=b1.cell;have f1:=b1.frozen;have n1:w1.cell? ⟨x.blk,0,none⟩=some (.int .i64 x.x.num):=by
   have sF:x.blk<WA.heap.size:=xrb _ _ (fW WA nC)
   refine(RA.keep.cell (p:=⟨x.blk,0,none⟩) sF (fun e=>?_)).trans (fW WA nC)
   have CE:x.blk<w.heap.size:=(h.bk.works x (xr9 _ bZ)).lt
   have:=g3 x.blk e
   omega
  have aI:Keep (fun b=>b=w.heap.size\/W.heap.size+2+0<=b) W2 (w1.setCell ⟨w.heap.size,0,none⟩ (.slice (some ⟨g,0,none⟩) (pre.length+1) cap))/\((∃v',(w1.setCell ⟨w.heap.size,0,none⟩ (.slice (some ⟨g,0,none⟩) (pre.length+1) cap)).ownsRow 0 3 1 v' (pre++[x]).length (qg1 (pre++[x]))/\Box (w1.setCell ⟨w.heap.size,0,none⟩ (.slice (some ⟨g,0,none⟩) (pre.length+1) cap)) w.heap.size 25 v'/\(∀b,v'.ownBlock=some b->W.heap.size+2+0<=b))/\Below w.heap.size w (w1.setCell ⟨w.heap.size,0,none⟩ (.slice (some ⟨g,0,none⟩) (pre.length+1) cap))):=by
   have hz:=nC.size;have bK:W.heap.size+2+0<=g:=by
    rcases RA.new with e|e
    ·exact g3 _ e
    ·omega
   have hK:Keep (fun b=>b=w.heap.size\/W.heap.size+2+0<=b) W2 w1:=(Keep.new nC).qbm RA.keep (fun b hb e=>.inr (g3 b e));have dJ:=hK.setCell (p:=⟨w.heap.size,0,none⟩) (.inl rfl) (.slice (some ⟨g,0,none⟩) (pre.length+1) cap)
   refine⟨dJ,⟨.slice (some ⟨g,0,none⟩) (pre.length+1) cap,?_,b1.set _,fun b hb=>?_⟩,g4.trans (dJ.toBelow g4.size (fun b hb e=>by omega))⟩
   ·have e:qg1 (pre++[x])=qg1 pre++[.int .i64 x.x.num]:=by simp[qg1]
    rw[e,show(pre++[x]).length=pre.length+1 by simp]
    exact xrl RA.own (by simp[Value.ownBlock];omega) _
   ·simp[Value.ownBlock]at hb;omega
  have dQ:(w1.setCell ⟨w.heap.size,0,none⟩ (.slice (some ⟨g,0,none⟩) (pre.length+1) cap)).cell? ⟨x.blk,0,none⟩=some (.int .i64 x.x.num):=by
   have CE:x.blk<w.heap.size:=(h.bk.works x (xr9 _ bZ)).lt
   exact(World.cell?_setCell_other _ _ _ _ (by intro e;injection e with e1;omega)).trans n1
  rw[vu]at hr cA;have HF:Hid (Keep (fun b=>b=w.heap.size\/W.heap.size+2+0<=b) W2 (w1.setCell ⟨w.heap.size,0,none⟩ (.slice (some ⟨g,0,none⟩) (pre.length+1) cap))/\((∃v',(w1.setCell ⟨w.heap.size,0,none⟩ (.slice (some ⟨g,0,none⟩) (pre.length+1) cap)).ownsRow 0 3 1 v' (pre++[x]).length (qg1 (pre++[x]))/\Box (w1.setCell ⟨w.heap.size,0,none⟩ (.slice (some ⟨g,0,none⟩) (pre.length+1) cap)) w.heap.size 25 v'/\(∀b,v'.ownBlock=some b->W.heap.size+2+0<=b))/\Below w.heap.size w (w1.setCell ⟨w.heap.size,0,none⟩ (.slice (some ⟨g,0,none⟩) (pre.length+1) cap)))):=aI;obtain⟨a0,cx,hv,_,_⟩:=qa7 g1;generalize hn:pre.length=n at hr hv dQ HF;clear hn aI RA ej nC hq g1 g3 b1;subst hv
  gi_upto_region 4 with fail
  refine qf7 ?_
  refine qdb (fun W'=>W'.cell? ⟨x.blk,0,none⟩=some (.int .i64 x.x.num)) (by kernel_rfl) (by kernel_rfl) (fW W2.drew (Below.refl _ _).drew) (fun hS=>?_)
  refine wpAnyH_take (i:=1) (v:=.pointer (some ⟨x.blk,0,none⟩)) rfl (by kernel_rfl) (by kernel_rfl) (by kernel_rfl) (fun _ _ _ h=>absurd h.1 (by intro e;cases e)) (Or.inl ⟨by rfl,?_⟩) hS ?_
  ·intro w' bz
   go_simp
  try simp only[xr5,xr3,xr4,Act.put,xr6,xr8,xr7]
  refine wpAnyH_take (i:=2) (v:=.pointer (some ⟨x.blk,0,none⟩)) rfl (by kernel_rfl) (by kernel_rfl) (by kernel_rfl) (fun _ _ _ h=>absurd h.1 (by intro e;cases e)) (Or.inl ⟨by rfl,?_⟩) hS ?_
  ·intro w' bz
   go_simp
  try simp only[xr5,xr3,xr4,Act.put,xr6,xr8,xr7]
  refine wpAnyH_take (i:=3) (v:=.pointer (some ⟨x.blk,0,none⟩)) rfl (by kernel_rfl) (by kernel_rfl) (by kernel_rfl) (fun _ _ _ h=>absurd h.1 (by intro e;cases e)) (Or.inl ⟨by rfl,?_⟩) hS ?_
  ·intro w' bz
   go_simp
  try simp only[xr5,xr3,xr4,Act.put,xr6,xr8,xr7]
  refine wpAnyH_take (i:=4) (v:=.int .i64 x.x.num) rfl (by kernel_rfl) (by kernel_rfl) (by kernel_rfl) (fun _ _ _ h=>absurd h.1 (by intro e;cases e)) (Or.inl ⟨by rfl,?_⟩) hS ?_
  ·intro w' bz
   go_simp
  try simp only[xr5,xr3,xr4,Act.put,xr6,xr8,xr7]
  refine wpAnyH_ready (rs:=[0,5]) (by kernel_rfl) (by simp) ?_
  refine AllReadyH.cons rfl (fun K' hK=>?_) (AllReadyH.cons rfl (fun K' hK=>?_) AllReadyH.nil)
  ·rw[if_pos (by rfl)]
   try simp only[xr5,xr3,xr4]
   go_simp
   refine hK.out _ _ (fW W2.drew (Below.refl _ _).drew) (fun hS=>?_)
   clear hK
   try simp only[xr5,xr3,xr4,Act.put,xr6,xr8,xr7]
   refine wpAnyH_ready (rs:=[5]) (by kernel_rfl) (by simp) ?_
   refine AllReadyH.cons rfl (fun K' hK=>?_) AllReadyH.nil
   rw[if_pos (by rfl)]
   try simp only[xr5,xr3,xr4]
   go_simp
   refine hK.out _ _ (fW _ (by exact bel2)) (fun hS=>?_)
   clear hK
   try simp only[xr5,xr3,xr4,Act.put,xr6,xr8,xr7]
   refine wpAnyH_ready (rs:=[6]) (by kernel_rfl) (by simp) ?_
   refine AllReadyH.cons rfl (fun K' hK=>?_) AllReadyH.nil
   refine qa8 (R:=fun v' w'=>v'=.slice (some ⟨g,0,none⟩) (n+1) cap/\w'=w1) rfl (.tmp 13) (.tmp 18) 25 25 rfl (.slice a0 n cx) (.slice (some ⟨W2.heap.size,0,none⟩) 1 1) rfl rfl ⟨_,_,hr,rfl,rfl⟩ ?_
   rintro v' w' ⟨rfl,rfl⟩
   refine hK.out _ _ n1 (fun hS=>?_)
   clear hK
   try simp only[xr5,xr3,xr4,Act.put,xr6,xr8,xr7]
   refine wpAnyH_ready (rs:=[7]) (by kernel_rfl) (by simp) ?_
   refine AllReadyH.cons rfl (fun K' hK=>?_) AllReadyH.nil
   rw[if_pos (by rfl)]
   try simp only[xr5,xr3,xr4]
   go_simp
   refine hK.out _ _ dQ (fun hS=>?_)
   clear hK
   refine wpAnyH_done (by kernel_rfl) ⟨rfl,?_⟩ _
   exact HF.out
  ·rw[if_pos (by rfl)]
   try simp only[xr5,xr3,xr4]
   go_simp
   refine hK.out _ _ (fW _ (by exact bel2)) (fun hS=>?_)
   clear hK
   try simp only[xr5,xr3,xr4,Act.put,xr6,xr8,xr7]
   refine wpAnyH_ready (rs:=[0]) (by kernel_rfl) (by simp) ?_
   refine AllReadyH.cons rfl (fun K' hK=>?_) AllReadyH.nil
   rw[if_pos (by rfl)]
   try simp only[xr5,xr3,xr4]
   go_simp
   refine hK.out _ _ (fW _ (by exact bel2)) (fun hS=>?_)
   clear hK
   try simp only[xr5,xr3,xr4,Act.put,xr6,xr8,xr7]
   refine wpAnyH_ready (rs:=[6]) (by kernel_rfl) (by simp) ?_
   refine AllReadyH.cons rfl (fun K' hK=>?_) AllReadyH.nil
   refine qa8 (R:=fun v' w'=>v'=.slice (some ⟨g,0,none⟩) (n+1) cap/\w'=w1) rfl (.tmp 13) (.tmp 18) 25 25 rfl (.slice a0 n cx) (.slice (some ⟨W2.heap.size,0,none⟩) 1 1) rfl rfl ⟨_,_,hr,rfl,rfl⟩ ?_
   rintro v' w' ⟨rfl,rfl⟩
   refine hK.out _ _ n1 (fun hS=>?_)
   clear hK
   try simp only[xr5,xr3,xr4,Act.put,xr6,xr8,xr7]
   refine wpAnyH_ready (rs:=[7]) (by kernel_rfl) (by simp) ?_
   refine AllReadyH.cons rfl (fun K' hK=>?_) AllReadyH.nil
   rw[if_pos (by rfl)]
   try simp only[xr5,xr3,xr4]
   go_simp
   refine hK.out _ _ dQ (fun hS=>?_)
   clear hK
   refine wpAnyH_done (by kernel_rfl) ⟨rfl,?_⟩ _
   exact HF.out
 case done =>
  rintro A ⟨⟨v,g1,g2,g3⟩,g4⟩ hD
  have c0:=g2.cell
  gi_wp2_with fail
  refine⟨by simp,.inl ⟨_,_,rfl,run_takeDeferred hD,?_⟩⟩
  have hk:Keep (fun b=>b=W.heap.size) A (A.putObj W.heap.size (.deferred none)):=(Keep.refl (fun b=>b=W.heap.size) _).putObj rfl _
  exact⟨v,by simp[results,results107,go_sem],v,rfl,qae g1 hk (fun b hb e=>by have:=g3 b hb;omega),g4.trans (hk.toBelow g4.size (fun b hb e=>by omega)),fun b hb=>by have:=g3 b hb;omega⟩
end
section
open Go.RowKit
variable {W w:World}{nodes:List Node}{bt:Nat}{n r:Node}{ai va vw:Value}{as_ ws:List Pw}
def qq6 (p:Bs)(leaf:Bool)(a b c d e f:Int)(v:Value):Array Value:=#[.string (sb p),.bool leaf,.int .i64 a,.int .i64 b,.int .i64 c,.int .i64 d,.int .i64 e,.int .i64 f,v]
theorem TwAt.pws(h:TwAt W nodes bt r ai vw va ws as_):qid W nodes va as_ :=
 ⟨h.bk.arow,fun p hp=>h.bk.works p (xra _ hp),fun p hp=>h.lf p (xra _ hp),fun p hp=>h.nm p (xra _ hp),by have:=h.bk.len;omega⟩
theorem qrh(T0:Tree nodes)(hB:qa2 nodes)(h:TwAt w nodes bt r ai vw va ws as_)(hn:n∈nodes):
  Calls prog 64 #[.pointer (some ⟨bt,0,none⟩),nptr n.blk] w fun e w'=>∃v',e=.returned (.agg (qq6 (qaa n.key) n.leaf (pn0 nodes n.key) (pn1 nodes n.key) n.b0 n.b1 (ws0 (pun as_ n.key)) (ws1 (pun as_ n.key)) v'))/\w'.ownsRow 0 3 1 v' (qba ws n.blk).length (qg1 (qba ws n.blk))/\Below w.heap.size w w'/\(∀b,v'.ownBlock=some b->w.heap.size<b):=by
 have cC:=h.bk.at_.lt;have lS:=fun W (hW:Below w.heap.size w W)=>qil T0 n.key.length n hn rfl W (h.below hW).ins
 have qz:=fun W (hW:Below w.heap.size w W)=>qgy n.blk n.leaf W (((h.below hW).ins n hn).cell rfl)
 have yw:=fun W (hW:Below w.heap.size w W)=>qcy T0 hn W (h.below hW).ins
 have yy:=fun W (hW:Below w.heap.size w W)=>qj7 n.blk n.b0 n.b1 W (((h.below hW).ins n hn).cell rfl) (((h.below hW).ins n hn).cell rfl)
 have q7:=fun W (hW:Below w.heap.size w W)=>qhv T0 hB W (h.below hW).ins bt ((h.below hW).bk.at_.cell 3) (h.below hW).pws hn
 have q9:=fun W (hW:Below w.heap.size w W)=>qnm (h.below hW) hn
 unfold qq6;generalize pn0 nodes n.key=s0 at *;generalize pn1 nodes n.key=s1 at *;generalize ws0 (pun as_ n.key)=u0 at *;generalize ws1 (pun as_ n.key)=u1 at *;generalize sb (qaa n.key)=iM at *;generalize (qba ws n.blk).length=wl at *;generalize qg1 (qba ws n.blk)=wn at *;unfold nptr at *
 go_enter func64,ntmps64
 have An:Blk (w.alloc (.cells #[.string ⟨#[]⟩,.bool false,.int .i64 0,.int .i64 0,.int .i64 0,.int .i64 0,.int .i64 0,.int .i64 0,.slice none 0 0] 37)).drew w.heap.size 37 #[.string ⟨#[]⟩,.bool false,.int .i64 0,.int .i64 0,.int .i64 0,.int .i64 0,.int .i64 0,.int .i64 0,.slice none 0 0]:=Blk.new w 37 _
 go_upto_region 1 with fail
 go_region_held3 (fun _=>True) (exact trivial)
  (first
   |(go_at_call 47;refine(lS _ ?_).mono ?_;(focus exact bel2);rintro e w1 ⟨rfl,aa⟩;have au:Below w.heap.size w w1:=qac (by exact bel2) aa)
   |(go_at_call 105;refine(qz _ au).mono ?_;rintro e w2 ⟨rfl,eG⟩;subst eG)
   |(go_at_call 85;refine(yw _ au).mono ?_;rintro e w3 ⟨rfl,aM⟩;have bE:Below w.heap.size w w3:=qac au aM)
   |(go_at_call 86;refine(yy _ bE).mono ?_;rintro e w4 ⟨rfl,bm⟩;have dO:Below w.heap.size w w4:=qac bE bm)
   |(go_at_call 106;refine(q7 _ dO).mono ?_;rintro e w5 ⟨rfl,bO⟩;have dC:Below w.heap.size w w5:=qac dO bO)
   |(go_at_call 107;refine(q9 _ dC).mono ?_;rintro e w6 ⟨v6,rfl,zq,jB,zx⟩;have my:Below w.heap.size w w6:=qac dC jB;obtain⟨a6,c6,sz,_,_⟩:=qa7 zq;subst sz;have iS:Blk w6 w.heap.size 37 #[.string ⟨#[]⟩,.bool false,.int .i64 0,.int .i64 0,.int .i64 0,.int .i64 0,.int .i64 0,.int .i64 0,.slice none 0 0]:=((((An.below aa (by simp)).below aM (by have:=aa.size;simp at this;omega)).below bm (by have:=aa.size;have:=aM.size;simp at *;omega)).below bO (by have:=aa.size;have:=aM.size;have:=bm.size;simp at *;omega)).below jB (by have:=aa.size;have:=aM.size;have:=bm.size;have:=bO.size;simp at *;omega);have bj:=iS.cell;have eh:=iS.frozen;clear lS qz yw yy q7 q9))
 go_wp2_with fail
 have aI:=(((((((((iS.set 0 (.string iM)).set 1 (.bool n.leaf)).set 2 (.int .i64 s0)).set 3 (.int .i64 s1)).set 4 (.int .i64 n.b0)).set 5 (.int .i64 n.b1)).set 6 (.int .i64 u0)).set 7 (.int .i64 u1)).set 8 (.slice a6 wl c6));have hc:=aI.cell;have hk:=(((((((((Keep.refl (fun b=>b=w.heap.size) w6).setCell (p:=⟨w.heap.size,0,none⟩) rfl (.string iM)).setCell (p:=⟨w.heap.size,1,none⟩) rfl (.bool n.leaf)).setCell (p:=⟨w.heap.size,2,none⟩) rfl (.int .i64 s0)).setCell (p:=⟨w.heap.size,3,none⟩) rfl (.int .i64 s1)).setCell (p:=⟨w.heap.size,4,none⟩) rfl (.int .i64 n.b0)).setCell (p:=⟨w.heap.size,5,none⟩) rfl (.int .i64 n.b1)).setCell (p:=⟨w.heap.size,6,none⟩) rfl (.int .i64 u0)).setCell (p:=⟨w.heap.size,7,none⟩) rfl (.int .i64 u1)).setCell (p:=⟨w.heap.size,8,none⟩) rfl (.slice a6 wl c6);have an:w.heap.size<w5.heap.size:=by have:=aa.size;have:=aM.size;have:=bm.size;have:=bO.size;simp at *;omega
 clear bj eh
 exact xrn (v:=.agg #[.string iM,.bool n.leaf,.int .i64 s0,.int .i64 s1,.int .i64 n.b0,.int .i64 n.b1,.int .i64 u0,.int .i64 u1,.slice a6 wl c6]) (by simp[results,results64,go_sem,hc]) rfl ⟨_,rfl,qae zq hk (fun b hb e=>by have:=zx b hb;omega),my.trans (hk.toBelow my.size (fun b hb e=>by omega)),fun b hb=>by have:=zx b hb;omega⟩
end
end Go.Proofs.YtphclnolomgjoaaGreatDoor
