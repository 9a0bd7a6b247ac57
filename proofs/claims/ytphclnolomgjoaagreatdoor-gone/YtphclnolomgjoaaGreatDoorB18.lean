import Derived.Test.YtphclnolomgjoaaGreatDoorB17
set_option linter.unusedVariables false
set_option linter.unusedSimpArgs false
set_option maxRecDepth 100000
set_option maxHeartbeats 4000000
namespace Go.Proofs.YtphclnolomgjoaaGreatDoor
open Tryz
section
open Go.RowKit Go.Shelf
variable {P:Program}{s0:SS}
attribute [local go_sem] Oper.semAt_some
section
variable {w:World}{nodes:List Node}{rr bt:Nat}{r:Node}{ai vw va ev:Value}{ws as_:List Pw}{evs:List (Int×Int)}
theorem qf7{F:Fence}{n:Nat}{c:Code}{Q:Exit->Act->World->Prop}{a:Act}{w:World}(h:c.wpIn F n P (Exit.then (fun a w=>Q .normal a w) (fun _ _ _=>False)) a w):c.wpIn F n P Q a w :=
 wpIn_mono h (fun e a w hq=>by cases e with|normal=>exact hq|_=>exact hq.elim)
theorem qvv(f:Value)(hf:∃a b c,f=.func a b c)(w:World):Calls prog 175 #[f] w fun e w'=>e=.returned (.pointer (some ⟨w.heap.size,0,none⟩))/\w'=w.alloc (.cells #[f,.slice none 0 0] 254):=by
 obtain⟨a,b,c,rfl⟩:=hf
 go_enter func175,ntmps175
 go_wp2_with fail
 go_ret
 exact⟨rfl,rfl⟩
theorem qlm(T0:Tree nodes)(hB:qa1 nodes){ch:Node->List Node}(K0:Kids nodes ch)(h:LdAt w nodes rr bt r ai vw va ev ws as_ evs)(hr:r∈nodes)(a_:r.key=[])(R:Rel nodes s0.Ws ws as_)(I:SInv s0)(ej:s0.evs=evs)(a9:evs.length<=1000)(k0:Nat)(fm:qi4 s0.Ws<=k0)(cf:k0<=100):
  Calls prog 131 #[.pointer (some ⟨rr,0,none⟩)] w fun e w'=>e=.returned (.tuple #[])/\∃aI aO bC an aL,LdAt w' nodes rr bt r ai aI aO bC an aL (qbf (qat (nodes.map Node.ent)) k0 s0).evs/\Rel nodes (qbf (qat (nodes.map Node.ent)) k0 s0).Ws an aL/\qcb rr bt w w' vw va ev aI aO bC/\(∀p∈an++aL,p∈ws++as_):=by
 generalize aF:qbf (qat (nodes.map Node.ent)) k0 s0=aT;have dY:Hid (qbf (qat (nodes.map Node.ent)) k0 s0=aT):=aF;clear aF;have bz:∀k:Nat,Fence.wide.depth.isSome=true->1<=k:=fun k h=>by simp[Fence.wide]at h
 have rN:=qvv (.func (.func 176) #[] #[]) ⟨_,_,_,rfl⟩
 refine(xrv (n:=3)).1 ?_
 refine callsIn_of_wp_marks func131 rfl trivial ?_ rfl
 simp only[ntmps131,List.size_toArray,List.length_cons,List.length_nil,Nat.reduceAdd,Nat.reduceSub,Array.replicate_succ,Array.replicate_zero,List.push_toArray,List.append_toArray,List.nil_append,List.cons_append];have iX:=fun W (hW:Below w.heap.size w W)=>qmk T0 K0 (h.below hW).rw_ hr
 unfold nptr at iX;obtain⟨W0,bg⟩:∃W0,W0=((w.alloc (.cells #[.pointer (some ⟨rr,0,none⟩)] 186)).alloc (.cells #[.func (.func 176) #[] #[],.slice none 0 0] 254)).alloc (.cells #[.pointer (some ⟨w.heap.size+1,0,none⟩)] 223):=⟨_,rfl⟩;have bj:Below w.heap.size w W0:=by rw[bg];exact bel2
 have dw:W0.heap.size=w.heap.size+3:=by rw[bg];simp
 have x1:Box W0 w.heap.size 186 (.pointer (some ⟨rr,0,none⟩)):=by rw[bg];exact((Box.new w 186 _).alloc _).alloc _
 have mG:HqAt W0 (w.heap.size+1) (.func (.func 176) #[] #[]) (.slice none 0 0) []:=by
  refine⟨?_,⟨rfl,.inl ⟨rfl,rfl⟩⟩,by simp[Value.ownBlock]⟩
  have:=(Blk.new (w.alloc (.cells #[.pointer (some ⟨rr,0,none⟩)] 186)) 254 #[.func (.func 176) #[] #[],.slice none 0 0]).alloc (.cells #[.pointer (some ⟨w.heap.size+1,0,none⟩)] 223)
  rw[xrt]at this;rw[bg];exact this
 have x3:Box W0 (w.heap.size+1+1) 223 (.pointer (some ⟨w.heap.size+1,0,none⟩)):=by
  have:=Box.new ((w.alloc (.cells #[.pointer (some ⟨rr,0,none⟩)] 186)).alloc (.cells #[.func (.func 176) #[] #[],.slice none 0 0] 254)) 223 (.pointer (some ⟨w.heap.size+1,0,none⟩))
  rw[xrt,xrt]at this;rw[bg];exact this
 have c1:=x1.cell;rw[bg]at c1
 gi_wp2_with (first
  |((first|refine⟨trivial,bz _,?_⟩|refine⟨trivial,?_⟩);gi_at_call 175;refine(xrv.2 (rN _)).mono ?_;rintro e W3 ⟨rfl,rfl⟩)
  |((first|refine⟨trivial,bz _,?_⟩|refine⟨trivial,?_⟩);gi_at_call 169;refine(xrv.2 (iX _ (by exact bel1))).mono ?_;rintro e W3 ⟨rfl,rfl,aB⟩))
 obtain⟨W,hW⟩:∃W,W=W0.alloc (.cells #[.pointer (some ⟨rr,0,none⟩)] 186):=⟨_,rfl⟩;have cY:W.heap.size=w.heap.size+4:=by rw[hW];simp[dw]
 have au:Below W0.heap.size W0 W:=by rw[hW];exact bel2
 have bZ:Below w.heap.size w W:=qab bj au;have z1:=x1.below au x1.lt;have z3:=x3.below au x3.lt;have mH:=mG.below au;simp only[xrt]at aB;simp only[<-bg,<- hW]at aB ⊢;have hq:=aB (fun b=>b=w.heap.size+1) (fun b e=>by omega) (h.lt (fun b e=>by omega)).rw_;have ie:(qas ws (dfs ch 4 r)).length<=20:=Nat.le_trans (qkb ws (dfs ch 4 r)) (qo5 T0 K0 hr);have cm:∀p∈qas ws (dfs ch 4 r),p∈ws++as_:=fun p hp=>xr9 _ (qkc hp)
 have lC:=qgq T0 K0 hr a_;generalize dfs ch 4 r=DX at hq ie cm lC;have aG:∀ys:List Ak,ys.Perm ((qas ws DX).map fun p=>⟨p,qdg nodes as_ p.x⟩)->qca (nodes.map Node.ent) s0.Ws (ys.map akx):=fun ys gz=>R.qyv T0 hB I.wks lC gz
 generalize qas ws DX=X at hq ie cm aG;clear aB iX hW bg c1 x1 x3 mG rN;have ay:∀b,b<W.heap.size->¬(False\/(W.heap.size<=b/\b<W.heap.size+2+4)):=fun b hb e=>by rcases e with e|e;exact e;omega
 refine qhm (T:=fun b=>b=w.heap.size+1) (S:=fun _=>False) rfl (enters_of func206 (by kernel_rfl) rfl) hq (Below.refl _ _) (fun _=>rfl) (fun b e=>e.elim) (fun b e=>by omega)
  (fun (pre:List Pw) A=>(∃v ys,HqAt A (w.heap.size+1) (.func (.func 176) #[] #[]) v ys/\qb2 ltA ys/\ys.Perm (pre.map fun p=>⟨p,qdg nodes as_ p.x⟩)/\(∀b,v.ownBlock=some b->W.heap.size+2+4<=b))/\Box A w.heap.size 186 (.pointer (some ⟨rr,0,none⟩))/\Box A (w.heap.size+1+1) 223 (.pointer (some ⟨w.heap.size+1,0,none⟩))/\Below w.heap.size w A)
  (fun c (pre:List Pw) A=>False)
  (fun pre A B hs hk=>by
   obtain⟨⟨v,ys,g1,g2,g3,g4⟩,g5,g6,g7⟩:=hs
   exact⟨⟨v,ys,g1.keep hk (ay _ (by omega)) (fun b hb e=>by have:=g4 b hb;rcases e with e|e;exact e;omega),g2,g3,g4⟩,g5.keep hk (ay _ (by omega)),g6.keep hk (ay _ (by omega)),g7.trans (hk.toBelow g7.size (fun b bh=>ay b (by omega)))⟩)
  (fun c pre A B hs hk=>hs)
  ⟨⟨_,[],mH,fun j a b hj ha=>by simp at ha,by simp,by simp[Value.ownBlock]⟩,z1,z3,bZ⟩
  (fun x=>{tmps:=#[.pointer (some ⟨rr,0,none⟩),.pointer (some ⟨w.heap.size,0,none⟩),.pointer (some ⟨w.heap.size+1+1,0,none⟩),.pointer (some ⟨x.blk,0,none⟩),undef,undef,undef,.pointer (some ⟨w.heap.size+1,0,none⟩),.pointer (some ⟨rr,0,none⟩),.func (.func 206) #[] #[.pointer (some ⟨w.heap.size+1+1+1,0,none⟩)],.pointer (some ⟨x.blk,0,none⟩),undef,undef,undef,undef,undef,undef,undef,undef,undef,undef,undef,undef,undef,undef,undef,undef,undef,undef,undef,undef,undef,undef,undef,undef,undef,undef,undef,undef,undef,undef,undef,undef,undef,undef,undef,undef,undef,undef,undef,undef,undef,undef,undef],defers:=[]}) ?assign ?body ?done ?stop
 case assign =>
  intro l x W K hK
  gi_wp2
  exact hK
 case stop =>
  rintro c pre A ax hx hD
  exact hx.elim
 case body =>
  rintro l2 pre x W2 ⟨⟨v,ys,g1,g2,g3,g4⟩,g5,g6,g7⟩ eO ax
  have oc:ys.length<=50:=by
   have:=g3.length_eq
   have h2:=ax.length_le
   simp at this h2
   omega
  have sG:x∈ws++as_:=cm x (ax.subset (by simp));have gI:=fun W' (aX:Below w.heap.size w W')=>qj2 T0 hB (h.below aX).rd hr a_ (h.below aX).cells.1 ((h.below aX).pin sG)
  have jS:=fun W' (aX:Below W2.heap.size W2 W')=>qtq qi3 (g1.below aX) oc g2 ⟨x,qdg nodes as_ x.x⟩ ((h.below (qab g7 aX)).befq (h.lt (fun b e=>by
   rcases e with e|e
   ·omega
   ·have:=g4 b e;omega)) (fun p hp=>by
    rcases xri.1 hp with e|e
    ·obtain⟨p',ml,rfl⟩:=xrq.1 (g3.mem_iff.1 e)
     exact cm p' (ax.subset (xr9 _ ml))
    ·simp at e;subst e;exact sG))
  have c1:=g5.cell;have c2:=g6.cell;have HY:Hid (ys.Perm (pre.map fun p=>⟨p,qdg nodes as_ p.x⟩)):=g3;have fV:∀W',Below W2.heap.size W2 W'->W'.cell? ⟨w.heap.size,0,none⟩=some (.pointer (some ⟨rr,0,none⟩))/\W'.cell? ⟨w.heap.size+1+1,0,none⟩=some (.pointer (some ⟨w.heap.size+1,0,none⟩)):=fun W' aX=>⟨(g5.below aX g5.lt).cell,(g6.below aX g6.lt).cell⟩
  have bX:∀ {W':World},Keep (fun y=>y=w.heap.size+1\/v.ownBlock=some y) W2 W'->W'.cell? ⟨w.heap.size,0,none⟩=some (.pointer (some ⟨rr,0,none⟩))/\W'.cell? ⟨w.heap.size+1+1,0,none⟩=some (.pointer (some ⟨w.heap.size+1,0,none⟩))/\Box W' w.heap.size 186 (.pointer (some ⟨rr,0,none⟩))/\Box W' (w.heap.size+1+1) 223 (.pointer (some ⟨w.heap.size+1,0,none⟩)):=fun {W'} hk=>by
   have q1:=g5.keep hk (g1.qed g5 (by decide) (by decide));have q2:=g6.keep hk (g1.qed g6 (by decide) (by decide))
   exact⟨q1.cell,q2.cell,q1,q2⟩
  generalize n_:qdg nodes as_ x.x=sx at gI jS;have Ah:Hid (qdg nodes as_ x.x=sx):=n_;clear n_;clear g3 hq aG;unfold akv nptr at gI jS
  gi_upto_region 4 with fail
  refine qf7 ?_
  refine qc8 (fun W'=>W'.cell? ⟨w.heap.size,0,none⟩=some (.pointer (some ⟨rr,0,none⟩))/\W'.cell? ⟨w.heap.size+1+1,0,none⟩=some (.pointer (some ⟨w.heap.size+1,0,none⟩))) (by kernel_rfl) (by kernel_rfl) (fV W2.drew (Below.refl _ _).drew) (fun hS=>?_)
  refine wpAnyH_take (i:=0) (v:=.pointer (some ⟨w.heap.size+1,0,none⟩)) rfl (by kernel_rfl) (by kernel_rfl) (by kernel_rfl) (fun _ _ _ h=>absurd h.1 (by intro e;cases e)) (Or.inl ⟨by rfl,?_⟩) hS ?_
  ·intro w' b8;obtain⟨s1,s2⟩:=b8
   go_simp
  try simp only[xr5,xr3,xr4,Act.put,xr6,xr8,xr7]
  refine wpAnyH_take (i:=1) (v:=.pointer (some ⟨rr,0,none⟩)) rfl (by kernel_rfl) (by kernel_rfl) (by kernel_rfl) (fun _ _ _ h=>absurd h.1 (by intro e;cases e)) (Or.inl ⟨by rfl,?_⟩) hS ?_
  ·intro w' b8;obtain⟨s1,s2⟩:=b8
   go_simp
  try simp only[xr5,xr3,xr4,Act.put,xr6,xr8,xr7]
  refine wpAnyH_take (i:=2) (v:=.pointer (some ⟨x.blk,0,none⟩)) rfl (by kernel_rfl) (by kernel_rfl) (by kernel_rfl) (fun _ _ _ h=>absurd h.1 (by intro e;cases e)) (Or.inl ⟨by rfl,?_⟩) hS ?_
  ·intro w' b8;obtain⟨s1,s2⟩:=b8
   go_simp
  try simp only[xr5,xr3,xr4,Act.put,xr6,xr8,xr7]
  refine wpAnyH_ready (rs:=[3]) (by kernel_rfl) (by simp) ?_
  refine AllReadyH.cons rfl (fun K' hK=>?_) AllReadyH.nil
  rw[if_pos (by rfl)]
  try simp only[xr5,xr3,xr4]
  go_simp
  refine(gI _ (qab g7 (by exact bel2))).mono ?_
  rintro e W3 ⟨rfl,aM⟩
  have bH:Below W2.heap.size W2 W3:=qab (show Below W2.heap.size W2 W2.drew by exact bel2) aM
  refine hK.out _ _ (fV _ bH) (fun hS=>?_)
  clear hK
  try simp only[xr5,xr3,xr4,Act.put,xr6,xr8,xr7]
  refine wpAnyH_ready (rs:=[4]) (by kernel_rfl) (by simp) ?_
  refine AllReadyH.cons rfl (fun K' hK=>?_) AllReadyH.nil
  rw[if_pos (by rfl)]
  try simp only[xr5,xr3,xr4]
  go_simp
  refine(jS _ bH).mono ?_
  rintro e W5 ⟨rfl,v',zs,y1,y2,y3,y4,y5⟩
  have gN:Keep (fun y=>y=w.heap.size+1\/v.ownBlock=some y) W2 W5:=(Keep.new bH).trans y4;obtain⟨q1,q2,q3,q4⟩:=bX gN
  refine hK.out _ _ ⟨q1,q2⟩ (fun hS=>?_)
  clear hK
  refine wpAnyH_done (by kernel_rfl) ⟨rfl,?_⟩ _
  clear jS gI bX fV
  refine show Keep (fun b=>b=w.heap.size+1\/W.heap.size+2+4<=b) W2 W5/\_ from⟨gN.mono (fun b e=>?_),⟨v',zs,y3,y2,?_,fun b hb=>?_⟩,q3,q4,g7.trans (gN.toBelow g7.size (fun b hb e=>?_))⟩
  ·rcases e with e|e
   ·exact .inl e
   ·exact .inr (g4 b e)
  ·rw[List.map_append];have e:[x].map (fun p=>(⟨p,qdg nodes as_ p.x⟩:Ak))=[⟨x,sx⟩]:=by rw[<-Ah.out];rfl
   rw[e]
   exact y1.trans (HY.out.append_right _)
  ·rcases y5 with e|⟨g,e1,e2⟩
   ·rw[e]at hb;exact g4 b hb
   ·rw[e1]at hb;cases hb;have:=bH.size;omega
  ·rcases e with e|e
   ·omega
   ·have:=g4 _ e;omega
 case done =>
  rintro A ⟨⟨v,ys,g1,g2,g3,g4⟩,g5,g6,g7⟩ hD
  have hO:=aG ys g3;have oc:ys.length<=20:=by
   have:=g3.length_eq
   simp at this
   omega
  have sI:∀p∈ys,p.p∈ws++as_:=fun p hp=>by
   obtain⟨p',ml,rfl⟩:=xrq.1 (g3.mem_iff.1 hp)
   exact cm p' ml
  have hA:=h.below g7;have ho:=h.lt (T:=fun y=>y=w.heap.size+1\/v.ownBlock=some y) (fun b e=>by
   rcases e with e|e
   ·omega
   ·have:=g4 b e;omega)
  have c1:=g5.cell;have c2:=g6.cell;have yG:GD nodes rr bt r ai w W.heap.size [] vw va ev ws as_ aT k0 A v ys vw va ev ws as_ s0:=⟨g1,g2,sI,by rw[ej];exact hA,R,I,dY.out.symm,fm,by rw[ej];omega,(qcb.refl _ _ _ _ _ _).below g7,ho,fun b hb=>by have:=g4 b hb;omega,fun _ e=>e,g5,g6,hD,fun x hx=>by simp at hx⟩;have jP:=yG.pop hO;generalize 2*k0+ys.length=q0 at jP;clear aG cm hq g3 dY yG hO g1 g2 g4 hA ho oc sI R I ej z1 z3 mH bZ hD fm cf a9
  gi_wp2_with ((first|refine⟨trivial,bz _,?_⟩|refine⟨trivial,?_⟩);gi_at_call 179;refine(xrv.2 jP).mono ?_;rintro e A1 ⟨lA,mV,zT,rfl,hG⟩)
  obtain⟨A2,lY⟩:∃A2,A2=A1.alloc (.cells #[.pointer lA,.int .i64 mV] 226):=⟨_,rfl⟩;have hF:H1 nodes rr bt r ai w W.heap.size [(A1.heap.size,#[.pointer lA,.int .i64 mV])] vw va ev ws as_ aT q0 lA mV zT A2:=by
   obtain⟨k,v1,ke,eU,fc,gC,ws1,fh,s1,hC,bR⟩:=hG
   exact⟨k,v1,ke,eU,fc,gC,ws1,fh,s1,hC.mark (by rw[lY];exact bel2) (by rw[lY];exact Blk.new _ _ _),bR⟩
  have p9:w.heap.size<=A1.heap.size:=by
   obtain⟨k,v1,ke,eU,fc,gC,ws1,fh,s1,hC,bR⟩:=hG
   have:=hC.b1.lt;omega
  simp only[<-lY];clear lY hG;generalize A1.heap.size=F0 at hF p9 ⊢
  gi_loopg [4,5] q0 (fun q v4 v5 wr=>∃F hp hi sb,v4=.pointer (some ⟨F,0,none⟩)/\v5=.bool sb/\w.heap.size<=F/\H1 nodes rr bt r ai w W.heap.size [(F,#[.pointer hp,.int .i64 hi])] vw va ev ws as_ aT q hp hi sb wr)
  case atStart=>exact⟨F0,lA,mV,zT,rfl,rfl,p9,hF⟩
  case round =>
   clear hF p9 jP c1 c2;obtain⟨F,hp,hi,sb,rfl,rfl,p9,k,v1,ke,eU,fc,gC,ws1,fh,s1,hC,bR⟩:=hrel
   rcases bR with ⟨rfl,nM⟩|⟨rfl,cT,a,rfl,rfl,ik,hO,cP⟩
   ·have qh:Hid (aT=s1):=nM;clear nM
    gi_wp2_with fail
    have hd:=hC.d;rw[cY]at hd
    refine⟨by simp,.inl ⟨_,_,rfl,run_takeDeferred hd,?_⟩⟩
    have rB:Keep (fun b=>b=w.heap.size+4) wr (wr.putObj (w.heap.size+4) (.deferred none)):=(Keep.refl (fun b=>b=w.heap.size+4) _).putObj rfl _
    refine⟨.tuple #[],by simp[results,results131,go_sem],rfl,eU,fc,gC,ws1,fh,?_,?_,⟨hC.st.keep.qbm rB (fun b hb e=>by omega),hC.st.new⟩,hC.sub⟩
    ·rw[qh.out];exact hC.ld.keep rB (hC.ld.outD hd)
    ·rw[qh.out];exact hC.rel
   ·have jH:=hC.fits T0 hB ik;have HQ:Hid (2*k+ke.length+1<=_):=cT;have bm:∀W',Below wr.heap.size wr W'->W'.cell? ⟨w.heap.size,0,none⟩=some (.pointer (some ⟨rr,0,none⟩))/\W'.cell? ⟨w.heap.size+1+1,0,none⟩=some (.pointer (some ⟨w.heap.size+1,0,none⟩))/\W'.cell? ⟨F,0,none⟩=some (.pointer (some ⟨a.p.blk,0,none⟩))/\W'.cell? ⟨F,1,none⟩=some (.int .i64 a.s):=fun W' aX=>⟨(hC.below aX).b1.cell,(hC.below aX).b3.cell,(hC.below aX).fblk.cell 0,(hC.below aX).fblk.cell 1⟩
    obtain⟨e1,e2,e3,e4⟩:=bm wr (Below.refl _ _)
    cases hfw:qbv (nodes.map Node.ent) s1.Ws a.p.x with
    |false =>
     rw[hfw]at jH;have AZ:=hO.drop hfw;have gx:=fun W' (aX:Below wr.heap.size wr W')=>(hC.below aX).popN AZ #[.pointer (some ⟨a.p.blk,0,none⟩),.int .i64 a.s]
     clear hO cP cT
     gi_wp2_with (first
      |((first|refine⟨trivial,bz _,?_⟩|refine⟨trivial,?_⟩);gi_at_call 180;refine(xrv.2 jH).mono ?_;rintro e w3 ⟨rfl,aM⟩;obtain⟨f1,f2,f3,f4⟩:=bm w3 aM;have w_:=gx w3 aM;have f5:=(bm (w3.alloc (.cells #[.pointer (some ⟨a.p.blk,0,none⟩),.int .i64 a.s] 226)) (aM.alloc aM.size _)).2.1)
      |((first|refine⟨trivial,bz _,?_⟩|refine⟨trivial,?_⟩);gi_at_call 179;refine(xrv.2 w_).mono ?_;rintro e A5 ⟨tR,pO,Dt,rfl,tD⟩;have bF:=tD.blk;have cF:=bF.cell;have gF:=bF.frozen))
     have AT:=tD.setF (vs':=#[.pointer tR,.int .i64 pO]) (((Keep.refl (fun b=>b=w3.heap.size) A5).setCell (p:=⟨w3.heap.size,0,none⟩) rfl (.pointer tR)).setCell (p:=⟨w3.heap.size,1,none⟩) rfl (.int .i64 pO)) (by have:=(bF.set 0 (.pointer tR)).set 1 (.int .i64 pO);simpa using this) (by have:=aM.size;have:=hC.b1.lt;omega)
     gi_roundg (2*k+ke.length)
     case measure=>have:=HQ.out;omega
     case rel=>exact⟨_,tR,pO,Dt,rfl,rfl,by have:=aM.size;have:=hC.b1.lt;omega,AT⟩
    |true =>
     rw[hfw]at jH;obtain⟨s',i,fD,re,yQ,tE,vn,k',rfl,ry,rL,qR⟩:=hC.q0d T0 ik hO hfw cP;obtain⟨n,hn,gv,bX⟩:=hC.ld.lf a.p ik;have qS:s1.evs.length<=10000:=by have:=hC.bd;omega
     have ec:=fun W' (aX:Below wr.heap.size wr W')=>(hC.below aX).ld.admit qS fD
     rw[<-bX]at vn;have eE:∀p∈(ws1.take i++ws1.drop (i+1))++(fh++[a.p]),p∈ws1++fh:=fun p hp=>by
      rcases xri.1 hp with h1|h1
      ·exact xr9 _ (qbl h1)
      ·rcases xri.1 h1 with h1|h1
       ·exact xra _ h1
       ·simp at h1;subst h1;exact xr9 _ (xr2 fD)
     have jb:∀p∈ws1++fh,p∈(ws1.take i++ws1.drop (i+1))++(fh++[a.p]):=fun p hp=>by
      rcases xri.1 hp with h1|h1
      ·rcases List.mem_cons.1 ((qce fD).mem_iff.1 h1) with rfl|h1
       ·simp
       ·exact xr9 _ h1
      ·exact xra _ (xr9 _ h1)
     have tP:∀W' tt ff fe ei,Below wr.heap.size wr W'->LdAt tt nodes rr bt r ai ff fe ei (ws1.take i++ws1.drop (i+1)) (fh++[a.p]) (s1.evs++[(1,a.p.x.num)])->qcb rr bt W' tt eU fc gC ff fe ei->GD nodes rr bt r ai w W.heap.size [(F,#[.pointer (some ⟨a.p.blk,0,none⟩),.int .i64 a.s])] vw va ev ws as_ aT k' tt v1 ke ff fe ei (ws1.take i++ws1.drop (i+1)) (fh++[a.p]) s':=fun W' tt ff fe ei aX hl cJ=>(hC.below aX).qoo (by rw[re];exact hl) cJ eE jb yQ tE ry rL qR
     have kL:a.p∈(ws1.take i++ws1.drop (i+1))++(fh++[a.p]):=by simp
     unfold nptr at ec;clear hO cP cT yQ tE ry rL qR eE jb qS re fD;generalize ws1.take i++ws1.drop (i+1)=gB at ec tP kL;generalize fh++[a.p]=jl at ec tP kL
     gi_upto_region 10 with (first
      |((first|refine⟨trivial,bz _,?_⟩|refine⟨trivial,?_⟩);gi_at_call 180;refine(xrv.2 jH).mono ?_;rintro e w3 ⟨rfl,aM⟩;obtain⟨f1,f2,f3,f4⟩:=bm w3 aM;have nJ:=ec w3 aM)
      |((first|refine⟨trivial,bz _,?_⟩|refine⟨trivial,?_⟩);gi_at_call 173;refine(xrv.2 nJ).mono ?_;rintro e w4 ⟨rfl,ff,fe,ei,n1,n2⟩;have mE:=tP _ _ _ _ _ aM n1 n2;clear nJ ec tP n1 n2))
     clear bm e1 e2 e3 e4 f1 f2 f3 f4 jH;have C2:w.heap.size<=w4.heap.size:=by have:=mE.b1.lt;omega
     have bm:∀ {k v ys} (W':World),GD nodes rr bt r ai w W.heap.size [(F,#[.pointer (some ⟨a.p.blk,0,none⟩),.int .i64 a.s])] vw va ev ws as_ aT k W' v ys ff fe ei gB jl s'->W'.cell? ⟨w.heap.size,0,none⟩=some (.pointer (some ⟨rr,0,none⟩))/\W'.cell? ⟨w.heap.size+1+1,0,none⟩=some (.pointer (some ⟨w.heap.size+1,0,none⟩))/\W'.cell? ⟨F,0,none⟩=some (.pointer (some ⟨a.p.blk,0,none⟩))/\W'.cell? ⟨F,1,none⟩=some (.int .i64 a.s)/\W'.cell? ⟨rr,1,none⟩=some (.pointer (some ⟨bt,1,none⟩))/\W'.cell? ⟨a.p.blk,1,none⟩=some (.pointer (some ⟨a.p.q,0,none⟩)):=fun W' hg=>⟨hg.b1.cell,hg.b3.cell,hg.fblk.cell 0,hg.fblk.cell 1,hg.ld.cells.2.1,(hg.ld.pin kL).cells.2.1⟩
     obtain⟨e1,e2,e3,e4,e5,e6⟩:=bm w4 mE;have fC:∀W',Below w4.heap.size w4 W'->Calls prog 174 #[.pointer (some ⟨bt,1,none⟩),.pointer (some ⟨a.p.q,0,none⟩)] W' fun e w'=>e=.returned (optP (qbw gB n.blk))/\Below W'.heap.size W' w':=fun W' aX=>by
      have:=(mE.below aX).ld.rw_.head hn
      rw[show a.p.q=n.blk from gv.symm];exact this
     have bf:∀W',Below w4.heap.size w4 W'->_:=fun W' aX=>bm W' (mE.below aX)
     generalize mj:optP (qbw gB n.blk)=ov at fC;have xY:Hid (optP (qbw gB n.blk)=ov):=mj;clear mj
     refine wpIn_wide.2 ?_
     go_region_held3 (fun w'=>w'.cell? ⟨w.heap.size,0,none⟩=some (.pointer (some ⟨rr,0,none⟩))/\w'.cell? ⟨F,0,none⟩=some (.pointer (some ⟨a.p.blk,0,none⟩))/\w'.cell? ⟨rr,1,none⟩=some (.pointer (some ⟨bt,1,none⟩))/\w'.cell? ⟨a.p.blk,1,none⟩=some (.pointer (some ⟨a.p.q,0,none⟩))) (go_keep)
      (first|(go_at_call 174;refine(fC _ ?_).mono ?_;(focus exact bel2);rintro e w5 ⟨rfl,bE⟩;have dE:Below w4.heap.size w4 w5:=qab (by exact bel2) bE;obtain⟨f1,f2,f3,f4,f5,f6⟩:=bf _ dE))
     have mF:=mE.below dE;clear fC bf mE e1 e2 e3 e4 e5 e6;have sC:w.heap.size<=w5.heap.size:=by have:=mF.b1.lt;omega
     have mP:∀W',Below w5.heap.size w5 W'->_:=fun W' aX=>bm W' (mF.below aX)
     have eZ:=fun W=>qet (W:=W)
     have kr:=fun W (p:Pw)=>qhh (W:=W) (x:=p)
     cases hhp:qbw gB n.blk with
     |none =>
      have xd:=mF.popN (mF.qzk T0 hB hn hhp vn) #[.pointer (some ⟨a.p.blk,0,none⟩),.int .i64 a.s];have f7:=(mP (w5.alloc (.cells #[.pointer (some ⟨a.p.blk,0,none⟩),.int .i64 a.s] 226)) (by exact bel2)).2.1;have zp:=eZ w5;have l8:ov=.pointer none:=by rw[<-xY.out,hhp];rfl
      subst l8;clear mP bm eZ kr
      gi_wp2_with ((first|refine⟨trivial,bz _,?_⟩|refine⟨trivial,?_⟩);gi_at_call 179;refine(xrv.2 xd).mono ?_;rintro e A7 ⟨nr,mW,xK,rfl,qC⟩;have bF:=qC.blk;have cF:=bF.cell;have gF:=bF.frozen)
      have uZ:=qC.setF (vs':=#[.pointer nr,.int .i64 mW]) (((Keep.refl (fun b=>b=w5.heap.size) A7).setCell (p:=⟨w5.heap.size,0,none⟩) rfl (.pointer nr)).setCell (p:=⟨w5.heap.size,1,none⟩) rfl (.int .i64 mW)) (by have:=(bF.set 0 (.pointer nr)).set 1 (.int .i64 mW);simpa using this) sC
      gi_roundg (2*k'+ke.length)
      case measure=>have:=HQ.out;omega
      case rel=>exact⟨_,nr,mW,xK,rfl,rfl,sC,uZ⟩
     |some p =>
      obtain⟨nk,dS⟩:=mF.rel.qc7 T0 hB hn hhp;have cI:p∈gB++jl:=xr9 _ (qff hhp);have gI:∀W',Below w5.heap.size w5 W'->_:=fun W' aX=>qj2 T0 hB (mF.below aX).ld.rd hr a_ (mF.below aX).ld.cells.1 ((mF.below aX).ld.pin cI)
      have jS:∀W',Below w5.heap.size w5 W'->_:=fun W' aX=>(mF.below aX).qtr T0 hB hn hhp vn
      have zp:=kr w5 p;generalize qdg nodes jl p.x=sx at gI jS;unfold akv nptr at gI jS;have l8:ov=.pointer (some ⟨p.blk,0,none⟩):=by rw[<-xY.out,hhp];rfl
      subst l8;clear eZ kr
      gi_upto_region 12 with fail
      refine wpIn_wide.2 ?_
      go_region_held3 (fun w'=>w'.cell? ⟨w.heap.size,0,none⟩=some (.pointer (some ⟨rr,0,none⟩))/\w'.cell? ⟨w.heap.size+1+1,0,none⟩=some (.pointer (some ⟨w.heap.size+1,0,none⟩))) (go_keep)
       (first
       |(go_at_call 178;refine(gI _ ?_).mono ?_;(focus exact bel2);rintro e w6 ⟨rfl,il⟩;have mC:Below w5.heap.size w5 w6:=qab (by exact bel2) il;obtain⟨g1,g2,g3,g4,Eh,Ei⟩:=mP _ mC)
       |(go_at_call 177;refine(jS _ ?_).mono ?_;(focus exact bel2);rintro e w7 ⟨rfl,v7,DK,E8,tC,Ba⟩;obtain⟨j1,j2,j3,j4,j5,j6⟩:=bm w7 tC))
      have xd:=tC.popN Ba #[.pointer (some ⟨a.p.blk,0,none⟩),.int .i64 a.s];have f7:=(bm _ (tC.below (show Below w7.heap.size w7 (w7.alloc (.cells #[.pointer (some ⟨a.p.blk,0,none⟩),.int .i64 a.s] 226)) by exact bel2))).2.1;have sD:w.heap.size<=w7.heap.size:=by have:=tC.b1.lt;omega
      clear gI jS mP bm
      gi_wp2_with ((first|refine⟨trivial,bz _,?_⟩|refine⟨trivial,?_⟩);gi_at_call 179;refine(xrv.2 xd).mono ?_;rintro e A7 ⟨nr,mW,xK,rfl,qC⟩;have bF:=qC.blk;have cF:=bF.cell;have gF:=bF.frozen)
      have uZ:=qC.setF (vs':=#[.pointer nr,.int .i64 mW]) (((Keep.refl (fun b=>b=w7.heap.size) A7).setCell (p:=⟨w7.heap.size,0,none⟩) rfl (.pointer nr)).setCell (p:=⟨w7.heap.size,1,none⟩) rfl (.int .i64 mW)) (by have:=(bF.set 0 (.pointer nr)).set 1 (.int .i64 mW);simpa using this) sD
      gi_roundg (2*k'+DK.length)
      case measure=>have:=HQ.out;omega
      case rel=>exact⟨_,nr,mW,xK,rfl,rfl,sD,uZ⟩
end
end
section
open Go.RowKit
variable {W W' w:World}{nodes:List Node}{bt:Nat}{r:Node}{ai va vw:Value}{as_ ws:List Pw}{s0:SS}
structure TwAt (W:World) (nodes:List Node) (bt:Nat) (r:Node) (ai vw va:Value) (ws as_:List Pw):Prop where
 ins:∀n∈nodes,qag W n
 bk:BkAt W bt (nptr r.blk) ai vw va ws as_
 lf:∀p∈ws++as_,∃n∈nodes,n.blk=p.q/\n.key=p.x.key
 nm:∀p∈ws++as_,(0<=p.x.d0/\p.x.d0<=1000)/\(0<=p.x.d1/\p.x.d1<=1000)
theorem TwAt.below(h:TwAt W nodes bt r ai vw va ws as_)(hb:Below W.heap.size W W'):TwAt W' nodes bt r ai vw va ws as_ :=
 ⟨fun n hn=>(h.ins n hn).below hb,h.bk.keep (T:=fun _=>False) (Keep.new hb) id (fun _ _=>id) (fun _ _=>id) (fun _ _=>id),h.lf,h.nm⟩
theorem qgu{f:SS->Option SS}{I:SS->Prop}(c:Nat)(hI:∀s s',I s->f s=some s'->I s'/\s'.evs.length<=s.evs.length+c):∀(n:Nat) (s:SS),I s->I (qbf f n s)/\(qbf f n s).evs.length<=s.evs.length+c*n
 |0,s,h=>⟨h,by simp[qbf]⟩
 |n+1,s,h=>by
  unfold qbf
  cases hf:f s with
  |none=>exact⟨h,Nat.le_add_right _ _⟩
  |some s' =>
   obtain⟨h1,h2⟩:=hI s s' h hf;obtain⟨h3,h4⟩:=qgu c hI n s' h1
   refine⟨h3,?_⟩
   have:c*(n+1)=c*n+c:=by rw[Nat.mul_add,Nat.mul_one]
   simp only
   omega
theorem qta(T0:Tree nodes)(hB:qa1 nodes)(h:TwAt w nodes bt r ai vw va ws as_)(hr:r∈nodes)(a_:r.key=[])(R:Rel nodes s0.Ws ws as_)(I:SInv s0)(ej:s0.evs=[]):
  Calls prog 79 #[nptr r.blk,.pointer (some ⟨bt,1,none⟩)] w fun e w'=>∃aI aO bC an aL,e=.returned bC/\TwAt w' nodes bt r ai aI aO an aL/\w'.ownsRow 0 60 2 bC (qal (nodes.map Node.ent) s0).evs.length (qam (qal (nodes.map Node.ent) s0).evs)/\Rel nodes (qal (nodes.map Node.ent) s0).Ws an aL/\Keep (BkT bt vw va) w w'/\(∀b,aI.ownBlock=some b\/aO.ownBlock=some b->vw.ownBlock=some b\/va.ownBlock=some b\/w.heap.size<=b)/\(∀b,bC.ownBlock=some b->w.heap.size<=b)/\(∀p∈an++aL,p∈ws++as_):=by
 obtain⟨ch,K0⟩:=T0.ch;have ob:=I.wks.wks.len;obtain⟨I1,b1⟩:=qgu (f:=qbc (nodes.map Node.ent)) (I:=SInv) 25 (fun s s' hs hf=>⟨(hs.own hf).1,(hs.own hf).2.2.2.2⟩) s0.Ws.length s0 I;have pI:(qcn (nodes.map Node.ent) s0).evs.length<=1000:=by
  unfold qcn;rw[ej]at b1
  have:25*s0.Ws.length<=600:=by omega
  simp at b1
  omega
 have qD:SInv (qcn (nodes.map Node.ent) s0):=I1;have eN:qal (nodes.map Node.ent) s0=qbf (qat (nodes.map Node.ent)) s0.Ws.length (qcn (nodes.map Node.ent) s0):=rfl;have xw:(qcn (nodes.map Node.ent) s0).Ws.length=s0.Ws.length:=by
  unfold qcn
  exact qdv (I:=fun s=>SInv s/\s.Ws.length=s0.Ws.length) (fun s s' hs hf=>⟨(hs.1.own hf).1,by rw[(hs.1.own hf).2.2.2.1];exact hs.2⟩) _ _ ⟨I,rfl⟩ |>.2
 rw[eN];have cD:=h.bk.at_.lt;have uS:LdAt (w.alloc (.cells #[nptr r.blk,.pointer (some ⟨bt,1,none⟩),.slice none 0 0] 188)) nodes w.heap.size bt r ai vw va (.slice none 0 0) ws as_ []:=by
  have cN:Below w.heap.size w (w.alloc (.cells #[nptr r.blk,.pointer (some ⟨bt,1,none⟩),.slice none 0 0] 188)):=by exact bel2
  exact⟨fun n hn=>(h.ins n hn).below cN,⟨h.bk.keep (T:=fun _=>False) (Keep.new cN) id (fun _ _=>id) (fun _ _=>id) (fun _ _=>id),⟨Blk.new _ _ _,⟨rfl,.inl ⟨rfl,rfl⟩⟩⟩⟩,h.lf,h.nm⟩
 have jq:=qmi T0 hB K0 uS hr a_ R I ej (by simp);have js:=fun W aI aO bC an aL (hl:LdAt W nodes w.heap.size bt r ai aI aO bC an aL (qcn (nodes.map Node.ent) s0).evs) (hR:Rel nodes (qcn (nodes.map Node.ent) s0).Ws an aL)=>qlm T0 hB K0 hl hr a_ hR qD rfl pI s0.Ws.length (by rw[<-xw];exact qpj _) (by omega)
 generalize qbf (qat (nodes.map Node.ent)) s0.Ws.length (qcn (nodes.map Node.ent) s0)=aT at js ⊢;generalize qcn (nodes.map Node.ent) s0=EU at jq js;clear eN;unfold nptr at jq ⊢
 go_enter func79,ntmps79
 go_wp2_with fail
 refine jq.mono ?_
 rintro e w2 ⟨rfl,eU,fc,gC,ws1,fh,m1,m2,m3,m4⟩
 have fZ:=js _ _ _ _ _ _ m1 m2;clear jq js
 go_wp2_with fail
 refine fZ.mono ?_
 rintro e w3 ⟨rfl,ff,fe,ei,eC,fR,n1,n2,n3,n4⟩
 have c2:=n1.cells.2.2.1;clear fZ
 go_wp2_with fail
 go_ret
 have cJ:=m3.trans n3;have cN:Below w.heap.size w (w.alloc (.cells #[.pointer (some ⟨r.blk,0,none⟩),.pointer (some ⟨bt,1,none⟩),.slice none 0 0] 188)):=by exact bel2
 refine⟨ff,fe,ei,eC,fR,rfl,⟨n1.ins,n1.ld.bk,n1.lf,n1.nm⟩,n1.ld.rnd.row,n2,(Keep.new cN).qbm cJ.keep (fun b hb e=>?_),fun b e=>?_,fun b e=>?_,fun p hp=>m4 p (n4 p hp)⟩
 ·rcases e with e|e|e
  ·omega
  ·exact e
  ·cases e
 ·rcases cJ.new.bk b e with e|e|e
  ·exact .inl e
  ·exact .inr (.inl e)
  ·simp at e;exact .inr (.inr (by omega))
 ·rcases cJ.new.ev b e with e|e
  ·cases e
  ·simp at e;omega
theorem qfc(T0:Tree nodes)(hB:qa1 nodes)(h:TwAt w nodes bt r ai vw va ws as_)(hr:r∈nodes)(a_:r.key=[])(R:Rel nodes s0.Ws ws as_)(I:SInv s0)(ej:s0.evs=[]):
  Calls prog 51 #[.pointer (some ⟨bt,0,none⟩),.int .i64 0] w fun e w'=>∃aI aO bC an aL,e=.returned (.tuple #[bC,.int .i64 0])/\TwAt w' nodes bt r ai aI aO an aL/\w'.ownsRow 0 60 2 bC (qal (nodes.map Node.ent) s0).evs.length (qam (qal (nodes.map Node.ent) s0).evs)/\Rel nodes (qal (nodes.map Node.ent) s0).Ws an aL/\Keep (BkT bt vw va) w w'/\(∀b,aI.ownBlock=some b\/aO.ownBlock=some b->vw.ownBlock=some b\/va.ownBlock=some b\/w.heap.size<=b)/\(∀b,bC.ownBlock=some b->w.heap.size<=b)/\(∀p∈an++aL,p∈ws++as_):=by
 have jt:=fun W (hW:Below w.heap.size w W)=>(qta T0 hB (h.below hW) hr a_ R I ej).mono (R':=fun e w'=>∃aI aO bC an aL,e=.returned bC/\w'.cell? ⟨bt,0,none⟩=some (.pointer (some ⟨r.blk,0,none⟩))/\TwAt w' nodes bt r ai aI aO an aL/\w'.ownsRow 0 60 2 bC (qal (nodes.map Node.ent) s0).evs.length (qam (qal (nodes.map Node.ent) s0).evs)/\Rel nodes (qal (nodes.map Node.ent) s0).Ws an aL/\Keep (BkT bt vw va) w w'/\(∀b,aI.ownBlock=some b\/aO.ownBlock=some b->vw.ownBlock=some b\/va.ownBlock=some b\/w.heap.size<=b)/\(∀b,bC.ownBlock=some b->w.heap.size<=b)/\(∀p∈an++aL,p∈ws++as_)) (fun e w' ⟨aI,aO,bC,an,aL,h1,h2,h3,h4,h5,h6,h7,h8⟩=>⟨aI,aO,bC,an,aL,h1,h2.bk.at_.cell 0,h2,h3,h4,(Keep.new hW).trans h5,fun b e=>(h6 b e).imp id (fun e=>e.imp id (fun e=>Nat.le_trans hW.size e)),fun b e=>Nat.le_trans hW.size (h7 b e),h8⟩)
 have c0:=h.bk.at_.cell 0;simp only[List.getElem?_toArray,List.getElem?_cons_zero]at c0;generalize qal (nodes.map Node.ent) s0=aT at jt ⊢;unfold nptr at jt c0
 go_enter func51,ntmps51
 go_upto_region 3 with fail
 go_region_held3 (fun w'=>w'.cell? ⟨bt,0,none⟩=some (.pointer (some ⟨r.blk,0,none⟩))) (go_keep)
  (first|(go_at_call 79;refine(jt _ ?_).mono ?_;(focus exact bel2);rintro e w2 ⟨ff,fe,ei,eC,fR,rfl,c2,m1⟩))
 clear jt
 go_wp2_with fail
 exact xrn (v:=.tuple #[ei,.int .i64 0]) (by simp[results,results51,go_sem]) rfl ⟨_,_,_,_,_,rfl,m1⟩
theorem qcp{x:Int}(hx:x≠0):
  Calls prog 51 #[.pointer (some ⟨bt,0,none⟩),.int .i64 x] w fun e w'=>e=.returned (.tuple #[.slice none 0 0,.int .i64 x])/\w'=w:=by
 have jh:(x == 0)=false:=by simp[hx]
 go_enter func51,ntmps51
 go_wp2_with fail
 exact xrn (v:=.tuple #[.slice none 0 0,.int .i64 x]) (by simp[results,results51,go_sem]) rfl ⟨rfl,rfl⟩
end
section
open Go.RowKit Go.Shelf
variable {nodes:List Node}{w:World}{bt:Nat}{m r:Node}{ai va vw:Value}{as_ ws:List Pw}
attribute [local go_sem] Oper.semAt_some
def qg0 (l:List Pw):List Value:=l.map fun p=>.int .i64 p.x.num
theorem qni(h:TwAt w nodes bt r ai vw va ws as_)(hm:m∈nodes):
  Calls prog 107 #[.pointer (some ⟨bt,0,none⟩),nptr m.blk] w fun e w'=>∃v',e=.returned v'/\w'.ownsRow 0 3 1 v' (qba ws m.blk).length (qg0 (qba ws m.blk))/\Below w.heap.size w w'/\(∀b,v'.ownBlock=some b->w.heap.size<=b):=by
 have bz:∀k:Nat,Fence.wide.depth.isSome=true->1<=k:=fun k h=>by simp[Fence.wide]at h
 have cD:=h.bk.at_.lt;have ob:=h.bk.len;have e9:=fun W (hW:Below w.heap.size w W)=>qpi (w:=W) (h.below hW).ins ((h.below hW).bk.at_.cell 2) ⟨(h.below hW).bk.wrow,fun p hp=>(h.below hW).bk.works p (xr9 _ hp)⟩ (by omega) (fun p hp=>by obtain⟨n,h1,h2,_⟩:=h.lf p (xr9 _ hp);exact⟨n,h1,h2⟩) hm
 have jO:=fun (T:Nat->Prop) (hT:∀b,T b->w.heap.size<=b)=>(⟨fun n hn=>⟨fun e=>by have:=(h.ins n hn).lt;have:=hT _ e;omega,fun g hg e=>by have:=((h.ins n hn).row.lt g hg).2;have:=hT _ e;omega⟩,fun e=>by have:=hT _ e;omega,fun b hb e=>by have:=qap h.bk.wrow hb;have:=hT _ e;omega,fun p hp e=>by have:=(h.bk.works p (xr9 _ hp)).lt;have:=hT _ e;omega⟩:(∀n∈nodes,¬T n.blk/\∀g,n.sl.ownBlock=some g->¬T g)/\¬T bt/\(∀b,vw.ownBlock=some b->¬T b)/\(∀p∈ws,¬T p.blk))
 have cI:∀p∈qba ws m.blk,p∈ws:=fun p hp=>(xrr.1 hp).1
 have Ci:(qba ws m.blk).length<=24:=Nat.le_trans (xrh _ _) (by omega);have ef:∀W,Below w.heap.size w W->∀p∈ws,W.cell? ⟨p.blk,0,none⟩=some (.int .i64 p.x.num):=fun W hW p hp=>((h.below hW).bk.works p (xr9 _ hp)).cell 0
 generalize qba ws m.blk=X at e9 cI Ci ⊢
 refine(xrv (n:=3)).1 ?_
 refine callsIn_of_wp_marks func107 rfl trivial ?_ rfl
 unfold nptr at e9 ⊢;simp only[ntmps107,List.size_toArray,List.length_cons,List.length_nil,Nat.reduceAdd,Nat.reduceSub,Array.replicate_succ,Array.replicate_zero,List.push_toArray,List.append_toArray,List.nil_append,List.cons_append]
 gi_wp2_with ((first|refine⟨trivial,bz _,?_⟩|refine⟨trivial,?_⟩);gi_at_call 156;refine(xrv.2 (e9 _ (by exact bel1))).mono ?_;rintro e W3 ⟨rfl,rfl,aB⟩)
 obtain⟨W,hW⟩:∃W,W=(((w.alloc (.cells #[.slice none 0 0] 25)).alloc (.cells #[.pointer (some ⟨bt,1,none⟩)] 132)).alloc (.cells #[.pointer (some ⟨m.blk,0,none⟩)] 97)):=⟨_,rfl⟩;have cY:W.heap.size=w.heap.size+3:=by rw[hW];simp
 have bZ:Below w.heap.size w W:=by rw[hW];exact bel2
 have z1:Box W w.heap.size 25 (.slice none 0 0):=by rw[hW];exact((Box.new w 25 _).alloc _).alloc _
 simp only[xrt]at aB;simp only[<-hW]at aB ⊢;have hq:SeqM prog 198 #[.pointer (some ⟨w.heap.size+1,0,none⟩),.pointer (some ⟨w.heap.size+1+1,0,none⟩)] (fun p:Pw=>#[.pointer (some ⟨p.blk,0,none⟩)]) (fun _=>False) 0 (fun b=>b=w.heap.size) X W:=qt0 (fun B l0 h1 h2=>by
  obtain⟨o1,o2,o3,o4⟩:=jO (fun b=>b=w.heap.size\/b=l0\/B<=b) (fun b e=>by omega)
  exact aB _ o1 o2 o3 o4 (by omega) (by omega))
 clear aB e9 hW jO;have ay:∀b,b<W.heap.size->¬(False\/(W.heap.size<=b/\b<W.heap.size+2+0)):=fun b hb e=>by rcases e with e|e;exact e;omega
 refine qhm (T:=fun b=>b=w.heap.size) (S:=fun _=>False) rfl (enters_of func198 (by kernel_rfl) rfl) hq (Below.refl _ _) (fun _=>rfl) (fun b e=>e.elim) (fun b e=>by omega)
  (fun (pre:List Pw) A=>(∃v,A.ownsRow 0 3 1 v pre.length (qg0 pre)/\Box A w.heap.size 25 v/\(∀b,v.ownBlock=some b->W.heap.size+2+0<=b))/\Below w.heap.size w A)
  (fun c (pre:List Pw) A=>False)
  (fun pre A B hs hk=>by
   obtain⟨⟨v,g1,g2,g3⟩,g4⟩:=hs
   exact⟨⟨v,qaf g1 hk (fun b hb e=>by have:=g3 b hb;rcases e with e|e;exact e;omega),g2.keep hk (ay _ (by omega)),g3⟩,g4.trans (hk.toBelow g4.size (fun b bh=>ay b (by omega)))⟩)
  (fun c pre A B hs hk=>hs)
  ⟨⟨_,⟨rfl,.inl ⟨rfl,rfl⟩⟩,z1,by simp[Value.ownBlock]⟩,bZ⟩
  (fun x=>{tmps:=#[.pointer (some ⟨bt,0,none⟩),.pointer (some ⟨m.blk,0,none⟩),undef,undef,.slice none 0 0,.pointer (some ⟨w.heap.size,0,none⟩),.pointer (some ⟨x.blk,0,none⟩),.pointer (some ⟨bt,0,none⟩),.pointer (some ⟨bt,0,none⟩),.pointer (some ⟨bt,1,none⟩),.pointer (some ⟨m.blk,0,none⟩),.func (.func 198) #[] #[.pointer (some ⟨w.heap.size+1,0,none⟩),.pointer (some ⟨w.heap.size+1+1,0,none⟩)],.pointer (some ⟨x.blk,0,none⟩),undef,undef,undef,undef,undef,undef,undef,undef],defers:=[]}) ?assign ?body ?done ?stop
 case assign =>
  intro l x W K hK
  gi_wp2
  exact hK
 case stop =>
  rintro c pre A ax hx hD
  exact hx.elim
 case body =>
  rintro l2 pre x W2 ⟨⟨v,g1,g2,g3⟩,g4⟩ eO ax
  have cm:x∈ws:=cI x (ax.subset (by simp));have dU:pre.length<=24:=by have:=ax.length_le;simp at this;omega
  have c0:=g2.cell;have n0:=ef W2 g4 x cm;have fV:∀W',Below W2.heap.size W2 W'->W'.cell? ⟨x.blk,0,none⟩=some (.int .i64 x.x.num):=fun W' aX=>ef W' (qab g4 aX) x cm
  obtain⟨WA,vz⟩:∃WA,WA=(W2.alloc (.cells #[.int .i64 x.x.num] 3)).drew:=⟨_,rfl⟩;have nI:Below W2.heap.size W2 WA:=by rw[vz];exact bel2
  have dI:Blk WA W2.heap.size 3 #[.int .i64 x.x.num]:=by rw[vz];exact Blk.new W2 3 _
  have cA:=(g2.below nI g2.lt).cell;obtain⟨v1,w1,hr,g,cap,rfl,RA⟩:=qey un29 inf3 (by omega) WA v pre.length (qg0 pre) (qaf (T:=fun _=>False) g1 (Keep.new nI) (fun _ _ e=>e)) W2.heap.size 1 1 (by omega) [.int .i64 x.x.num] rfl dI (fun u hu=>by simp at hu;subst hu;rfl) (by unfold maxLen;omega) (by omega);have b1:Box w1 w.heap.size 25 v:=(g2.below nI g2.lt).keep RA.keep (fun e=>by have:=g3 _ e;omega);have k1:=b1.cell;have f1:=b1.frozen;have n1:w1.cell? ⟨x.blk,0,none⟩=some (.int .i64 x.x.num):=by
   have sF:x.blk<WA.heap.size:=xrb _ _ (fV WA nI)
   refine(RA.keep.cell (p:=⟨x.blk,0,none⟩) sF (fun e=>?_)).trans (fV WA nI)
   have CA:x.blk<w.heap.size:=(h.bk.works x (xr9 _ cm)).lt
   have:=g3 x.blk e
   omega
  have aF:Keep (fun b=>b=w.heap.size\/W.heap.size+2+0<=b) W2 (w1.setCell ⟨w.heap.size,0,none⟩ (.slice (some ⟨g,0,none⟩) (pre.length+1) cap))/\((∃v',(w1.setCell ⟨w.heap.size,0,none⟩ (.slice (some ⟨g,0,none⟩) (pre.length+1) cap)).ownsRow 0 3 1 v' (pre++[x]).length (qg0 (pre++[x]))/\Box (w1.setCell ⟨w.heap.size,0,none⟩ (.slice (some ⟨g,0,none⟩) (pre.length+1) cap)) w.heap.size 25 v'/\(∀b,v'.ownBlock=some b->W.heap.size+2+0<=b))/\Below w.heap.size w (w1.setCell ⟨w.heap.size,0,none⟩ (.slice (some ⟨g,0,none⟩) (pre.length+1) cap))):=by
   have hz:=nI.size;have bK:W.heap.size+2+0<=g:=by
    rcases RA.new with e|e
    ·exact g3 _ e
    ·omega
   have hK:Keep (fun b=>b=w.heap.size\/W.heap.size+2+0<=b) W2 w1:=(Keep.new nI).qbm RA.keep (fun b hb e=>.inr (g3 b e));have dN:=hK.setCell (p:=⟨w.heap.size,0,none⟩) (.inl rfl) (.slice (some ⟨g,0,none⟩) (pre.length+1) cap)
   refine⟨dN,⟨.slice (some ⟨g,0,none⟩) (pre.length+1) cap,?_,b1.set _,fun b hb=>?_⟩,g4.trans (dN.toBelow g4.size (fun b hb e=>by omega))⟩
   ·have e:qg0 (pre++[x])=qg0 pre++[.int .i64 x.x.num]:=by simp[qg0]
    rw[e,show(pre++[x]).length=pre.length+1 by simp]
    exact xrl RA.own (by simp[Value.ownBlock];omega) _
   ·simp[Value.ownBlock]at hb;omega
  have dR:(w1.setCell ⟨w.heap.size,0,none⟩ (.slice (some ⟨g,0,none⟩) (pre.length+1) cap)).cell? ⟨x.blk,0,none⟩=some (.int .i64 x.x.num):=by
   have CA:x.blk<w.heap.size:=(h.bk.works x (xr9 _ cm)).lt
   exact(World.cell?_setCell_other _ _ _ _ (by intro e;injection e with e1;omega)).trans n1
  rw[vz]at hr cA;have HF:Hid (Keep (fun b=>b=w.heap.size\/W.heap.size+2+0<=b) W2 (w1.setCell ⟨w.heap.size,0,none⟩ (.slice (some ⟨g,0,none⟩) (pre.length+1) cap))/\((∃v',(w1.setCell ⟨w.heap.size,0,none⟩ (.slice (some ⟨g,0,none⟩) (pre.length+1) cap)).ownsRow 0 3 1 v' (pre++[x]).length (qg0 (pre++[x]))/\Box (w1.setCell ⟨w.heap.size,0,none⟩ (.slice (some ⟨g,0,none⟩) (pre.length+1) cap)) w.heap.size 25 v'/\(∀b,v'.ownBlock=some b->W.heap.size+2+0<=b))/\Below w.heap.size w (w1.setCell ⟨w.heap.size,0,none⟩ (.slice (some ⟨g,0,none⟩) (pre.length+1) cap)))):=aF;obtain⟨a0,cy,hv,_,_⟩:=qa6 g1;generalize hn:pre.length=n at hr hv dR HF;clear hn aF RA dI nI hq g1 g3 b1;subst hv
  gi_upto_region 4 with fail
  refine qf7 ?_
  refine qc8 (fun W'=>W'.cell? ⟨x.blk,0,none⟩=some (.int .i64 x.x.num)) (by kernel_rfl) (by kernel_rfl) (fV W2.drew (Below.refl _ _).drew) (fun hS=>?_)
  refine wpAnyH_take (i:=1) (v:=.pointer (some ⟨x.blk,0,none⟩)) rfl (by kernel_rfl) (by kernel_rfl) (by kernel_rfl) (fun _ _ _ h=>absurd h.1 (by intro e;cases e)) (Or.inl ⟨by rfl,?_⟩) hS ?_
  ·intro w' b8
   go_simp
  try simp only[xr5,xr3,xr4,Act.put,xr6,xr8,xr7]
  refine wpAnyH_take (i:=2) (v:=.pointer (some ⟨x.blk,0,none⟩)) rfl (by kernel_rfl) (by kernel_rfl) (by kernel_rfl) (fun _ _ _ h=>absurd h.1 (by intro e;cases e)) (Or.inl ⟨by rfl,?_⟩) hS ?_
  ·intro w' b8
   go_simp
  try simp only[xr5,xr3,xr4,Act.put,xr6,xr8,xr7]
  refine wpAnyH_take (i:=3) (v:=.pointer (some ⟨x.blk,0,none⟩)) rfl (by kernel_rfl) (by kernel_rfl) (by kernel_rfl) (fun _ _ _ h=>absurd h.1 (by intro e;cases e)) (Or.inl ⟨by rfl,?_⟩) hS ?_
  ·intro w' b8
   go_simp
  try simp only[xr5,xr3,xr4,Act.put,xr6,xr8,xr7]
  refine wpAnyH_take (i:=4) (v:=.int .i64 x.x.num) rfl (by kernel_rfl) (by kernel_rfl) (by kernel_rfl) (fun _ _ _ h=>absurd h.1 (by intro e;cases e)) (Or.inl ⟨by rfl,?_⟩) hS ?_
  ·intro w' b8
   go_simp
  try simp only[xr5,xr3,xr4,Act.put,xr6,xr8,xr7]
  refine wpAnyH_ready (rs:=[0,5]) (by kernel_rfl) (by simp) ?_
  refine AllReadyH.cons rfl (fun K' hK=>?_) (AllReadyH.cons rfl (fun K' hK=>?_) AllReadyH.nil)
  ·rw[if_pos (by rfl)]
   try simp only[xr5,xr3,xr4]
   go_simp
   refine hK.out _ _ (fV W2.drew (Below.refl _ _).drew) (fun hS=>?_)
   clear hK
   try simp only[xr5,xr3,xr4,Act.put,xr6,xr8,xr7]
   refine wpAnyH_ready (rs:=[5]) (by kernel_rfl) (by simp) ?_
   refine AllReadyH.cons rfl (fun K' hK=>?_) AllReadyH.nil
   rw[if_pos (by rfl)]
   try simp only[xr5,xr3,xr4]
   go_simp
   refine hK.out _ _ (fV _ (by exact bel2)) (fun hS=>?_)
   clear hK
   try simp only[xr5,xr3,xr4,Act.put,xr6,xr8,xr7]
   refine wpAnyH_ready (rs:=[6]) (by kernel_rfl) (by simp) ?_
   refine AllReadyH.cons rfl (fun K' hK=>?_) AllReadyH.nil
   refine qa8 (R:=fun v' w'=>v'=.slice (some ⟨g,0,none⟩) (n+1) cap/\w'=w1) rfl (.tmp 13) (.tmp 18) 25 25 rfl (.slice a0 n cy) (.slice (some ⟨W2.heap.size,0,none⟩) 1 1) rfl rfl ⟨_,_,hr,rfl,rfl⟩ ?_
   rintro v' w' ⟨rfl,rfl⟩
   refine hK.out _ _ n1 (fun hS=>?_)
   clear hK
   try simp only[xr5,xr3,xr4,Act.put,xr6,xr8,xr7]
   refine wpAnyH_ready (rs:=[7]) (by kernel_rfl) (by simp) ?_
   refine AllReadyH.cons rfl (fun K' hK=>?_) AllReadyH.nil
   rw[if_pos (by rfl)]
   try simp only[xr5,xr3,xr4]
   go_simp
   refine hK.out _ _ dR (fun hS=>?_)
   clear hK
   refine wpAnyH_done (by kernel_rfl) ⟨rfl,?_⟩ _
   exact HF.out
  ·rw[if_pos (by rfl)]
   try simp only[xr5,xr3,xr4]
   go_simp
   refine hK.out _ _ (fV _ (by exact bel2)) (fun hS=>?_)
   clear hK
   try simp only[xr5,xr3,xr4,Act.put,xr6,xr8,xr7]
   refine wpAnyH_ready (rs:=[0]) (by kernel_rfl) (by simp) ?_
   refine AllReadyH.cons rfl (fun K' hK=>?_) AllReadyH.nil
   rw[if_pos (by rfl)]
   try simp only[xr5,xr3,xr4]
   go_simp
   refine hK.out _ _ (fV _ (by exact bel2)) (fun hS=>?_)
   clear hK
   try simp only[xr5,xr3,xr4,Act.put,xr6,xr8,xr7]
   refine wpAnyH_ready (rs:=[6]) (by kernel_rfl) (by simp) ?_
   refine AllReadyH.cons rfl (fun K' hK=>?_) AllReadyH.nil
   refine qa8 (R:=fun v' w'=>v'=.slice (some ⟨g,0,none⟩) (n+1) cap/\w'=w1) rfl (.tmp 13) (.tmp 18) 25 25 rfl (.slice a0 n cy) (.slice (some ⟨W2.heap.size,0,none⟩) 1 1) rfl rfl ⟨_,_,hr,rfl,rfl⟩ ?_
   rintro v' w' ⟨rfl,rfl⟩
   refine hK.out _ _ n1 (fun hS=>?_)
   clear hK
   try simp only[xr5,xr3,xr4,Act.put,xr6,xr8,xr7]
   refine wpAnyH_ready (rs:=[7]) (by kernel_rfl) (by simp) ?_
   refine AllReadyH.cons rfl (fun K' hK=>?_) AllReadyH.nil
   rw[if_pos (by rfl)]
   try simp only[xr5,xr3,xr4]
   go_simp
   refine hK.out _ _ dR (fun hS=>?_)
   clear hK
   refine wpAnyH_done (by kernel_rfl) ⟨rfl,?_⟩ _
   exact HF.out
 case done =>
  rintro A ⟨⟨v,g1,g2,g3⟩,g4⟩ hD
  have c0:=g2.cell
  gi_wp2_with fail
  refine⟨by simp,.inl ⟨_,_,rfl,run_takeDeferred hD,?_⟩⟩
  have hk:Keep (fun b=>b=W.heap.size) A (A.putObj W.heap.size (.deferred none)):=(Keep.refl (fun b=>b=W.heap.size) _).putObj rfl _
  exact⟨v,by simp[results,results107,go_sem],v,rfl,qaf g1 hk (fun b hb e=>by have:=g3 b hb;omega),g4.trans (hk.toBelow g4.size (fun b hb e=>by omega)),fun b hb=>by have:=g3 b hb;omega⟩
end
section
open Go.RowKit
variable {W w:World}{nodes:List Node}{bt:Nat}{n r:Node}{ai va vw:Value}{as_ ws:List Pw}
def qrb (p:Bs)(leaf:Bool)(a b c d e f:Int)(v:Value):Array Value:=#[.string (sb p),.bool leaf,.int .i64 a,.int .i64 b,.int .i64 c,.int .i64 d,.int .i64 e,.int .i64 f,v]
theorem TwAt.pws(h:TwAt W nodes bt r ai vw va ws as_):qh7 W nodes va as_ :=
 ⟨h.bk.arow,fun p hp=>h.bk.works p (xra _ hp),fun p hp=>h.lf p (xra _ hp),fun p hp=>h.nm p (xra _ hp),by have:=h.bk.len;omega⟩
theorem qro(T0:Tree nodes)(hB:qa1 nodes)(h:TwAt w nodes bt r ai vw va ws as_)(hn:n∈nodes):
  Calls prog 64 #[.pointer (some ⟨bt,0,none⟩),nptr n.blk] w fun e w'=>∃v',e=.returned (.agg (qrb (qaa n.key) n.leaf (pn0 nodes n.key) (pn1 nodes n.key) n.b0 n.b1 (ws0 (pun as_ n.key)) (ws1 (pun as_ n.key)) v'))/\w'.ownsRow 0 3 1 v' (qba ws n.blk).length (qg0 (qba ws n.blk))/\Below w.heap.size w w'/\(∀b,v'.ownBlock=some b->w.heap.size<b):=by
 have cD:=h.bk.at_.lt;have lX:=fun W (hW:Below w.heap.size w W)=>qig T0 n.key.length n hn rfl W (h.below hW).ins
 have qy:=fun W (hW:Below w.heap.size w W)=>qgx n.blk n.leaf W (((h.below hW).ins n hn).cell rfl)
 have yA:=fun W (hW:Below w.heap.size w W)=>qcx T0 hn W (h.below hW).ins
 have yB:=fun W (hW:Below w.heap.size w W)=>qj5 n.blk n.b0 n.b1 W (((h.below hW).ins n hn).cell rfl) (((h.below hW).ins n hn).cell rfl)
 have qz:=fun W (hW:Below w.heap.size w W)=>qhq T0 hB W (h.below hW).ins bt ((h.below hW).bk.at_.cell 3) (h.below hW).pws hn
 have q9:=fun W (hW:Below w.heap.size w W)=>qni (h.below hW) hn
 unfold qrb;generalize pn0 nodes n.key=s0 at *;generalize pn1 nodes n.key=s1 at *;generalize ws0 (pun as_ n.key)=u0 at *;generalize ws1 (pun as_ n.key)=u1 at *;generalize sb (qaa n.key)=e_ at *;generalize (qba ws n.blk).length=wl at *;generalize qg0 (qba ws n.blk)=wn at *;unfold nptr at *
 go_enter func64,ntmps64
 have Ap:Blk (w.alloc (.cells #[.string ⟨#[]⟩,.bool false,.int .i64 0,.int .i64 0,.int .i64 0,.int .i64 0,.int .i64 0,.int .i64 0,.slice none 0 0] 37)).drew w.heap.size 37 #[.string ⟨#[]⟩,.bool false,.int .i64 0,.int .i64 0,.int .i64 0,.int .i64 0,.int .i64 0,.int .i64 0,.slice none 0 0]:=Blk.new w 37 _
 go_upto_region 1 with fail
 go_region_held3 (fun _=>True) (exact trivial)
  (first
   |(go_at_call 47;refine(lX _ ?_).mono ?_;(focus exact bel2);rintro e w1 ⟨rfl,aa⟩;have au:Below w.heap.size w w1:=qab (by exact bel2) aa)
   |(go_at_call 105;refine(qy _ au).mono ?_;rintro e w2 ⟨rfl,eG⟩;subst eG)
   |(go_at_call 85;refine(yA _ au).mono ?_;rintro e w3 ⟨rfl,aM⟩;have bH:Below w.heap.size w w3:=qab au aM)
   |(go_at_call 86;refine(yB _ bH).mono ?_;rintro e w4 ⟨rfl,bf⟩;have dL:Below w.heap.size w w4:=qab bH bf)
   |(go_at_call 106;refine(qz _ dL).mono ?_;rintro e w5 ⟨rfl,bE⟩;have dE:Below w.heap.size w w5:=qab dL bE)
   |(go_at_call 107;refine(q9 _ dE).mono ?_;rintro e w6 ⟨v6,rfl,zv,il,zB⟩;have mC:Below w.heap.size w w6:=qab dE il;obtain⟨a6,c6,sy,_,_⟩:=qa6 zv;subst sy;have iR:Blk w6 w.heap.size 37 #[.string ⟨#[]⟩,.bool false,.int .i64 0,.int .i64 0,.int .i64 0,.int .i64 0,.int .i64 0,.int .i64 0,.slice none 0 0]:=((((Ap.below aa (by simp)).below aM (by have:=aa.size;simp at this;omega)).below bf (by have:=aa.size;have:=aM.size;simp at *;omega)).below bE (by have:=aa.size;have:=aM.size;have:=bf.size;simp at *;omega)).below il (by have:=aa.size;have:=aM.size;have:=bf.size;have:=bE.size;simp at *;omega);have bm:=iR.cell;have en:=iR.frozen;clear lX qy yA yB qz q9))
 go_wp2_with fail
 have aF:=(((((((((iR.set 0 (.string e_)).set 1 (.bool n.leaf)).set 2 (.int .i64 s0)).set 3 (.int .i64 s1)).set 4 (.int .i64 n.b0)).set 5 (.int .i64 n.b1)).set 6 (.int .i64 u0)).set 7 (.int .i64 u1)).set 8 (.slice a6 wl c6));have hc:=aF.cell;have hk:=(((((((((Keep.refl (fun b=>b=w.heap.size) w6).setCell (p:=⟨w.heap.size,0,none⟩) rfl (.string e_)).setCell (p:=⟨w.heap.size,1,none⟩) rfl (.bool n.leaf)).setCell (p:=⟨w.heap.size,2,none⟩) rfl (.int .i64 s0)).setCell (p:=⟨w.heap.size,3,none⟩) rfl (.int .i64 s1)).setCell (p:=⟨w.heap.size,4,none⟩) rfl (.int .i64 n.b0)).setCell (p:=⟨w.heap.size,5,none⟩) rfl (.int .i64 n.b1)).setCell (p:=⟨w.heap.size,6,none⟩) rfl (.int .i64 u0)).setCell (p:=⟨w.heap.size,7,none⟩) rfl (.int .i64 u1)).setCell (p:=⟨w.heap.size,8,none⟩) rfl (.slice a6 wl c6);have ak:w.heap.size<w5.heap.size:=by have:=aa.size;have:=aM.size;have:=bf.size;have:=bE.size;simp at *;omega
 clear bm en
 exact xrn (v:=.agg #[.string e_,.bool n.leaf,.int .i64 s0,.int .i64 s1,.int .i64 n.b0,.int .i64 n.b1,.int .i64 u0,.int .i64 u1,.slice a6 wl c6]) (by simp[results,results64,go_sem,hc]) rfl ⟨_,rfl,qaf zv hk (fun b hb e=>by have:=zB b hb;omega),mC.trans (hk.toBelow mC.size (fun b hb e=>by omega)),fun b hb=>by have:=zB b hb;omega⟩
end
end Go.Proofs.YtphclnolomgjoaaGreatDoor
