import Derived.Test.YtphclnolomgjoaaGreatDoorC16
set_option linter.unusedVariables false
set_option linter.unusedSimpArgs false
set_option maxRecDepth 100000
set_option maxHeartbeats 4000000
namespace Go.Proofs.YtphclnolomgjoaaGreatDoor
open Tryz
section
open Go.RowKit Go.Shelf
variable {nodes:List Node}{w:World}{bt rr:Nat}{va:Value}{l:List Pw}{p:Pw}{m n:Node}
attribute [local go_sem] Oper.semAt_some
theorem qug(T:Tree nodes)(hB:qa7 nodes)(h:Rd w nodes bt rr va l){q:Pw}(hp:PwIn w nodes p)(hq:PwIn w nodes q)(hn:n∈nodes)(gz:n.blk=p.q)(hm:m∈nodes)(pO:m.blk=q.q)(eZ:m.key=q.x.key):
  Cl 231 #[vP rr,nptr q.blk,nptr p.blk] w fun e w'=>e=.returned (.bool ((ups nodes 4 n).any (qgt nodes l p.x q.x)))/\Bw w w':=by
 have b_:∀k:Nat,Fence.wide.depth.isSome=true->1<=k:=fun k h=>by simp[Fence.wide]at h
 have e9:∀W,(∀n∈nodes,qan W n)->_:=fun W hW=>qrs T hn W hW
 have ai:=qhy T 4 n hn (T.ok n hn).2;have fN:=hp.at_.lt;have mL:=hq.at_.lt;have pT:=fun W (hW:Bw w W)=>(hp.below hW).cells.2
 have DJ:=fun W (hW:Bw w W)=>(hq.below hW).cells.2
 have kd:=fun W (hW:Bw w W)=>(h.below hW).qvn T hB hm
 have a7:=fun W (hW:Bw w W)=>qcz T hm W (h.below hW).ins
 have eJ:=fun W (hW:Bw w W)=>(h.below hW).bk
 have AU:rr<w.heap.size:=xrb _ _ h.bk;have ubd:=h.ubd m.key;have z_:=qna T m.key;have HO:Hid (∀x:Node,qgt nodes l p.x q.x x=(x.key.isPrefixOf m.key&&!((min (min (shq0 nodes l x p.x.d0) (abv (ws0 (pun l m.key)) (pn0 nodes m.key))) q.x.d0 == 0)&&(min (min (shq1 nodes l x p.x.d1) (abv (ws1 (pun l m.key)) (pn1 nodes m.key))) q.x.d1 == 0)))):=fun x=>by rw[eZ];rfl
 rw[gz]at e9;rw[pO]at kd a7;generalize ws0 (pun l m.key)=u0 at *;generalize ws1 (pun l m.key)=u1 at *;generalize pn0 nodes m.key=n0 at *;generalize pn1 nodes m.key=n1 at *;have fI:=fun W=>qhu u0 u1 n0 n1 W (by omega) (by omega) (by omega) (by omega) (by omega) (by omega) (by omega) (by omega)
 have Mi:(0<=abv u0 n0/\abv u0 n0<=100000)/\(0<=abv u1 n1/\abv u1 n1<=100000):=by unfold abv;omega
 generalize abv u0 n0=o0 at *;generalize abv u1 n1=o1 at *;generalize hX:ups nodes 4 n=X at e9 ai ⊢
 refine(xrv (n:=3)).1 ?_
 refine callsIn_of_wp_marks func231 rfl trivial ?_ rfl
 unfold nptr at e9 kd a7 ⊢;simp only[ntmps231,List.size_toArray,List.length_cons,List.length_nil,Nat.reduceAdd,Nat.reduceSub,Array.replicate_succ,Array.replicate_zero,List.push_toArray,List.append_toArray,List.nil_append,List.cons_append]
 gi_upto_region 1 with fail
 obtain⟨W0,bJ⟩:∃W0,W0=((((w.alloc (.cells #[vP rr] 186)).alloc (.cells #[vP q.blk] 95)).alloc (.cells #[vP p.blk] 95)).alloc (.cells #[.bool false] 4)):=⟨_,rfl⟩;have aO:Bw w W0:=by rw[bJ];exact bel1
 have x1:Box W0 w.heap.size 186 (vP rr):=by rw[bJ];exact(((Box.new w 186 _).alloc _).alloc _).alloc _
 have x2:Box W0 (w.heap.size+1) 95 (vP q.blk):=by
  have:=((Box.new (w.alloc (.cells #[vP rr] 186)) 95 (vP q.blk)).alloc (.cells #[vP p.blk] 95)).alloc (.cells #[.bool false] 4)
  rw[xrt]at this;rw[bJ];exact this
 have x3:Box W0 (w.heap.size+1+1) 95 (vP p.blk):=by
  have:=(Box.new ((w.alloc (.cells #[vP rr] 186)).alloc (.cells #[vP q.blk] 95)) 95 (vP p.blk)).alloc (.cells #[.bool false] 4)
  rw[xrt,xrt]at this;rw[bJ];exact this
 have x4:Box W0 (w.heap.size+1+1+1) 4 (.bool false):=by
  have:=Box.new (((w.alloc (.cells #[vP rr] 186)).alloc (.cells #[vP q.blk] 95)).alloc (.cells #[vP p.blk] 95)) 4 (.bool false)
  rw[xrt,xrt,xrt]at this;rw[bJ];exact this
 have cZ:W0.heap.size=w.heap.size+4:=by rw[bJ];simp
 rw[<-bJ];clear bJ;have zn:∀W,Bw W0 W->W.cell? (vA rr 1)=some (.pointer (some (vA bt 1)))/\W.cell? (vA w.heap.size 0)=some (vP rr)/\W.cell? (vA (w.heap.size+1) 0)=some (vP q.blk)/\W.cell? (vA q.blk 1)=some (vP q.q):=fun W hW=>⟨eJ _ (qac aO hW),(x1.below hW x1.lt).cell,(x2.below hW x2.lt).cell,(DJ _ (qac aO hW)).1⟩
 obtain⟨r1,r2,r3,r4⟩:=zn W0 (Below.refl _ _);have H8:¬(rr=W0.heap.size):=(by omega);have H9:¬(W0.heap.size=rr):=(by omega);have HZ:¬(w.heap.size=W0.heap.size):=(by omega);have H_:¬(W0.heap.size=w.heap.size):=(by omega);have Ia:¬(w.heap.size+1=W0.heap.size):=(by omega);have Ib:¬(W0.heap.size=w.heap.size+1):=(by omega);have Ic:¬(q.blk=W0.heap.size):=(by omega);have Ie:¬(W0.heap.size=q.blk):=(by omega);have oa:w.heap.size+4<=W0.heap.size:=by omega
 have lO:Hid (W0.heap.size=w.heap.size+4):=cZ;clear cZ
 refine wpIn_wide.2 ?_
 go_cut [7] from 10 to 25 (fun c wx=>∃b7,c=vP b7/\Bw W0 wx/\Blk wx b7 35 #[vI o0,vI o1]/\W0.heap.size<=b7)
 case first =>
  go_region_held3 (fun w'=>w'.cell? (vA rr 1)=some (.pointer (some (vA bt 1)))/\w'.cell? (vA w.heap.size 0)=some (vP rr)/\w'.cell? (vA (w.heap.size+1) 0)=some (vP q.blk)/\w'.cell? (vA q.blk 1)=some (vP q.q)) (go_keep)
   (first
   |(go_at_call 106;refine(kd _ (qac aO ?_)).mono ?_;(focus exact bel2);rintro e w1 ⟨rfl,aa⟩;have aj:Bw W0 w1:=qac (by exact bel2) aa;obtain⟨s1,s2,s3,s4⟩:=zn _ aj;have cJ:=aj.size;have Nx:¬(rr=w1.heap.size):=(by omega);have Ny:¬(w1.heap.size=rr):=(by omega);have Nz:¬(w.heap.size=w1.heap.size):=(by omega);have N0:¬(w1.heap.size=w.heap.size):=(by omega);have N1:¬(w.heap.size+1=w1.heap.size):=(by omega);have N2:¬(w1.heap.size=w.heap.size+1):=(by omega);have N3:¬(q.blk=w1.heap.size):=(by omega);have N4:¬(w1.heap.size=q.blk):=(by omega);(try (have fW:Blk w1 W0.heap.size 35 #[vI 0,vI 0]:=Blk.below (by first|(with_reducible exact Blk.new' (by simp))|(with_reducible exact Blk.drew (Blk.new' (by simp)))) aa (by simp))))
   |(go_at_call 85;refine(a7 _ (qac aO ?_)).mono ?_;(focus exact bel2);rintro e w2 ⟨rfl,af⟩;have aw:Bw W0 w2:=qac (by exact bel2) af;obtain⟨t1,t2,t3,t4⟩:=zn _ aw;have dO:=aw.size;have N_:¬(rr=w2.heap.size):=(by omega);have Oa:¬(w2.heap.size=rr):=(by omega);have Ob:¬(w.heap.size=w2.heap.size):=(by omega);have Oc:¬(w2.heap.size=w.heap.size):=(by omega);have Od:¬(w.heap.size+1=w2.heap.size):=(by omega);have Oe:¬(w2.heap.size=w.heap.size+1):=(by omega);have Oh:¬(q.blk=w2.heap.size):=(by omega);have Oi:¬(w2.heap.size=q.blk):=(by omega);(try (have eR:Blk w2 W0.heap.size 35 #[vI 0,vI 0]:=Blk.below (by with_reducible exact fW) af (by have:=fW.lt;omega)));(try (have eR:Blk w2 w1.heap.size 35 #[vI 0,vI 0]:=Blk.below (by first|(with_reducible exact Blk.new' (by simp))|(with_reducible exact Blk.drew (Blk.new' (by simp)))) af (by simp))))
   |(go_at_call 189;refine(fI _).mono ?_;rintro e w3 ⟨rfl,ax⟩;have aK:Bw W0 w3:=qac (by exact bel2) ax;obtain⟨v1,v2,v3,v4⟩:=zn _ aK;have nA:=aK.size;have NU:¬(rr=w3.heap.size):=(by omega);have NV:¬(w3.heap.size=rr):=(by omega);have KV:¬(w.heap.size=w3.heap.size):=(by omega);have KW:¬(w3.heap.size=w.heap.size):=(by omega);have KX:¬(w.heap.size+1=w3.heap.size):=(by omega);have KY:¬(w3.heap.size=w.heap.size+1):=(by omega);have KZ:¬(q.blk=w3.heap.size):=(by omega);have K_:¬(w3.heap.size=q.blk):=(by omega);(try (have eS:Blk w3 W0.heap.size 35 #[vI 0,vI 0]:=Blk.below (by with_reducible exact eR) ax (by have:=eR.lt;omega);have c7:=eS.cell;have g7:=eS.frozen));(try (have eS:Blk w3 w1.heap.size 35 #[vI 0,vI 0]:=Blk.below (by with_reducible exact eR) ax (by have:=eR.lt;omega);have c7:=eS.cell;have g7:=eS.frozen));(try (have eS:Blk w3 w2.heap.size 35 #[vI 0,vI 0]:=Blk.below (by first|(with_reducible exact Blk.new' (by simp))|(with_reducible exact Blk.drew (Blk.new' (by simp)))) ax (by simp);have c7:=eS.cell;have g7:=eS.frozen))))
  all_goals go_wp2_with fail
  ·go_meet
   exact⟨_,rfl,aK.alloc nA _,Blk.new' rfl,nA⟩
  ·go_meet
   exact⟨_,rfl,qbk aK (by omega) ..,qc4 eS ..,by omega⟩
  ·go_meet
   exact⟨_,rfl,qbk aK (by omega) ..,qc4 eS ..,by omega⟩
  ·go_meet
   exact⟨_,rfl,qbk aK (by omega) ..,qc4 eS ..,by omega⟩
 case rest =>
  obtain⟨b7,rfl,cY,oJ,yY⟩:=hcut;clear r1 r2 r3 r4 kd a7 fI zn H8 H9 HZ H_ Ia Ib Ic Ie ubd z_;have kC:Bw w wc:=qac aO cY;have y1:=x1.below cY x1.lt;have y2:=x2.below cY x2.lt;have y3:=x3.below cY x3.lt;have y4:=x4.below cY x4.lt;have c3:=y3.cell;obtain⟨e1,_,_⟩:=pT _ kC
  gi_wp2_with ((first|refine⟨trivial,b_ _,?_⟩|refine⟨trivial,?_⟩);gi_at_call 191;refine(xrv.2 (e9 _ (fun n hn=>(h.ins n hn).below kC))).mono ?_;rintro e W ⟨rfl,rfl,aI⟩)
  obtain⟨W,hW⟩:∃W,W=wc.alloc (.cells #[vP p.q] 97):=⟨_,rfl⟩;have JM:w.heap.size+4<=wc.heap.size:=by have:=cY.size;omega
  have dk:W.heap.size=wc.heap.size+1:=by rw[hW];simp
  have z1:Box W w.heap.size 186 (vP rr):=by rw[hW];exact y1.alloc _
  have z2:Box W (w.heap.size+1) 95 (vP q.blk):=by rw[hW];exact y2.alloc _
  have z3:Box W (w.heap.size+1+1) 95 (vP p.blk):=by rw[hW];exact y3.alloc _
  have z4:Box W (w.heap.size+1+1+1) 4 (.bool false):=by rw[hW];exact y4.alloc _
  have z7:Blk W b7 35 #[vI o0,vI o1]:=by rw[hW];exact oJ.alloc _
  have cn:Bw w W:=by rw[hW];exact kC.alloc kC.size _
  have MP:=oJ.lt;simp only[<-hW]at aI ⊢;have ie:=aI (fun b=>b=w.heap.size+1+1+1\/W.heap.size<=b) (fun k hk=>⟨fun e=>by have:=(h.ins k hk).lt;omega,fun g hg e=>by have:=((h.ins k hk).row.lt g hg).2;omega⟩);clear aI e9 hW x1 x2 x3 x4 y1 y2 y3 y4 c3 e1 oJ;have a7:∀b,b<W.heap.size->¬(False\/W.heap.size<=b):=fun b hb e=>by rcases e with e|e;exact e;omega
  refine qgy (T:=fun b=>b=w.heap.size+1+1+1) (S:=fun _=>False) rfl (enters_of func223 (by kernel_rfl) rfl) ie (Below.refl _ _) rfl (fun b e=>e.elim) (fun b e=>by omega)
   (fun pre A=>pre.any (qgt nodes l p.x q.x)=false/\(Box A w.heap.size 186 (vP rr)/\Box A (w.heap.size+1) 95 (vP q.blk)/\Box A (w.heap.size+1+1) 95 (vP p.blk)/\Box A (w.heap.size+1+1+1) 4 (.bool false)/\Blk A b7 35 #[vI o0,vI o1])/\Bw w A)
   (fun c pre A=>c=.ret/\pre.any (qgt nodes l p.x q.x)=true/\Box A (w.heap.size+1+1+1) 4 (.bool true)/\Bw w A)
   (fun pre A B hs hk=>⟨hs.1,⟨hs.2.1.1.keep hk (a7 _ (by omega)),hs.2.1.2.1.keep hk (a7 _ (by omega)),hs.2.1.2.2.1.keep hk (a7 _ (by omega)),hs.2.1.2.2.2.1.keep hk (a7 _ (by omega)),hs.2.1.2.2.2.2.keep hk (a7 _ (by omega))⟩,hs.2.2.trans (hk.toBelow hs.2.2.size (fun b aZ=>a7 b (by omega)))⟩)
   (fun c pre A B hs hk=>⟨hs.1,hs.2.1,hs.2.2.1.keep hk (a7 _ (by omega)),hs.2.2.2.trans (hk.toBelow hs.2.2.2.size (fun b aZ=>a7 b (by omega)))⟩)
   ⟨rfl,⟨z1,z2,z3,z4,z7⟩,cn⟩
   (fun x=>{tmps:=#[vP rr,vP q.blk,vP p.blk,vP w.heap.size,vP (w.heap.size+1),vP (w.heap.size+1+1),vP (w.heap.size+1+1+1),vP b7,vP x.blk,undef,u10,u11,u12,u13,u14,u15,u16,u17,u18,u19,u20,u21,u22,u23,u24,vP p.blk,vP p.blk,.pointer (some (vA p.blk 1)),vP p.q,.func (.func 223) #[] #[vP wc.heap.size],vP x.blk,undef,undef,undef,undef,undef,undef,undef,undef,undef,undef,undef,undef,undef,undef,undef,undef,undef,undef,undef,undef,undef,undef,undef,undef,undef],defers:=[]}) ?assign ?body ?done ?stop
  case assign =>
   intro l x W K hK
   gi_wp2
   exact hK
  case body =>
   rintro l2 pre x W2 ⟨a8,⟨k1,k2,k3,k4,k7⟩,ae⟩ gP aC
   have cg:=((ai x).1 (aC.subset (by simp))).1;have jw:∀W,Bw w W->Cl 216 #[vP rr,vP x.blk,.agg #[vI p.x.d0,vI p.x.d1]] W fun e w'=>e=.returned (.agg #[vI (shq0 nodes l x p.x.d0),vI (shq1 nodes l x p.x.d1)])/\Bw W w':=fun W hW=>qjp T hB (h.below hW) cg p.x.d0 p.x.d1 hp.num.1 hp.num.2
   have cH:∀W,Bw w W->Cl 142 #[vP q.q,vP x.blk] W fun e w'=>e=.returned (.bool (x.key.isPrefixOf m.key))/\Bw W w':=fun W hW=>by
    have:=qsg T hB hm cg W (h.below hW).ins
    rw[pO]at this;exact this
   have GK:(0<=shq0 nodes l x p.x.d0/\shq0 nodes l x p.x.d0<=100000)/\(0<=shq1 nodes l x p.x.d1/\shq1 nodes l x p.x.d1<=100000):=by
    have u1:=h.ubd x.key;have u2:=qna T x.key;have u3:=T.num x cg;have u4:=hp.num;unfold shq0 shq1 abv
    omega
   have qM:Hid (qgt nodes l p.x q.x x=_):=HO.out x;generalize shq0 nodes l x p.x.d0=s0 at jw qM GK;generalize shq1 nodes l x p.x.d1=s1 at jw qM GK;generalize x.key.isPrefixOf m.key=Kf at cH qM;have tb:=hq.num;have dV:=fun W sb (hs:Blk W sb 35 #[vI o0,vI o1,vI q.x.d0,vI q.x.d1])=>qqo s0 s1 o0 o1 q.x.d0 q.x.d1 W hs (by omega) (by omega) (by omega) (by omega) (by omega) (by omega) (by omega) (by omega) (by omega) (by omega) (by omega) (by omega)
   generalize min (min s0 o0) q.x.d0=e0 at dV qM;generalize min (min s1 o1) q.x.d1=e1 at dV qM;have ia:=fun W=>qwk e0 e1 0 0 W
   have cO:Hid (pre.any (qgt nodes l p.x q.x)=false):=a8;have l1:=k1.lt;have Em:=k2.lt;have l3:=k3.lt;have l4:=k4.lt;have l7:=k7.lt;have lp:=(hp.below ae).at_.lt;have lq:=(hq.below ae).at_.lt;obtain⟨p1,p2,p3⟩:=pT _ ae;obtain⟨q1,q2,q3⟩:=DJ _ ae;have y_:prog.follows .mixedOrders=true:=by kernel_rfl
   clear a8 ai ie aC b_ HO;have eN:∀W',Bw W2 W'->W'.cell? (vA w.heap.size 0)=some (vP rr)/\W'.cell? (vA (w.heap.size+1+1) 0)=some (vP p.blk)/\W'.cell? (vA p.blk 2)=some (vI p.x.d0)/\W'.cell? (vA p.blk 3)=some (vI p.x.d1)/\Bw W2 W':=fun W' bI=>⟨(k1.below bI l1).cell,(k3.below bI l3).cell,(bI.cell (p:=vA p.blk 2) lp).trans p2,(bI.cell (p:=vA p.blk 3) lp).trans p3,bI⟩
   have pv:∀W',Bw W2 W'->∃(_:Box W' (w.heap.size+1+1+1) 4 (.bool false)),(Box W' w.heap.size 186 (vP rr)/\Box W' (w.heap.size+1) 95 (vP q.blk)/\Box W' (w.heap.size+1+1) 95 (vP p.blk)/\Box W' (w.heap.size+1+1+1) 4 (.bool false)/\Blk W' b7 35 #[vI o0,vI o1]):=fun W' bI=>⟨k4.below bI l4,k1.below bI l1,k2.below bI Em,k3.below bI l3,k4.below bI l4,k7.below bI l7⟩
   have GZ:Hid (∀W',Bw W2 W'->W'.cell? (vA w.heap.size 0)=some (vP rr)/\W'.cell? (vA (w.heap.size+1+1) 0)=some (vP p.blk)/\W'.cell? (vA p.blk 2)=some (vI p.x.d0)/\W'.cell? (vA p.blk 3)=some (vI p.x.d1)/\Bw W2 W'):=eN
   gi_upto_region 4 with fail
   refine wpIn_mono (Q:=Exit.then (fun a4 W4=>∃b9:Nat,a4={tmps:=#[vP rr,vP q.blk,vP p.blk,vP w.heap.size,vP (w.heap.size+1),vP (w.heap.size+1+1),vP (w.heap.size+1+1+1),vP b7,vP x.blk,vP b9,u10,u11,u12,u13,u14,u15,u16,u17,u18,u19,u20,u21,u22,u23,u24,vP p.blk,vP p.blk,.pointer (some (vA p.blk 1)),vP p.q,.func (.func 223) #[] #[vP wc.heap.size],vP x.blk,vP rr,vP x.blk,vP p.blk,vP p.blk,.pointer (some (vA p.blk 2)),.agg #[vI p.x.d0,vI p.x.d1],.agg #[vI s0,vI s1],undef,undef,undef,undef,undef,undef,undef,undef,undef,undef,undef,undef,undef,undef,undef,undef,undef,undef],defers:=[]}/\Bw W2 W4/\Blk W4 b9 35 #[vI s0,vI s1]/\W2.heap.size<=b9) (fun _ _ _=>False)) ?r4 ?r5
   case r4 =>
    refine qdk (fun W'=>W'.cell? (vA w.heap.size 0)=some (vP rr)/\W'.cell? (vA (w.heap.size+1+1) 0)=some (vP p.blk)/\W'.cell? (vA p.blk 2)=some (vI p.x.d0)/\W'.cell? (vA p.blk 3)=some (vI p.x.d1)/\Bw W2 W') (by kernel_rfl) (by kernel_rfl) (eN _ (by exact bel2)) (fun hS=>?_)
    refine wpAnyH_take (i:=0) (v:=vP rr) rfl (by kernel_rfl) (by kernel_rfl) (by kernel_rfl) (fun _ _ _ h=>absurd h.1 (by intro e;cases e)) (Or.inl ⟨by rfl,?_⟩) hS ?_
    ·intro w' bY;obtain⟨s1,s2,s3,s4,s5⟩:=bY
     go_simp
    try simp only[xr5,xr3,xr4,Act.put,xr6,xr8,xr7]
    refine wpAnyH_take (i:=1) (v:=vP x.blk) rfl (by kernel_rfl) (by kernel_rfl) (by kernel_rfl) (fun _ _ _ h=>absurd h.1 (by intro e;cases e)) (Or.inl ⟨by rfl,?_⟩) hS ?_
    ·intro w' bY;obtain⟨s1,s2,s3,s4,s5⟩:=bY
     go_simp
    try simp only[xr5,xr3,xr4,Act.put,xr6,xr8,xr7]
    refine wpAnyH_take (i:=2) (v:=vP p.blk) rfl (by kernel_rfl) (by kernel_rfl) (by kernel_rfl) (fun _ _ _ h=>absurd h.1 (by intro e;cases e)) (Or.inl ⟨by rfl,?_⟩) hS ?_
    ·intro w' bY;obtain⟨s1,s2,s3,s4,s5⟩:=bY
     go_simp
    try simp only[xr5,xr3,xr4,Act.put,xr6,xr8,xr7]
    refine wpAnyH_take (i:=3) (v:=vP p.blk) rfl (by kernel_rfl) (by kernel_rfl) (by kernel_rfl) (fun _ _ _ h=>absurd h.1 (by intro e;cases e)) (Or.inl ⟨by rfl,?_⟩) hS ?_
    ·intro w' bY;obtain⟨s1,s2,s3,s4,s5⟩:=bY
     go_simp
    try simp only[xr5,xr3,xr4,Act.put,xr6,xr8,xr7]
    refine wpAnyH_take (i:=4) (v:=.pointer (some (vA p.blk 2))) rfl (by kernel_rfl) (by kernel_rfl) (by kernel_rfl) (fun _ _ _ h=>absurd h.1 (by intro e;cases e)) (Or.inl ⟨by rfl,?_⟩) hS ?_
    ·intro w' bY;obtain⟨s1,s2,s3,s4,s5⟩:=bY
     go_simp
    try simp only[xr5,xr3,xr4,Act.put,xr6,xr8,xr7]
    refine wpAnyH_take (i:=5) (v:=.agg #[vI p.x.d0,vI p.x.d1]) rfl (by kernel_rfl) (by kernel_rfl) (by kernel_rfl) (fun _ _ _ h=>absurd h.1 (by intro e;cases e)) (Or.inl ⟨by rfl,?_⟩) hS ?_
    ·intro w' bY;obtain⟨s1,s2,s3,s4,s5⟩:=bY
     go_simp
    try simp only[xr5,xr3,xr4,Act.put,xr6,xr8,xr7]
    refine wpAnyH_ready (rs:=[6,7]) (by kernel_rfl) (by simp) ?_
    refine AllReadyH.cons rfl (fun K' hK=>?_) (AllReadyH.cons rfl (fun K' hK=>?_) AllReadyH.nil)
    ·rw[if_pos (by rfl)]
     try simp only[xr5,xr3,xr4]
     go_simp
     refine(jw _ (qac ae (by exact bel2))).mono ?_
     rintro e W3 ⟨rfl,fh⟩
     have ax:Bw W2 W3:=qac (show Bw W2 W2.drew by exact bel2) fh;have nA:=ax.size
     refine hK.out _ _ (eN _ ax) (fun hS=>?_)
     clear hK
     try simp only[xr5,xr3,xr4,Act.put,xr6,xr8,xr7]
     refine wpAnyH_ready (rs:=[7]) (by kernel_rfl) (by simp) ?_
     refine AllReadyH.cons rfl (fun K' hK=>?_) AllReadyH.nil
     rw[if_pos (by rfl)]
     try simp only[xr5,xr3,xr4]
     go_simp
     refine hK.out _ _ (eN _ (by exact bel2)) (fun hS=>?_)
     clear hK
     try simp only[xr5,xr3,xr4,Act.put,xr6,xr8,xr7]
     refine wpAnyH_ready (rs:=[8]) (by kernel_rfl) (by simp) ?_
     refine AllReadyH.cons rfl (fun K' hK=>?_) AllReadyH.nil
     rw[if_pos (by rfl)]
     try simp only[xr5,xr3,xr4]
     go_simp
     refine hK.out _ _ (eN _ (by exact bel2)) (fun hS=>?_)
     clear hK
     refine wpAnyH_done (by kernel_rfl) ⟨rfl,?_⟩ _
     exact⟨W3.heap.size,rfl,ax.alloc nA _,Blk.new' rfl,nA⟩
    ·rw[if_pos (by rfl)]
     try simp only[xr5,xr3,xr4]
     go_simp
     refine hK.out _ _ (eN _ (by exact bel2)) (fun hS=>?_)
     clear hK
     try simp only[xr5,xr3,xr4,Act.put,xr6,xr8,xr7]
     refine wpAnyH_ready (rs:=[6]) (by kernel_rfl) (by simp) ?_
     refine AllReadyH.cons rfl (fun K' hK=>?_) AllReadyH.nil
     rw[if_pos (by rfl)]
     try simp only[xr5,xr3,xr4]
     go_simp
     refine(jw _ (qac ae (by exact bel2))).mono ?_
     rintro e W3 ⟨rfl,fh⟩
     have b9:Blk W3 W2.heap.size 35 #[vI 0,vI 0]:=Blk.below (by first|(with_reducible exact Blk.new' (by simp))|(with_reducible exact Blk.drew (Blk.new' (by simp)))|(exact Blk.new W2.drew 35 _)) fh (by simp);have ax:Bw W2 W3:=qac (by exact bel2) fh;have nA:=ax.size;have c9:=b9.cell;have f9:=b9.frozen
     refine hK.out _ _ (eN _ ax) (fun hS=>?_)
     clear hK
     try simp only[xr5,xr3,xr4,Act.put,xr6,xr8,xr7]
     refine wpAnyH_ready (rs:=[8]) (by kernel_rfl) (by simp) ?_
     refine AllReadyH.cons rfl (fun K' hK=>?_) AllReadyH.nil
     rw[if_pos (by rfl)]
     try simp only[xr5,xr3,xr4]
     go_simp
     refine hK.out _ _ (eN _ (qbk ax (Nat.le_refl _) ..)) (fun hS=>?_)
     clear hK
     refine wpAnyH_done (by kernel_rfl) ⟨rfl,?_⟩ _
     exact⟨W2.heap.size,rfl,qbk ax (Nat.le_refl _) ..,qc4 b9 ..,Nat.le_refl _⟩
   case r5 =>
    intro e a4 W4 Gh
    cases e with
    |normal =>
     obtain⟨b9,rfl,a_,Au,MQ⟩:=Gh;clear eN GZ jw;have dU:Bw w W4:=qac ae a_;obtain⟨g4,g1,g2,g3,_,g7⟩:=pv _ a_;obtain⟨Ew,GG,GH⟩:=DJ _ dU;have G6:=Au.lt;have vM:=a_.size;have lQ:∀W',Bw W4 W'->W'.cell? (vA (w.heap.size+1) 0)=some (vP q.blk)/\W'.cell? (vA q.blk 1)=some (vP q.q)/\W'.cell? (vA q.blk 2)=some (vI q.x.d0)/\W'.cell? (vA q.blk 3)=some (vI q.x.d1)/\W'.cell? (vA b9 0)=some (vI s0)/\W'.cell? (vA b9 1)=some (vI s1)/\W'.cell? (vA b7 0)=some (vI o0)/\W'.cell? (vA b7 1)=some (vI o1)/\Bw W4 W':=fun W' bI=>⟨(g2.below bI g2.lt).cell,(bI.cell (p:=vA q.blk 1) (xrg lq vM)).trans Ew,(bI.cell (p:=vA q.blk 2) (xrg lq vM)).trans GG,(bI.cell (p:=vA q.blk 3) (xrg lq vM)).trans GH,(Au.below bI G6).cell 0,(Au.below bI G6).cell 1,(g7.below bI g7.lt).cell 0,(g7.below bI g7.lt).cell 1,bI⟩
     have cG:=fun W' (bI:Bw W4 W')=>pv W' (qac a_ bI)
     clear k1 k2 k3 k4 k7 p1 p2 p3 q1 q2 q3 g1 g2 g3 g4 g7 Ew GG GH Au pv
     gi_upto_region 5 with fail
     refine qdk (fun W'=>W'.cell? (vA (w.heap.size+1) 0)=some (vP q.blk)/\W'.cell? (vA q.blk 1)=some (vP q.q)/\W'.cell? (vA q.blk 2)=some (vI q.x.d0)/\W'.cell? (vA q.blk 3)=some (vI q.x.d1)/\W'.cell? (vA b9 0)=some (vI s0)/\W'.cell? (vA b9 1)=some (vI s1)/\W'.cell? (vA b7 0)=some (vI o0)/\W'.cell? (vA b7 1)=some (vI o1)/\Bw W4 W') (by kernel_rfl) (by kernel_rfl) (lQ _ (by exact bel2)) (fun hS=>?_)
     refine wpAnyH_take (i:=0) (v:=vP q.blk) rfl (by kernel_rfl) (by kernel_rfl) (by kernel_rfl) (fun _ _ _ h=>absurd h.1 (by intro e;cases e)) (Or.inl ⟨by rfl,?_⟩) hS ?_
     ·intro w' bY;obtain⟨s1,s2,s3,s4,s5,s6,s7,s8,s9⟩:=bY
      go_simp
     try simp only[xr5,xr3,xr4,Act.put,xr6,xr8,xr7]
     refine wpAnyH_take (i:=1) (v:=vP q.blk) rfl (by kernel_rfl) (by kernel_rfl) (by kernel_rfl) (fun _ _ _ h=>absurd h.1 (by intro e;cases e)) (Or.inl ⟨by rfl,?_⟩) hS ?_
     ·intro w' bY;obtain⟨s1,s2,s3,s4,s5,s6,s7,s8,s9⟩:=bY
      go_simp
     try simp only[xr5,xr3,xr4,Act.put,xr6,xr8,xr7]
     refine wpAnyH_take (i:=2) (v:=.pointer (some (vA q.blk 1))) rfl (by kernel_rfl) (by kernel_rfl) (by kernel_rfl) (fun _ _ _ h=>absurd h.1 (by intro e;cases e)) (Or.inl ⟨by rfl,?_⟩) hS ?_
     ·intro w' bY;obtain⟨s1,s2,s3,s4,s5,s6,s7,s8,s9⟩:=bY
      go_simp
     try simp only[xr5,xr3,xr4,Act.put,xr6,xr8,xr7]
     refine wpAnyH_take (i:=3) (v:=vP q.q) rfl (by kernel_rfl) (by kernel_rfl) (by kernel_rfl) (fun _ _ _ h=>absurd h.1 (by intro e;cases e)) (Or.inl ⟨by rfl,?_⟩) hS ?_
     ·intro w' bY;obtain⟨s1,s2,s3,s4,s5,s6,s7,s8,s9⟩:=bY
      go_simp
     try simp only[xr5,xr3,xr4,Act.put,xr6,xr8,xr7]
     refine wpAnyH_take (i:=4) (v:=vP x.blk) rfl (by kernel_rfl) (by kernel_rfl) (by kernel_rfl) (fun _ _ _ h=>absurd h.1 (by intro e;cases e)) (Or.inl ⟨by rfl,?_⟩) hS ?_
     ·intro w' bY;obtain⟨s1,s2,s3,s4,s5,s6,s7,s8,s9⟩:=bY
      go_simp
     try simp only[xr5,xr3,xr4,Act.put,xr6,xr8,xr7]
     refine wpAnyH_ready (rs:=[5]) (by kernel_rfl) (by simp) ?_
     refine AllReadyH.cons rfl (fun K' hK=>?_) AllReadyH.nil
     rw[if_pos (by rfl)]
     try simp only[xr5,xr3,xr4]
     go_simp
     refine(cH _ (qac dU (by exact bel2))).mono ?_
     rintro e W5 ⟨rfl,fh⟩
     have aG:Bw W4 W5:=qac (show Bw W4 W4.drew by exact bel2) fh;have Bd:=aG.size
     refine hK.out _ _ (lQ _ aG) (fun hS=>?_)
     clear hK
     try simp only[xr5,xr3,xr4,Act.put,xr6,xr8,xr7]
     cases Kf
     ·refine wpAnyH_take (i:=6) (v:=.bool false) rfl (by kernel_rfl) (by kernel_rfl) (by kernel_rfl) (fun _ _ _ h=>absurd h.1 (by intro e;cases e)) (Or.inl ⟨by rfl,?_⟩) hS ?_
      ·intro w' bY;obtain⟨s1,s2,s3,s4,s5,s6,s7,s8,s9⟩:=bY
       go_simp
      try simp only[xr5,xr3,xr4,Act.put,xr6,xr8,xr7]
      refine wpAnyH_take (i:=7) (v:=undef) rfl (by kernel_rfl) (by kernel_rfl) (by kernel_rfl) (fun _ _ _ h=>absurd h.1 (by intro e;cases e)) (Or.inr ⟨by rfl,rfl⟩) hS ?_
      try simp only[xr5,xr3,xr4,Act.put,xr6,xr8,xr7]
      refine wpAnyH_take (i:=8) (v:=undef) rfl (by kernel_rfl) (by kernel_rfl) (by kernel_rfl) (fun _ _ _ h=>absurd h.1 (by intro e;cases e)) (Or.inr ⟨by rfl,rfl⟩) hS ?_
      try simp only[xr5,xr3,xr4,Act.put,xr6,xr8,xr7]
      refine wpAnyH_take (i:=9) (v:=undef) rfl (by kernel_rfl) (by kernel_rfl) (by kernel_rfl) (fun _ _ _ h=>absurd h.1 (by intro e;cases e)) (Or.inr ⟨by rfl,rfl⟩) hS ?_
      try simp only[xr5,xr3,xr4,Act.put,xr6,xr8,xr7]
      refine wpAnyH_take (i:=10) (v:=undef) rfl (by kernel_rfl) (by kernel_rfl) (by kernel_rfl) (fun _ _ _ h=>absurd h.1 (by intro e;cases e)) (Or.inr ⟨by rfl,rfl⟩) hS ?_
      try simp only[xr5,xr3,xr4,Act.put,xr6,xr8,xr7]
      refine wpAnyH_take (i:=11) (v:=undef) rfl (by kernel_rfl) (by kernel_rfl) (by kernel_rfl) (fun _ _ _ h=>absurd h.1 (by intro e;cases e)) (Or.inr ⟨by rfl,rfl⟩) hS ?_
      try simp only[xr5,xr3,xr4,Act.put,xr6,xr8,xr7]
      refine wpAnyH_take (i:=12) (v:=undef) rfl (by kernel_rfl) (by kernel_rfl) (by kernel_rfl) (fun _ _ _ h=>absurd h.1 (by intro e;cases e)) (Or.inr ⟨by rfl,rfl⟩) hS ?_
      try simp only[xr5,xr3,xr4,Act.put,xr6,xr8,xr7]
      refine wpAnyH_take (i:=13) (v:=undef) rfl (by kernel_rfl) (by kernel_rfl) (by kernel_rfl) (fun _ _ _ h=>absurd h.1 (by intro e;cases e)) (Or.inr ⟨by rfl,rfl⟩) hS ?_
      try simp only[xr5,xr3,xr4,Act.put,xr6,xr8,xr7]
      refine wpAnyH_take (i:=14) (v:=undef) rfl (by kernel_rfl) (by kernel_rfl) (by kernel_rfl) (fun _ _ _ h=>absurd h.1 (by intro e;cases e)) (Or.inr ⟨by rfl,rfl⟩) hS ?_
      try simp only[xr5,xr3,xr4,Act.put,xr6,xr8,xr7]
      refine wpAnyH_take (i:=15) (v:=undef) rfl (by kernel_rfl) (by kernel_rfl) (by kernel_rfl) (fun _ _ _ h=>absurd h.1 (by intro e;cases e)) (Or.inr ⟨by rfl,rfl⟩) hS ?_
      try simp only[xr5,xr3,xr4,Act.put,xr6,xr8,xr7]
      refine wpAnyH_take (i:=16) (v:=undef) rfl (by kernel_rfl) (by kernel_rfl) (by kernel_rfl) (fun _ _ _ h=>absurd h.1 (by intro e;cases e)) (Or.inr ⟨by rfl,rfl⟩) hS ?_
      try simp only[xr5,xr3,xr4,Act.put,xr6,xr8,xr7]
      refine wpAnyH_take (i:=17) (v:=.bool false) rfl (by kernel_rfl) (by kernel_rfl) (by kernel_rfl) (fun _ _ _ h=>absurd h.1 (by intro e;cases e)) (Or.inl ⟨by rfl,?_⟩) hS ?_
      ·intro w' bY;obtain⟨s1,s2,s3,s4,s5,s6,s7,s8,s9⟩:=bY
       go_simp
      try simp only[xr5,xr3,xr4,Act.put,xr6,xr8,xr7]
      refine wpAnyH_done (by kernel_rfl) ⟨rfl,?_⟩ _
      obtain⟨g4,wD⟩:=cG _ aG;have kc:=g4.cell;have kf:=g4.frozen
      gi_wp2_with fail
      refine⟨Keep.new (qac a_ aG),?_,wD,qac ae (qac a_ aG)⟩
      rw[List.any_append,cO.out]
      simp[qM.out]
     ·refine wpAnyH_take (i:=6) (v:=.bool true) rfl (by kernel_rfl) (by kernel_rfl) (by kernel_rfl) (fun _ _ _ h=>absurd h.1 (by intro e;cases e)) (Or.inl ⟨by rfl,?_⟩) hS ?_
      ·intro w' bY;obtain⟨s1,s2,s3,s4,s5,s6,s7,s8,s9⟩:=bY
       go_simp
      try simp only[xr5,xr3,xr4,Act.put,xr6,xr8,xr7]
      refine wpAnyH_take (i:=7) (v:=.agg #[vI s0,vI s1]) rfl (by kernel_rfl) (by kernel_rfl) (by kernel_rfl) (fun _ _ _ h=>absurd h.1 (by intro e;cases e)) (Or.inl ⟨by rfl,?_⟩) hS ?_
      ·intro w' bY;obtain⟨s1,s2,s3,s4,s5,s6,s7,s8,s9⟩:=bY
       go_simp
      try simp only[xr5,xr3,xr4,Act.put,xr6,xr8,xr7]
      refine wpAnyH_take (i:=8) (v:=.agg #[vI o0,vI o1]) rfl (by kernel_rfl) (by kernel_rfl) (by kernel_rfl) (fun _ _ _ h=>absurd h.1 (by intro e;cases e)) (Or.inl ⟨by rfl,?_⟩) hS ?_
      ·intro w' bY;obtain⟨s1,s2,s3,s4,s5,s6,s7,s8,s9⟩:=bY
       go_simp
      try simp only[xr5,xr3,xr4,Act.put,xr6,xr8,xr7]
      refine wpAnyH_take (i:=9) (v:=vP q.blk) rfl (by kernel_rfl) (by kernel_rfl) (by kernel_rfl) (fun _ _ _ h=>absurd h.1 (by intro e;cases e)) (Or.inl ⟨by rfl,?_⟩) hS ?_
      ·intro w' bY;obtain⟨s1,s2,s3,s4,s5,s6,s7,s8,s9⟩:=bY
       go_simp
      try simp only[xr5,xr3,xr4,Act.put,xr6,xr8,xr7]
      refine wpAnyH_take (i:=10) (v:=vP q.blk) rfl (by kernel_rfl) (by kernel_rfl) (by kernel_rfl) (fun _ _ _ h=>absurd h.1 (by intro e;cases e)) (Or.inl ⟨by rfl,?_⟩) hS ?_
      ·intro w' bY;obtain⟨s1,s2,s3,s4,s5,s6,s7,s8,s9⟩:=bY
       go_simp
      try simp only[xr5,xr3,xr4,Act.put,xr6,xr8,xr7]
      refine wpAnyH_take (i:=11) (v:=.pointer (some (vA q.blk 2))) rfl (by kernel_rfl) (by kernel_rfl) (by kernel_rfl) (fun _ _ _ h=>absurd h.1 (by intro e;cases e)) (Or.inl ⟨by rfl,?_⟩) hS ?_
      ·intro w' bY;obtain⟨s1,s2,s3,s4,s5,s6,s7,s8,s9⟩:=bY
       go_simp
      try simp only[xr5,xr3,xr4,Act.put,xr6,xr8,xr7]
      refine wpAnyH_take (i:=12) (v:=.agg #[vI q.x.d0,vI q.x.d1]) rfl (by kernel_rfl) (by kernel_rfl) (by kernel_rfl) (fun _ _ _ h=>absurd h.1 (by intro e;cases e)) (Or.inl ⟨by rfl,?_⟩) hS ?_
      ·intro w' bY;obtain⟨s1,s2,s3,s4,s5,s6,s7,s8,s9⟩:=bY
       go_simp
      try simp only[xr5,xr3,xr4,Act.put,xr6,xr8,xr7]
      refine wpAnyH_take (i:=15) (v:=.agg #[vI 0,vI 0]) rfl (by kernel_rfl) (by kernel_rfl) (by kernel_rfl) (fun _ _ _ h=>absurd h.1 (by intro e;cases e)) (Or.inl ⟨by rfl,?_⟩) hS ?_
      ·intro w' bY;obtain⟨s1,s2,s3,s4,s5,s6,s7,s8,s9⟩:=bY
       go_simp
      try simp only[xr5,xr3,xr4,Act.put,xr6,xr8,xr7]
      refine wpAnyH_ready (rs:=[13]) (by kernel_rfl) (by simp) ?_
      refine AllReadyH.cons rfl (fun K' hK=>?_) AllReadyH.nil
      rw[if_pos (by rfl)]
      try simp only[xr5,xr3,xr4]
      go_simp
      refine hK.out _ _ (lQ _ (by exact bel2)) (fun hS=>?_)
      clear hK
      try simp only[xr5,xr3,xr4,Act.put,xr6,xr8,xr7]
      refine wpAnyH_ready (rs:=[14]) (by kernel_rfl) (by simp) ?_
      refine AllReadyH.cons rfl (fun K' hK=>?_) AllReadyH.nil
      rw[if_pos (by rfl)]
      try simp only[xr5,xr3,xr4]
      go_simp
      refine(dV _ _ (Blk.new _ 35 _)).mono ?_
      rintro e W6 ⟨rfl,IQ⟩
      have gW:Bw W4 W6:=qac (by exact bel2) IQ
      refine hK.out _ _ (lQ _ gW) (fun hS=>?_)
      clear hK
      try simp only[xr5,xr3,xr4,Act.put,xr6,xr8,xr7]
      refine wpAnyH_take (i:=16) (v:=.bool (!(e0 == 0&&e1 == 0))) rfl (by kernel_rfl) (by kernel_rfl) (by kernel_rfl) (fun _ _ _ h=>absurd h.1 (by intro e;cases e)) (Or.inl ⟨by rfl,?_⟩) hS ?_
      ·intro w' bY;obtain⟨s1,s2,s3,s4,s5,s6,s7,s8,s9⟩:=bY
       go_simp
      try simp only[xr5,xr3,xr4,Act.put,xr6,xr8,xr7]
      refine wpAnyH_take (i:=17) (v:=.bool (!(e0 == 0&&e1 == 0))) rfl (by kernel_rfl) (by kernel_rfl) (by kernel_rfl) (fun _ _ _ h=>absurd h.1 (by intro e;cases e)) (Or.inl ⟨by rfl,?_⟩) hS ?_
      ·intro w' bY;obtain⟨s1,s2,s3,s4,s5,s6,s7,s8,s9⟩:=bY
       go_simp
      try simp only[xr5,xr3,xr4,Act.put,xr6,xr8,xr7]
      refine wpAnyH_done (by kernel_rfl) ⟨rfl,?_⟩ _
      generalize kT:(e0 == 0&&e1 == 0)=bv at qM;clear kT ia;obtain⟨g4,wD⟩:=cG _ gW;have kc:=g4.cell;have kf:=g4.frozen
      cases bv
      ·gi_wp2_with fail
       refine⟨((Keep.new (T:=fun b=>b=w.heap.size+1+1+1) (qac a_ gW)).setCell (p:=vA (w.heap.size+1+1+1) 0) rfl _),rfl,?_,g4.set _,(qac ae (qac a_ gW)).setCell (by simp;omega) _⟩
       rw[List.any_append,cO.out]
       simp[qM.out]
      ·gi_wp2_with fail
       refine⟨Keep.new (qac a_ gW),?_,wD,qac ae (qac a_ gW)⟩
       rw[List.any_append,cO.out]
       simp[qM.out]
    |_=>exact Gh.elim
  case done =>
   rintro A ⟨a8,⟨k1,k2,k3,k4,k7⟩,ae⟩ hD
   have hc:=k4.cell;have hf:=k4.frozen
   gi_wp2
   have jl:(A.setCell (vA (w.heap.size+1+1+1) 0) (.bool false)).heap[W.heap.size]?=some (.deferred (some [])):=(Below.heap_setCell _ _ _ _ (by simp;omega)).trans hD;have af:=((k4.set (.bool false)).put W.heap.size (.deferred none) (by omega)).cell
   refine⟨by simp,.inl ⟨_,_,rfl,run_takeDeferred jl,?_⟩⟩
   exact⟨.bool false,by simp[results,results231,go_sem,af],qa9 a8.symm,qa8 (ae.setCell (by simp;omega) _) _ _ (by omega)⟩
  case stop =>
   rintro c pre A aC ⟨rfl,hv,bC,ae⟩ hD
   gi_wp2
   have af:=(bC.put W.heap.size (.deferred none) (by omega)).cell
   refine⟨by simp,.inl ⟨_,_,rfl,run_takeDeferred hD,?_⟩⟩
   refine⟨.bool true,by simp[results,results231,go_sem,af],qa9 ?_,qa8 ae _ _ (by omega)⟩
   symm
   rw[xs0]at hv ⊢;obtain⟨y,hy,od⟩:=hv
   exact⟨y,aC.subset hy,od⟩
end
section
open Go.RowKit
variable {x:Wk}{as_ ws:List Pw}{Ws az:List Wk}{i iw ix:Nat}{p:Pw}{nodes:List Node}{st:Int}{n:Node}
theorem qvf(x:Wk)(s t:Int):(x.adm s).adm t=x.adm t:=rfl
theorem qtj(h:x.st=0):x.adm 0=x:=by cases x;simp[Wk.adm]at *;exact h.symm
theorem qqp(L:List Ent)(Ws:List Wk)(x v:Wk):way L Ws x (v.adm 0)=way L Ws x v:=rfl
def vicP (nodes:List Node)(as_:List Pw)(x:Wk)(n:Node):Option Pw:=as_.reverse.find? fun p=>(ups nodes 4 n).any (qgt nodes as_ x p.x)
theorem Rel.qv2{nodes:List Node}{Ws:List Wk}{ws:List Pw}(h:as_.map (·.x)=az.map (·.adm 0))(hi:as_[i]?=some p):∃v,az[i]?=some v/\p.x=v.adm 0:=by
 have:=congrArg (fun l=>l[i]?) h
 simp only[xrs,hi,Option.map_some]at this
 cases hz:az[i]? with
 |none=>rw[hz]at this;cases this
 |some v=>rw[hz]at this;simp at this;exact⟨v,rfl,this⟩
theorem Rel.qwr(h:as_.map (·.x)=az.map (·.adm 0)){v:Wk}(hi:az[i]?=some v):∃p,as_[i]?=some p/\p.x=v.adm 0:=by
 have:=congrArg (fun l=>l[i]?) h
 simp only[xrs,hi,Option.map_some]at this
 cases hz:as_[i]? with
 |none=>rw[hz]at this;cases this
 |some p=>rw[hz]at this;simp at this;exact⟨p,rfl,this⟩
theorem Rel.qtk(R:Rel nodes Ws ws as_)(T:Tree nodes)(hS:WkS Ws st)(hn:n∈nodes)(hk:n.key=x.key)(h:vicP nodes as_ x n=none):qch (nodes.map Node.ent) Ws x=none:=by
 refine qji fun u hu h0=>?_
 obtain⟨az,h1,h2,_⟩:=R.a;have wT:0<u.st:=by have:=(hS.st u hu).1;omega
 have zy:u∈az:=h2.mem_iff.2 (xrr.2 ⟨hu,by simp[wT]⟩);obtain⟨j,hj⟩:=xre zy;obtain⟨p,hp,lU⟩:=Rel.qwr h1 hj;unfold vicP at h;rw[List.find?_eq_none]at h
 have:=h p (List.mem_reverse.2 (xr2 hp))
 have e:=R.way (x:=x) (v:=u.adm 0) T hS.wks hn hk (hS.wks.ok u hu).1 ⟨(hS.wks.num u hu).1.1,(hS.wks.num u hu).2.1⟩;rw[qqp]at e;rw[lU,e]at this
 simpa using this
theorem Rel.qtp(R:Rel nodes Ws ws as_)(T:Tree nodes)(hS:WkS Ws st)(hn:n∈nodes)(hk:n.key=x.key)(h:vicP nodes as_ x n=some p):
  ∃(i:Nat) (v:Wk) (iw:Nat),as_[i]?=some p/\qch (nodes.map Node.ent) Ws x=some iw/\Ws[iw]?=some v/\0<v.st/\p.x=v.adm 0:=by
 obtain⟨az,h1,h2,h3⟩:=R.a;have qd:∀u∈Ws,∀q:Pw,q.x=u.adm 0->(ups nodes 4 n).any (qgt nodes as_ x q.x)=Proofs.YtphclnolomgjoaaGreatDoor.way (nodes.map Node.ent) Ws x u:=fun u hu q hq=>by
  have e:=R.way (x:=x) (v:=u.adm 0) T hS.wks hn hk (hS.wks.ok u hu).1 ⟨(hS.wks.num u hu).1.1,(hS.wks.num u hu).2.1⟩;rw[qqp]at e;rw[hq,e]
 have ai:∀u∈az,u∈Ws/\0<u.st:=fun u hu=>by have:=xrr.1 (h2.mem_iff.1 hu);exact⟨this.1,by simpa using this.2⟩
 unfold vicP at h;obtain⟨hp,l1,l2,hl,a7⟩:=List.find?_eq_some_iff_append.1 h;have FO:as_=l2.reverse++p::l1.reverse:=by
  rw[<-List.reverse_reverse as_,hl];simp
 have hi:as_[l2.length]?=some p:=by rw[FO];simp
 obtain⟨v,hv,lU⟩:=Rel.qv2 (nodes:=nodes) (Ws:=Ws) (ws:=ws) h1 hi;obtain⟨Gr,n9⟩:=ai v (xr2 hv);have JR:Proofs.YtphclnolomgjoaaGreatDoor.way (nodes.map Node.ent) Ws x v=true:=by rw[<-qd v Gr p lU];exact hp
 obtain⟨iw,e1,e2⟩:=qqd hS x Gr n9 JR (fun u hu wT JQ=>by
  apply Classical.byContradiction
  intro ak;have zy:u∈az:=h2.mem_iff.2 (xrr.2 ⟨hu,by simp[wT]⟩);obtain⟨j,hj⟩:=xre zy;obtain⟨q,hq,AS⟩:=Rel.qwr h1 hj;have iL:=(xr0.1 hj);have ey:=(xr0.1 hv);have MM:l2.length<j:=by
   rcases Nat.lt_trichotomy j l2.length with h|h|h
   ·have:=List.pairwise_iff_getElem.1 h3 j l2.length iL.1 ey.1 h
    rw[iL.2,ey.2]at this;omega
   ·subst h;rw[hj]at hv;cases hv;omega
   ·exact h
  have gO:q∈l1:=by
   rw[FO,xro (by simp;omega)]at hq;rw[show j-l2.reverse.length=(j-l2.length-1)+1 by simp;omega,List.getElem?_cons_succ]at hq
   exact List.mem_reverse.1 (xr2 hq)
  have:=a7 q gO
  rw[qd u hu q AS,JQ]at this
  cases this)
 exact⟨l2.length,v,iw,hi,e1,e2,n9,lU⟩
theorem qew(hn:(Ws.map (·.num)).Nodup){a b:Wk}(ha:a∈Ws)(hb:b∈Ws)(e:a.num=b.num):a=b:=qrw hn ha hb e
theorem Rel.qis(R:Rel nodes Ws ws as_)(hS:WkS Ws st){v:Wk}(hi:as_[i]?=some p)(hv:Ws[iw]?=some v)(h0:0<v.st)(lU:p.x=v.adm 0):
  Rel nodes (v.adm 0::(Ws.take iw++Ws.drop (iw+1))) (p::ws) (as_.take i++as_.drop (i+1)):=by
 obtain⟨az,h1,h2,h3⟩:=R.a;have jh:=qeb hv;have hz:(v.st == 0)=false:=by simp;omega
 have zO:decide (0<v.st)=true:=decide_eq_true h0
 refine⟨?_,?_,?_⟩
 ·rw[List.map_cons,R.w,lU,xrz];simp only[Wk.adm,beq_self_eq_true,if_true]
  congr 1
  conv=>lhs;rw[jh]
  rw[List.filter_append,xrz,hz,List.filter_append]
  simp
 ·obtain⟨v',dW,DH⟩:=Rel.qv2 (nodes:=nodes) (Ws:=Ws) (ws:=ws) h1 hi;have zD:v'=v:=by
   have m1:=(xrr.1 (h2.mem_iff.1 (xr2 dW))).1
   refine qew hS.nums m1 (xr2 hv) ?_
   have:=congrArg Wk.num (DH.symm.trans lU)
   exact this
  subst zD
  refine⟨az.take i++az.drop (i+1),?_,?_,?_⟩
  ·rw[List.map_append,List.map_take,List.map_drop,h1,List.map_append,List.map_take,List.map_drop]
  ·have p1:az.Perm (v'::(az.take i++az.drop (i+1))):=qb0 dW;have p2:=p1.symm.trans h2;have p3:(Ws.filter fun x=>decide (0<x.st)).Perm (v'::((Ws.take iw++Ws.drop (iw+1)).filter fun x=>decide (0<x.st))):=by
    have:=(qb0 hv).filter (fun x=>decide (0<x.st))
    rwa[xrz,if_pos zO]at this
   have p4:=(p2.trans p3).cons_inv;rw[xrz,if_neg (by simp[Wk.adm])]
   exact p4
  ·have:(az.take i++az.drop (i+1)).Sublist az:=by
    conv=>rhs;rw[qeb dW]
    exact(List.Sublist.refl _).append (List.sublist_cons_self ..)
   exact h3.sublist this
 ·intro q hq
  have:q∈ws++as_:=by
   rcases xri.1 hq with h|h
   ·rcases List.mem_cons.1 h with rfl|h
    ·exact xra _ (xr2 hi)
    ·exact xr9 _ h
   ·exact xra _ (qbb h)
  exact R.leaf q this
theorem Rel.admit(R:Rel nodes Ws ws as_)(hS:WkS Ws st)(bW:0<=st)(hi:ws[i]?=some p)(hx:Ws[ix]?=some x)(h0:x.st=0)(lU:p.x=x):
  Rel nodes (Ws.set ix (x.adm (st+1))) (ws.take i++ws.drop (i+1)) (as_++[p]):=by
 obtain⟨az,h1,h2,h3⟩:=R.a;have jh:=qeb hx;have cX:Ws.set ix (x.adm (st+1))=Ws.take ix++x.adm (st+1)::Ws.drop (ix+1):=qge hx _;have hz:(x.st == 0)=true:=by simp[h0]
 have hw:=R.w;have Ba:ws.map (·.x)=(Ws.take ix).filter (fun x=>x.st == 0)++x::(Ws.drop (ix+1)).filter (fun x=>x.st == 0):=by
  rw[hw]
  conv=>lhs;rw[jh]
  rw[List.filter_append,xrz,if_pos hz]
 have df:(ws.map (·.x)).Nodup:=by
  rw[hw];exact(qcc hS.nums).filter _
 have qB:i=((Ws.take ix).filter (fun x=>x.st == 0)).length:=by
  have e1:(ws.map (·.x))[i]?=some x:=by rw[xrs,hi,<- lU];rfl
  have e2:(ws.map (·.x))[((Ws.take ix).filter (fun x=>x.st == 0)).length]?=some x:=by rw[Ba];simp
  exact(List.getElem?_inj (xr0.1 e1).1 df).1 (e1.trans e2.symm)
 refine⟨?_,?_,?_⟩
 ·rw[List.map_append,List.map_take,List.map_drop,Ba,cX,List.filter_append,xrz,if_neg (by simp[Wk.adm];omega)];rw[qB]
  simp
 ·refine⟨az++[x.adm (st+1)],?_,?_,?_⟩
  ·rw[List.map_append,List.map_append,h1];simp only[List.map_cons,List.map_nil,qvf,lU,qtj h0]
  ·rw[cX,List.filter_append,xrz,if_pos (show decide (0<(x.adm (st+1)).st)=true from decide_eq_true (show 0<st+1 by omega))];have e:(Ws.filter fun x=>decide (0<x.st))=(Ws.take ix).filter (fun x=>decide (0<x.st))++(Ws.drop (ix+1)).filter (fun x=>decide (0<x.st)):=by
    conv=>lhs;rw[jh]
    rw[List.filter_append,xrz,if_neg (by simp[h0])]
   rw[e]at h2
   exact(List.perm_append_comm.trans ((h2.cons _))).trans List.perm_middle.symm
  ·rw[xrx]
   refine⟨h3,by simp,fun a ha b hb=>?_⟩
   simp at hb
   subst hb
   have:=(hS.st a (xrr.1 (h2.mem_iff.1 ha)).1).2
   show a.st<st+1
   omega
 ·intro q hq
  have:q∈ws++as_:=by
   rcases xri.1 hq with h|h
   ·exact xr9 _ (qbb h)
   ·rcases xri.1 h with h|h
    ·exact xra _ h
    ·simp at h;subst h;exact xr9 _ (xr2 hi)
  exact R.leaf q this
theorem Rel.share(R:Rel nodes Ws ws as_)(T:Tree nodes)(hW:Wks Ws)(hx:qbn x.key=true):
  max (abv (ws0 (pun as_ x.key)+x.d0) (pn0 nodes x.key)*max 1 (pn1 nodes [])) (abv (ws1 (pun as_ x.key)+x.d1) (pn1 nodes x.key)*max 1 (pn0 nodes []))=shp (nodes.map Node.ent) Ws x:=by
 have e:=qb1 T (k:=[]) (by rfl);unfold shp abv;rw[(R.use hW hx).1,(R.use hW hx).2,(qb1 T hx).1,(qb1 T hx).2,e.1,e.2]
 rfl
end
end Go.Proofs.YtphclnolomgjoaaGreatDoor
