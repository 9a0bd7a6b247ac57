import Derived.Test.YtphclnolomgjoaaGreatDoorB13
set_option linter.unusedVariables false
set_option linter.unusedSimpArgs false
set_option maxRecDepth 100000
set_option maxHeartbeats 4000000
namespace Go.Proofs.YtphclnolomgjoaaGreatDoor
open Tryz
section
open Go.RowKit
theorem qs9(a b c d e f:Int)(w:World){sb:Nat}(hs:Blk w sb 35 #[.int .i64 c,.int .i64 d,.int .i64 e,.int .i64 f])(h1:0<=a)(h2:a<=100000)(h3:0<=b)(h4:b<=100000)(h5:0<=c)(h6:c<=100000)(h7:0<=d)(h8:d<=100000)(g1:0<=e)(g2:e<=100000)(g3:0<=f)(g4:f<=100000):
  Calls prog 240 #[.agg #[.int .i64 a,.int .i64 b],.slice (some ⟨sb,0,none⟩) 2 2] w fun r w'=>r=.returned (.agg #[.int .i64 (min (min a c) e),.int .i64 (min (min b d) f)])/\Below w.heap.size w w':=by
 have c0:=hs.cell 0;have c1:=hs.cell 1;have c2:=hs.cell 2;have c3:=hs.cell 3;simp only[xq0,xq1,xq2]at c0 c1 c2 c3;have ak:=hs.lt;have n1:¬(sb=w.heap.size):=by omega
 have n2:¬(sb=w.heap.size+1):=by omega
 have n3:¬(sb=w.heap.size+1+1):=by omega
 have m1:¬(w.heap.size=sb):=by omega
 have m2:¬(w.heap.size+1=sb):=by omega
 have m3:¬(w.heap.size+1+1=sb):=by omega
 have rh:∀(v1 v2:Value),((((w.alloc (.cells #[v1,v2] 35)).alloc (.cells #[.int .i64 0,.int .i64 0] 35)).alloc (.cells #[.int .i64 c,.int .i64 d] 35)).drew.drew).cell? ⟨sb,2,none⟩=some (.int .i64 e)/\((((w.alloc (.cells #[v1,v2] 35)).alloc (.cells #[.int .i64 0,.int .i64 0] 35)).alloc (.cells #[.int .i64 c,.int .i64 d] 35)).drew.drew).cell? ⟨sb,3,none⟩=some (.int .i64 f):=fun v1 v2=>by
  have hB:Below w.heap.size w ((((w.alloc (.cells #[v1,v2] 35)).alloc (.cells #[.int .i64 0,.int .i64 0] 35)).alloc (.cells #[.int .i64 c,.int .i64 d] 35)).drew.drew):=by exact bel2
  exact⟨(hB.cell (p:=⟨sb,2,none⟩) ak).trans c2,(hB.cell (p:=⟨sb,3,none⟩) ak).trans c3⟩
 have ze:=fun v1 v2=>(rh v1 v2).1
 have zf:=fun v1 v2=>(rh v1 v2).2
 go_enter func240,ntmps240
 go_wp2
 refine wp_loop_rounds 3 ?_
 rw[rounds_succ];go_wp2
 refine wp_loop_rounds 3 ?_
 rw[rounds_succ];go_wp2
 go_region
 all_goals go_wp2
 all_goals rw[rounds_succ]
 all_goals go_wp2
 all_goals go_region
 all_goals go_wp2
 all_goals rw[rounds_succ]
 all_goals go_wp2
 all_goals rw[rounds_succ]
 all_goals go_wp2
 all_goals refine wp_loop_rounds 3 ?_
 all_goals rw[rounds_succ]
 all_goals go_wp2
 all_goals go_region
 all_goals go_wp2
 all_goals rw[rounds_succ]
 all_goals go_wp2
 all_goals go_region
 all_goals go_wp2
 all_goals rw[rounds_succ]
 all_goals go_wp2
 all_goals rw[rounds_succ]
 all_goals go_wp2
 all_goals refine xrn (v:=.agg #[.int .i64 (min (min a c) e),.int .i64 (min (min b d) f)]) ?_ rfl ⟨rfl,by exact bel1⟩
 all_goals simp[results,results240,go_sem]
 all_goals omega
end
section
open Go.RowKit Go.Shelf
variable {nodes:List Node}{w:World}{bt rr:Nat}{va:Value}{l:List Pw}{p:Pw}{m n:Node}
attribute [local go_sem] Oper.semAt_some
theorem qwp(T:Tree nodes)(hB:qa1 nodes)(h:Rd w nodes bt rr va l){q:Pw}(hp:PwIn w nodes p)(hq:PwIn w nodes q)(hn:n∈nodes)(gv:n.blk=p.q)(hm:m∈nodes)(ln:m.blk=q.q)(df:m.key=q.x.key):
  Calls prog 231 #[.pointer (some ⟨rr,0,none⟩),nptr q.blk,nptr p.blk] w fun e w'=>e=.returned (.bool ((ups nodes 4 n).any (qhr nodes l p.x q.x)))/\Below w.heap.size w w':=by
 have bz:∀k:Nat,Fence.wide.depth.isSome=true->1<=k:=fun k h=>by simp[Fence.wide]at h
 have di:∀W,(∀n∈nodes,qag W n)->_:=fun W hW=>qum T hn W hW
 have af:=qjl T 4 n hn (T.ok n hn).2;have dU:=hp.at_.lt;have jd:=hq.at_.lt;have lB:=fun W (hW:Below w.heap.size w W)=>(hp.below hW).cells.2
 have xg:=fun W (hW:Below w.heap.size w W)=>(hq.below hW).cells.2
 have ic:=fun W (hW:Below w.heap.size w W)=>(h.below hW).qya T hB hm
 have ay:=fun W (hW:Below w.heap.size w W)=>qcx T hm W (h.below hW).ins
 have im:=fun W (hW:Below w.heap.size w W)=>(h.below hW).bk
 have tZ:rr<w.heap.size:=xrb _ _ h.bk;have ubd:=h.ubd m.key;have tb:=qm6 T m.key;have HO:Hid (∀x:Node,qhr nodes l p.x q.x x=(x.key.isPrefixOf m.key&&!((min (min (shq0 nodes l x p.x.d0) (abv (ws0 (pun l m.key)) (pn0 nodes m.key))) q.x.d0 == 0)&&(min (min (shq1 nodes l x p.x.d1) (abv (ws1 (pun l m.key)) (pn1 nodes m.key))) q.x.d1 == 0)))):=fun x=>by rw[df];rfl
 rw[gv]at di;rw[ln]at ic ay;generalize ws0 (pun l m.key)=u0 at *;generalize ws1 (pun l m.key)=u1 at *;generalize pn0 nodes m.key=n0 at *;generalize pn1 nodes m.key=n1 at *;have d_:=fun W=>qgj u0 u1 n0 n1 W (by omega) (by omega) (by omega) (by omega) (by omega) (by omega) (by omega) (by omega)
 have DO:(0<=abv u0 n0/\abv u0 n0<=100000)/\(0<=abv u1 n1/\abv u1 n1<=100000):=by unfold abv;omega
 generalize abv u0 n0=o0 at *;generalize abv u1 n1=o1 at *;generalize hX:ups nodes 4 n=X at di af ⊢
 refine(xrv (n:=3)).1 ?_
 refine callsIn_of_wp_marks func231 rfl trivial ?_ rfl
 unfold nptr at di ic ay ⊢;simp only[ntmps231,List.size_toArray,List.length_cons,List.length_nil,Nat.reduceAdd,Nat.reduceSub,Array.replicate_succ,Array.replicate_zero,List.push_toArray,List.append_toArray,List.nil_append,List.cons_append]
 gi_upto_region 1 with fail
 obtain⟨W0,bg⟩:∃W0,W0=((((w.alloc (.cells #[.pointer (some ⟨rr,0,none⟩)] 186)).alloc (.cells #[.pointer (some ⟨q.blk,0,none⟩)] 95)).alloc (.cells #[.pointer (some ⟨p.blk,0,none⟩)] 95)).alloc (.cells #[.bool false] 4)):=⟨_,rfl⟩;have bj:Below w.heap.size w W0:=by rw[bg];exact bel1
 have x1:Box W0 w.heap.size 186 (.pointer (some ⟨rr,0,none⟩)):=by rw[bg];exact(((Box.new w 186 _).alloc _).alloc _).alloc _
 have x2:Box W0 (w.heap.size+1) 95 (.pointer (some ⟨q.blk,0,none⟩)):=by
  have:=((Box.new (w.alloc (.cells #[.pointer (some ⟨rr,0,none⟩)] 186)) 95 (.pointer (some ⟨q.blk,0,none⟩))).alloc (.cells #[.pointer (some ⟨p.blk,0,none⟩)] 95)).alloc (.cells #[.bool false] 4)
  rw[xrt]at this;rw[bg];exact this
 have x3:Box W0 (w.heap.size+1+1) 95 (.pointer (some ⟨p.blk,0,none⟩)):=by
  have:=(Box.new ((w.alloc (.cells #[.pointer (some ⟨rr,0,none⟩)] 186)).alloc (.cells #[.pointer (some ⟨q.blk,0,none⟩)] 95)) 95 (.pointer (some ⟨p.blk,0,none⟩))).alloc (.cells #[.bool false] 4)
  rw[xrt,xrt]at this;rw[bg];exact this
 have x4:Box W0 (w.heap.size+1+1+1) 4 (.bool false):=by
  have:=Box.new (((w.alloc (.cells #[.pointer (some ⟨rr,0,none⟩)] 186)).alloc (.cells #[.pointer (some ⟨q.blk,0,none⟩)] 95)).alloc (.cells #[.pointer (some ⟨p.blk,0,none⟩)] 95)) 4 (.bool false)
  rw[xrt,xrt,xrt]at this;rw[bg];exact this
 have dw:W0.heap.size=w.heap.size+4:=by rw[bg];simp
 rw[<-bg];clear bg;have rW:∀W,Below W0.heap.size W0 W->W.cell? ⟨rr,1,none⟩=some (.pointer (some ⟨bt,1,none⟩))/\W.cell? ⟨w.heap.size,0,none⟩=some (.pointer (some ⟨rr,0,none⟩))/\W.cell? ⟨w.heap.size+1,0,none⟩=some (.pointer (some ⟨q.blk,0,none⟩))/\W.cell? ⟨q.blk,1,none⟩=some (.pointer (some ⟨q.q,0,none⟩)):=fun W hW=>⟨im _ (qab bj hW),(x1.below hW x1.lt).cell,(x2.below hW x2.lt).cell,(xg _ (qab bj hW)).1⟩
 obtain⟨r1,r2,r3,r4⟩:=rW W0 (Below.refl _ _);have AD:¬(rr=W0.heap.size):=(by omega);have AE:¬(W0.heap.size=rr):=(by omega);have AF:¬(w.heap.size=W0.heap.size):=(by omega);have AG:¬(W0.heap.size=w.heap.size):=(by omega);have AH:¬(w.heap.size+1=W0.heap.size):=(by omega);have AI:¬(W0.heap.size=w.heap.size+1):=(by omega);have AJ:¬(q.blk=W0.heap.size):=(by omega);have AK:¬(W0.heap.size=q.blk):=(by omega);have nZ:w.heap.size+4<=W0.heap.size:=by omega
 have Af:Hid (W0.heap.size=w.heap.size+4):=dw;clear dw
 refine wpIn_wide.2 ?_
 go_cut [7] from 10 to 25 (fun c wx=>∃b7,c=.pointer (some ⟨b7,0,none⟩)/\Below W0.heap.size W0 wx/\Blk wx b7 35 #[.int .i64 o0,.int .i64 o1]/\W0.heap.size<=b7)
 case first =>
  go_region_held3 (fun w'=>w'.cell? ⟨rr,1,none⟩=some (.pointer (some ⟨bt,1,none⟩))/\w'.cell? ⟨w.heap.size,0,none⟩=some (.pointer (some ⟨rr,0,none⟩))/\w'.cell? ⟨w.heap.size+1,0,none⟩=some (.pointer (some ⟨q.blk,0,none⟩))/\w'.cell? ⟨q.blk,1,none⟩=some (.pointer (some ⟨q.q,0,none⟩))) (go_keep)
   (first
   |(go_at_call 106;refine(ic _ (qab bj ?_)).mono ?_;(focus exact bel2);rintro e w1 ⟨rfl,aa⟩;have au:Below W0.heap.size W0 w1:=qab (by exact bel2) aa;obtain⟨s1,s2,s3,s4⟩:=rW _ au;have dz:=au.size;have EL:¬(rr=w1.heap.size):=(by omega);have EM:¬(w1.heap.size=rr):=(by omega);have EN:¬(w.heap.size=w1.heap.size):=(by omega);have EO:¬(w1.heap.size=w.heap.size):=(by omega);have EP:¬(w.heap.size+1=w1.heap.size):=(by omega);have ER:¬(w1.heap.size=w.heap.size+1):=(by omega);have ES:¬(q.blk=w1.heap.size):=(by omega);have ET:¬(w1.heap.size=q.blk):=(by omega);(try (have fN:Blk w1 W0.heap.size 35 #[.int .i64 0,.int .i64 0]:=Blk.below (by first|(with_reducible exact Blk.new' (by simp))|(with_reducible exact Blk.drew (Blk.new' (by simp)))) aa (by simp))))
   |(go_at_call 85;refine(ay _ (qab bj ?_)).mono ?_;(focus exact bel2);rintro e w2 ⟨rfl,ag⟩;have aP:Below W0.heap.size W0 w2:=qab (by exact bel2) ag;obtain⟨t1,t2,t3,t4⟩:=rW _ aP;have fq:=aP.size;have Fm:¬(rr=w2.heap.size):=(by omega);have Fo:¬(w2.heap.size=rr):=(by omega);have Fp:¬(w.heap.size=w2.heap.size):=(by omega);have Fq:¬(w2.heap.size=w.heap.size):=(by omega);have Fs:¬(w.heap.size+1=w2.heap.size):=(by omega);have Ft:¬(w2.heap.size=w.heap.size+1):=(by omega);have Fu:¬(q.blk=w2.heap.size):=(by omega);have Fv:¬(w2.heap.size=q.blk):=(by omega);(try (have eV:Blk w2 W0.heap.size 35 #[.int .i64 0,.int .i64 0]:=Blk.below (by with_reducible exact fN) ag (by have:=fN.lt;omega)));(try (have eV:Blk w2 w1.heap.size 35 #[.int .i64 0,.int .i64 0]:=Blk.below (by first|(with_reducible exact Blk.new' (by simp))|(with_reducible exact Blk.drew (Blk.new' (by simp)))) ag (by simp))))
   |(go_at_call 189;refine(d_ _).mono ?_;rintro e w3 ⟨rfl,aM⟩;have bH:Below W0.heap.size W0 w3:=qab (by exact bel2) aM;obtain⟨v1,v2,v3,v4⟩:=rW _ bH;have lQ:=bH.size;have Fi:¬(rr=w3.heap.size):=(by omega);have Fj:¬(w3.heap.size=rr):=(by omega);have Di:¬(w.heap.size=w3.heap.size):=(by omega);have Dj:¬(w3.heap.size=w.heap.size):=(by omega);have Dk:¬(w.heap.size+1=w3.heap.size):=(by omega);have Dl:¬(w3.heap.size=w.heap.size+1):=(by omega);have Dm:¬(q.blk=w3.heap.size):=(by omega);have Dn:¬(w3.heap.size=q.blk):=(by omega);(try (have ij:Blk w3 W0.heap.size 35 #[.int .i64 0,.int .i64 0]:=Blk.below (by with_reducible exact eV) aM (by have:=eV.lt;omega);have c7:=ij.cell;have g7:=ij.frozen));(try (have ij:Blk w3 w1.heap.size 35 #[.int .i64 0,.int .i64 0]:=Blk.below (by with_reducible exact eV) aM (by have:=eV.lt;omega);have c7:=ij.cell;have g7:=ij.frozen));(try (have ij:Blk w3 w2.heap.size 35 #[.int .i64 0,.int .i64 0]:=Blk.below (by first|(with_reducible exact Blk.new' (by simp))|(with_reducible exact Blk.drew (Blk.new' (by simp)))) aM (by simp);have c7:=ij.cell;have g7:=ij.frozen))))
  all_goals go_wp2_with fail
  ·go_meet
   exact⟨_,rfl,bH.alloc lQ _,Blk.new' rfl,lQ⟩
  ·go_meet
   exact⟨_,rfl,qbu bH (by omega) ..,qdi ij ..,by omega⟩
  ·go_meet
   exact⟨_,rfl,qbu bH (by omega) ..,qdi ij ..,by omega⟩
  ·go_meet
   exact⟨_,rfl,qbu bH (by omega) ..,qdi ij ..,by omega⟩
 case rest =>
  obtain⟨b7,rfl,dF,kA,rH⟩:=hcut;clear r1 r2 r3 r4 ic ay d_ rW AD AE AF AG AH AI AJ AK ubd tb;have mD:Below w.heap.size w wc:=qab bj dF;have y1:=x1.below dF x1.lt;have y2:=x2.below dF x2.lt;have y3:=x3.below dF x3.lt;have y4:=x4.below dF x4.lt;have c3:=y3.cell;obtain⟨e1,_,_⟩:=lB _ mD
  gi_wp2_with ((first|refine⟨trivial,bz _,?_⟩|refine⟨trivial,?_⟩);gi_at_call 191;refine(xrv.2 (di _ (fun n hn=>(h.ins n hn).below mD))).mono ?_;rintro e W ⟨rfl,rfl,aB⟩)
  obtain⟨W,hW⟩:∃W,W=wc.alloc (.cells #[.pointer (some ⟨p.q,0,none⟩)] 97):=⟨_,rfl⟩;have Cw:w.heap.size+4<=wc.heap.size:=by have:=dF.size;omega
  have cY:W.heap.size=wc.heap.size+1:=by rw[hW];simp
  have z1:Box W w.heap.size 186 (.pointer (some ⟨rr,0,none⟩)):=by rw[hW];exact y1.alloc _
  have z2:Box W (w.heap.size+1) 95 (.pointer (some ⟨q.blk,0,none⟩)):=by rw[hW];exact y2.alloc _
  have z3:Box W (w.heap.size+1+1) 95 (.pointer (some ⟨p.blk,0,none⟩)):=by rw[hW];exact y3.alloc _
  have z4:Box W (w.heap.size+1+1+1) 4 (.bool false):=by rw[hW];exact y4.alloc _
  have z7:Blk W b7 35 #[.int .i64 o0,.int .i64 o1]:=by rw[hW];exact kA.alloc _
  have bZ:Below w.heap.size w W:=by rw[hW];exact mD.alloc mD.size _
  have Ex:=kA.lt;simp only[<-hW]at aB ⊢;have gU:=aB (fun b=>b=w.heap.size+1+1+1\/W.heap.size<=b) (fun k hk=>⟨fun e=>by have:=(h.ins k hk).lt;omega,fun g hg e=>by have:=((h.ins k hk).row.lt g hg).2;omega⟩);clear aB di hW x1 x2 x3 x4 y1 y2 y3 y4 c3 e1 kA;have ay:∀b,b<W.heap.size->¬(False\/W.heap.size<=b):=fun b hb e=>by rcases e with e|e;exact e;omega
  refine qfo (T:=fun b=>b=w.heap.size+1+1+1) (S:=fun _=>False) rfl (enters_of func223 (by kernel_rfl) rfl) gU (Below.refl _ _) rfl (fun b e=>e.elim) (fun b e=>by omega)
   (fun pre A=>pre.any (qhr nodes l p.x q.x)=false/\(Box A w.heap.size 186 (.pointer (some ⟨rr,0,none⟩))/\Box A (w.heap.size+1) 95 (.pointer (some ⟨q.blk,0,none⟩))/\Box A (w.heap.size+1+1) 95 (.pointer (some ⟨p.blk,0,none⟩))/\Box A (w.heap.size+1+1+1) 4 (.bool false)/\Blk A b7 35 #[.int .i64 o0,.int .i64 o1])/\Below w.heap.size w A)
   (fun c pre A=>c=.ret/\pre.any (qhr nodes l p.x q.x)=true/\Box A (w.heap.size+1+1+1) 4 (.bool true)/\Below w.heap.size w A)
   (fun pre A B hs hk=>⟨hs.1,⟨hs.2.1.1.keep hk (ay _ (by omega)),hs.2.1.2.1.keep hk (ay _ (by omega)),hs.2.1.2.2.1.keep hk (ay _ (by omega)),hs.2.1.2.2.2.1.keep hk (ay _ (by omega)),hs.2.1.2.2.2.2.keep hk (ay _ (by omega))⟩,hs.2.2.trans (hk.toBelow hs.2.2.size (fun b bh=>ay b (by omega)))⟩)
   (fun c pre A B hs hk=>⟨hs.1,hs.2.1,hs.2.2.1.keep hk (ay _ (by omega)),hs.2.2.2.trans (hk.toBelow hs.2.2.2.size (fun b bh=>ay b (by omega)))⟩)
   ⟨rfl,⟨z1,z2,z3,z4,z7⟩,bZ⟩
   (fun x=>{tmps:=#[.pointer (some ⟨rr,0,none⟩),.pointer (some ⟨q.blk,0,none⟩),.pointer (some ⟨p.blk,0,none⟩),.pointer (some ⟨w.heap.size,0,none⟩),.pointer (some ⟨w.heap.size+1,0,none⟩),.pointer (some ⟨w.heap.size+1+1,0,none⟩),.pointer (some ⟨w.heap.size+1+1+1,0,none⟩),.pointer (some ⟨b7,0,none⟩),.pointer (some ⟨x.blk,0,none⟩),undef,u10,u11,u12,u13,u14,u15,u16,u17,u18,u19,u20,u21,u22,u23,u24,.pointer (some ⟨p.blk,0,none⟩),.pointer (some ⟨p.blk,0,none⟩),.pointer (some ⟨p.blk,1,none⟩),.pointer (some ⟨p.q,0,none⟩),.func (.func 223) #[] #[.pointer (some ⟨wc.heap.size,0,none⟩)],.pointer (some ⟨x.blk,0,none⟩),undef,undef,undef,undef,undef,undef,undef,undef,undef,undef,undef,undef,undef,undef,undef,undef,undef,undef,undef,undef,undef,undef,undef,undef,undef],defers:=[]}) ?assign ?body ?done ?stop
  case assign =>
   intro l x W K hK
   gi_wp2
   exact hK
  case body =>
   rintro l2 pre x W2 ⟨aC,⟨k1,k2,k3,k4,k7⟩,ah⟩ eO ax
   have cm:=((af x).1 (ax.subset (by simp))).1;have gh:∀W,Below w.heap.size w W->Calls prog 216 #[.pointer (some ⟨rr,0,none⟩),.pointer (some ⟨x.blk,0,none⟩),.agg #[.int .i64 p.x.d0,.int .i64 p.x.d1]] W fun e w'=>e=.returned (.agg #[.int .i64 (shq0 nodes l x p.x.d0),.int .i64 (shq1 nodes l x p.x.d1)])/\Below W.heap.size W w':=fun W hW=>qks T hB (h.below hW) cm p.x.d0 p.x.d1 hp.num.1 hp.num.2
   have bD:∀W,Below w.heap.size w W->Calls prog 142 #[.pointer (some ⟨q.q,0,none⟩),.pointer (some ⟨x.blk,0,none⟩)] W fun e w'=>e=.returned (.bool (x.key.isPrefixOf m.key))/\Below W.heap.size W w':=fun W hW=>by
    have:=qn2 T hB hm cm W (h.below hW).ins
    rw[ln]at this;exact this
   have zU:(0<=shq0 nodes l x p.x.d0/\shq0 nodes l x p.x.d0<=100000)/\(0<=shq1 nodes l x p.x.d1/\shq1 nodes l x p.x.d1<=100000):=by
    have u1:=h.ubd x.key;have u2:=qm6 T x.key;have u3:=T.num x cm;have u4:=hp.num;unfold shq0 shq1 abv
    omega
   have mz:Hid (qhr nodes l p.x q.x x=_):=HO.out x;generalize shq0 nodes l x p.x.d0=s0 at gh mz zU;generalize shq1 nodes l x p.x.d1=s1 at gh mz zU;generalize x.key.isPrefixOf m.key=CI at bD mz;have pc:=hq.num;have dn:=fun W sb (hs:Blk W sb 35 #[.int .i64 o0,.int .i64 o1,.int .i64 q.x.d0,.int .i64 q.x.d1])=>qs9 s0 s1 o0 o1 q.x.d0 q.x.d1 W hs (by omega) (by omega) (by omega) (by omega) (by omega) (by omega) (by omega) (by omega) (by omega) (by omega) (by omega) (by omega)
   generalize min (min s0 o0) q.x.d0=e0 at dn mz;generalize min (min s1 o1) q.x.d1=e1 at dn mz;have eY:=fun W=>qvt e0 e1 0 0 W
   have ey:Hid (pre.any (qhr nodes l p.x q.x)=false):=aC;have l1:=k1.lt;have xB:=k2.lt;have l3:=k3.lt;have l4:=k4.lt;have l7:=k7.lt;have lp:=(hp.below ah).at_.lt;have lq:=(hq.below ah).at_.lt;obtain⟨p1,p2,p3⟩:=lB _ ah;obtain⟨q1,q2,q3⟩:=xg _ ah;have rJ:prog.follows .mixedOrders=true:=by kernel_rfl
   clear aC af gU ax bz HO;have fV:∀W',Below W2.heap.size W2 W'->W'.cell? ⟨w.heap.size,0,none⟩=some (.pointer (some ⟨rr,0,none⟩))/\W'.cell? ⟨w.heap.size+1+1,0,none⟩=some (.pointer (some ⟨p.blk,0,none⟩))/\W'.cell? ⟨p.blk,2,none⟩=some (.int .i64 p.x.d0)/\W'.cell? ⟨p.blk,3,none⟩=some (.int .i64 p.x.d1)/\Below W2.heap.size W2 W':=fun W' aX=>⟨(k1.below aX l1).cell,(k3.below aX l3).cell,(aX.cell (p:=⟨p.blk,2,none⟩) lp).trans p2,(aX.cell (p:=⟨p.blk,3,none⟩) lp).trans p3,aX⟩
   have kT:∀W',Below W2.heap.size W2 W'->∃(_:Box W' (w.heap.size+1+1+1) 4 (.bool false)),(Box W' w.heap.size 186 (.pointer (some ⟨rr,0,none⟩))/\Box W' (w.heap.size+1) 95 (.pointer (some ⟨q.blk,0,none⟩))/\Box W' (w.heap.size+1+1) 95 (.pointer (some ⟨p.blk,0,none⟩))/\Box W' (w.heap.size+1+1+1) 4 (.bool false)/\Blk W' b7 35 #[.int .i64 o0,.int .i64 o1]):=fun W' aX=>⟨k4.below aX l4,k1.below aX l1,k2.below aX xB,k3.below aX l3,k4.below aX l4,k7.below aX l7⟩
   have Ag:Hid (∀W',Below W2.heap.size W2 W'->W'.cell? ⟨w.heap.size,0,none⟩=some (.pointer (some ⟨rr,0,none⟩))/\W'.cell? ⟨w.heap.size+1+1,0,none⟩=some (.pointer (some ⟨p.blk,0,none⟩))/\W'.cell? ⟨p.blk,2,none⟩=some (.int .i64 p.x.d0)/\W'.cell? ⟨p.blk,3,none⟩=some (.int .i64 p.x.d1)/\Below W2.heap.size W2 W'):=fV
   gi_upto_region 4 with fail
   refine wpIn_mono (Q:=Exit.then (fun a4 W4=>∃b9:Nat,a4={tmps:=#[.pointer (some ⟨rr,0,none⟩),.pointer (some ⟨q.blk,0,none⟩),.pointer (some ⟨p.blk,0,none⟩),.pointer (some ⟨w.heap.size,0,none⟩),.pointer (some ⟨w.heap.size+1,0,none⟩),.pointer (some ⟨w.heap.size+1+1,0,none⟩),.pointer (some ⟨w.heap.size+1+1+1,0,none⟩),.pointer (some ⟨b7,0,none⟩),.pointer (some ⟨x.blk,0,none⟩),.pointer (some ⟨b9,0,none⟩),u10,u11,u12,u13,u14,u15,u16,u17,u18,u19,u20,u21,u22,u23,u24,.pointer (some ⟨p.blk,0,none⟩),.pointer (some ⟨p.blk,0,none⟩),.pointer (some ⟨p.blk,1,none⟩),.pointer (some ⟨p.q,0,none⟩),.func (.func 223) #[] #[.pointer (some ⟨wc.heap.size,0,none⟩)],.pointer (some ⟨x.blk,0,none⟩),.pointer (some ⟨rr,0,none⟩),.pointer (some ⟨x.blk,0,none⟩),.pointer (some ⟨p.blk,0,none⟩),.pointer (some ⟨p.blk,0,none⟩),.pointer (some ⟨p.blk,2,none⟩),.agg #[.int .i64 p.x.d0,.int .i64 p.x.d1],.agg #[.int .i64 s0,.int .i64 s1],undef,undef,undef,undef,undef,undef,undef,undef,undef,undef,undef,undef,undef,undef,undef,undef,undef,undef],defers:=[]}/\Below W2.heap.size W2 W4/\Blk W4 b9 35 #[.int .i64 s0,.int .i64 s1]/\W2.heap.size<=b9) (fun _ _ _=>False)) ?r4 ?r5
   case r4 =>
    refine qc8 (fun W'=>W'.cell? ⟨w.heap.size,0,none⟩=some (.pointer (some ⟨rr,0,none⟩))/\W'.cell? ⟨w.heap.size+1+1,0,none⟩=some (.pointer (some ⟨p.blk,0,none⟩))/\W'.cell? ⟨p.blk,2,none⟩=some (.int .i64 p.x.d0)/\W'.cell? ⟨p.blk,3,none⟩=some (.int .i64 p.x.d1)/\Below W2.heap.size W2 W') (by kernel_rfl) (by kernel_rfl) (fV _ (by exact bel2)) (fun hS=>?_)
    refine wpAnyH_take (i:=0) (v:=.pointer (some ⟨rr,0,none⟩)) rfl (by kernel_rfl) (by kernel_rfl) (by kernel_rfl) (fun _ _ _ h=>absurd h.1 (by intro e;cases e)) (Or.inl ⟨by rfl,?_⟩) hS ?_
    ·intro w' b8;obtain⟨s1,s2,s3,s4,s5⟩:=b8
     go_simp
    try simp only[xr5,xr3,xr4,Act.put,xr6,xr8,xr7]
    refine wpAnyH_take (i:=1) (v:=.pointer (some ⟨x.blk,0,none⟩)) rfl (by kernel_rfl) (by kernel_rfl) (by kernel_rfl) (fun _ _ _ h=>absurd h.1 (by intro e;cases e)) (Or.inl ⟨by rfl,?_⟩) hS ?_
    ·intro w' b8;obtain⟨s1,s2,s3,s4,s5⟩:=b8
     go_simp
    try simp only[xr5,xr3,xr4,Act.put,xr6,xr8,xr7]
    refine wpAnyH_take (i:=2) (v:=.pointer (some ⟨p.blk,0,none⟩)) rfl (by kernel_rfl) (by kernel_rfl) (by kernel_rfl) (fun _ _ _ h=>absurd h.1 (by intro e;cases e)) (Or.inl ⟨by rfl,?_⟩) hS ?_
    ·intro w' b8;obtain⟨s1,s2,s3,s4,s5⟩:=b8
     go_simp
    try simp only[xr5,xr3,xr4,Act.put,xr6,xr8,xr7]
    refine wpAnyH_take (i:=3) (v:=.pointer (some ⟨p.blk,0,none⟩)) rfl (by kernel_rfl) (by kernel_rfl) (by kernel_rfl) (fun _ _ _ h=>absurd h.1 (by intro e;cases e)) (Or.inl ⟨by rfl,?_⟩) hS ?_
    ·intro w' b8;obtain⟨s1,s2,s3,s4,s5⟩:=b8
     go_simp
    try simp only[xr5,xr3,xr4,Act.put,xr6,xr8,xr7]
    refine wpAnyH_take (i:=4) (v:=.pointer (some ⟨p.blk,2,none⟩)) rfl (by kernel_rfl) (by kernel_rfl) (by kernel_rfl) (fun _ _ _ h=>absurd h.1 (by intro e;cases e)) (Or.inl ⟨by rfl,?_⟩) hS ?_
    ·intro w' b8;obtain⟨s1,s2,s3,s4,s5⟩:=b8
     go_simp
    try simp only[xr5,xr3,xr4,Act.put,xr6,xr8,xr7]
    refine wpAnyH_take (i:=5) (v:=.agg #[.int .i64 p.x.d0,.int .i64 p.x.d1]) rfl (by kernel_rfl) (by kernel_rfl) (by kernel_rfl) (fun _ _ _ h=>absurd h.1 (by intro e;cases e)) (Or.inl ⟨by rfl,?_⟩) hS ?_
    ·intro w' b8;obtain⟨s1,s2,s3,s4,s5⟩:=b8
     go_simp
    try simp only[xr5,xr3,xr4,Act.put,xr6,xr8,xr7]
    refine wpAnyH_ready (rs:=[6,7]) (by kernel_rfl) (by simp) ?_
    refine AllReadyH.cons rfl (fun K' hK=>?_) (AllReadyH.cons rfl (fun K' hK=>?_) AllReadyH.nil)
    ·rw[if_pos (by rfl)]
     try simp only[xr5,xr3,xr4]
     go_simp
     refine(gh _ (qab ah (by exact bel2))).mono ?_
     rintro e W3 ⟨rfl,eD⟩
     have aM:Below W2.heap.size W2 W3:=qab (show Below W2.heap.size W2 W2.drew by exact bel2) eD;have lQ:=aM.size
     refine hK.out _ _ (fV _ aM) (fun hS=>?_)
     clear hK
     try simp only[xr5,xr3,xr4,Act.put,xr6,xr8,xr7]
     refine wpAnyH_ready (rs:=[7]) (by kernel_rfl) (by simp) ?_
     refine AllReadyH.cons rfl (fun K' hK=>?_) AllReadyH.nil
     rw[if_pos (by rfl)]
     try simp only[xr5,xr3,xr4]
     go_simp
     refine hK.out _ _ (fV _ (by exact bel2)) (fun hS=>?_)
     clear hK
     try simp only[xr5,xr3,xr4,Act.put,xr6,xr8,xr7]
     refine wpAnyH_ready (rs:=[8]) (by kernel_rfl) (by simp) ?_
     refine AllReadyH.cons rfl (fun K' hK=>?_) AllReadyH.nil
     rw[if_pos (by rfl)]
     try simp only[xr5,xr3,xr4]
     go_simp
     refine hK.out _ _ (fV _ (by exact bel2)) (fun hS=>?_)
     clear hK
     refine wpAnyH_done (by kernel_rfl) ⟨rfl,?_⟩ _
     exact⟨W3.heap.size,rfl,aM.alloc lQ _,Blk.new' rfl,lQ⟩
    ·rw[if_pos (by rfl)]
     try simp only[xr5,xr3,xr4]
     go_simp
     refine hK.out _ _ (fV _ (by exact bel2)) (fun hS=>?_)
     clear hK
     try simp only[xr5,xr3,xr4,Act.put,xr6,xr8,xr7]
     refine wpAnyH_ready (rs:=[6]) (by kernel_rfl) (by simp) ?_
     refine AllReadyH.cons rfl (fun K' hK=>?_) AllReadyH.nil
     rw[if_pos (by rfl)]
     try simp only[xr5,xr3,xr4]
     go_simp
     refine(gh _ (qab ah (by exact bel2))).mono ?_
     rintro e W3 ⟨rfl,eD⟩
     have b9:Blk W3 W2.heap.size 35 #[.int .i64 0,.int .i64 0]:=Blk.below (by first|(with_reducible exact Blk.new' (by simp))|(with_reducible exact Blk.drew (Blk.new' (by simp)))|(exact Blk.new W2.drew 35 _)) eD (by simp);have aM:Below W2.heap.size W2 W3:=qab (by exact bel2) eD;have lQ:=aM.size;have c9:=b9.cell;have f9:=b9.frozen
     refine hK.out _ _ (fV _ aM) (fun hS=>?_)
     clear hK
     try simp only[xr5,xr3,xr4,Act.put,xr6,xr8,xr7]
     refine wpAnyH_ready (rs:=[8]) (by kernel_rfl) (by simp) ?_
     refine AllReadyH.cons rfl (fun K' hK=>?_) AllReadyH.nil
     rw[if_pos (by rfl)]
     try simp only[xr5,xr3,xr4]
     go_simp
     refine hK.out _ _ (fV _ (qbu aM (Nat.le_refl _) ..)) (fun hS=>?_)
     clear hK
     refine wpAnyH_done (by kernel_rfl) ⟨rfl,?_⟩ _
     exact⟨W2.heap.size,rfl,qbu aM (Nat.le_refl _) ..,qdi b9 ..,Nat.le_refl _⟩
   case r5 =>
    intro e a4 W4 tU
    cases e with
    |normal =>
     obtain⟨b9,rfl,bf,tv,Ey⟩:=tU;clear fV Ag gh;have dL:Below w.heap.size w W4:=qab ah bf;obtain⟨g4,g1,g2,g3,_,g7⟩:=kT _ bf;obtain⟨zP,zQ,zR⟩:=xg _ dL;have zL:=tv.lt;have qa:=bf.size;have tH:∀W',Below W4.heap.size W4 W'->W'.cell? ⟨w.heap.size+1,0,none⟩=some (.pointer (some ⟨q.blk,0,none⟩))/\W'.cell? ⟨q.blk,1,none⟩=some (.pointer (some ⟨q.q,0,none⟩))/\W'.cell? ⟨q.blk,2,none⟩=some (.int .i64 q.x.d0)/\W'.cell? ⟨q.blk,3,none⟩=some (.int .i64 q.x.d1)/\W'.cell? ⟨b9,0,none⟩=some (.int .i64 s0)/\W'.cell? ⟨b9,1,none⟩=some (.int .i64 s1)/\W'.cell? ⟨b7,0,none⟩=some (.int .i64 o0)/\W'.cell? ⟨b7,1,none⟩=some (.int .i64 o1)/\Below W4.heap.size W4 W':=fun W' aX=>⟨(g2.below aX g2.lt).cell,(aX.cell (p:=⟨q.blk,1,none⟩) (xrg lq qa)).trans zP,(aX.cell (p:=⟨q.blk,2,none⟩) (xrg lq qa)).trans zQ,(aX.cell (p:=⟨q.blk,3,none⟩) (xrg lq qa)).trans zR,(tv.below aX zL).cell 0,(tv.below aX zL).cell 1,(g7.below aX g7.lt).cell 0,(g7.below aX g7.lt).cell 1,aX⟩
     have aV:=fun W' (aX:Below W4.heap.size W4 W')=>kT W' (qab bf aX)
     clear k1 k2 k3 k4 k7 p1 p2 p3 q1 q2 q3 g1 g2 g3 g4 g7 zP zQ zR tv kT
     gi_upto_region 5 with fail
     refine qc8 (fun W'=>W'.cell? ⟨w.heap.size+1,0,none⟩=some (.pointer (some ⟨q.blk,0,none⟩))/\W'.cell? ⟨q.blk,1,none⟩=some (.pointer (some ⟨q.q,0,none⟩))/\W'.cell? ⟨q.blk,2,none⟩=some (.int .i64 q.x.d0)/\W'.cell? ⟨q.blk,3,none⟩=some (.int .i64 q.x.d1)/\W'.cell? ⟨b9,0,none⟩=some (.int .i64 s0)/\W'.cell? ⟨b9,1,none⟩=some (.int .i64 s1)/\W'.cell? ⟨b7,0,none⟩=some (.int .i64 o0)/\W'.cell? ⟨b7,1,none⟩=some (.int .i64 o1)/\Below W4.heap.size W4 W') (by kernel_rfl) (by kernel_rfl) (tH _ (by exact bel2)) (fun hS=>?_)
     refine wpAnyH_take (i:=0) (v:=.pointer (some ⟨q.blk,0,none⟩)) rfl (by kernel_rfl) (by kernel_rfl) (by kernel_rfl) (fun _ _ _ h=>absurd h.1 (by intro e;cases e)) (Or.inl ⟨by rfl,?_⟩) hS ?_
     ·intro w' b8;obtain⟨s1,s2,s3,s4,s5,s6,s7,s8,s9⟩:=b8
      go_simp
     try simp only[xr5,xr3,xr4,Act.put,xr6,xr8,xr7]
     refine wpAnyH_take (i:=1) (v:=.pointer (some ⟨q.blk,0,none⟩)) rfl (by kernel_rfl) (by kernel_rfl) (by kernel_rfl) (fun _ _ _ h=>absurd h.1 (by intro e;cases e)) (Or.inl ⟨by rfl,?_⟩) hS ?_
     ·intro w' b8;obtain⟨s1,s2,s3,s4,s5,s6,s7,s8,s9⟩:=b8
      go_simp
     try simp only[xr5,xr3,xr4,Act.put,xr6,xr8,xr7]
     refine wpAnyH_take (i:=2) (v:=.pointer (some ⟨q.blk,1,none⟩)) rfl (by kernel_rfl) (by kernel_rfl) (by kernel_rfl) (fun _ _ _ h=>absurd h.1 (by intro e;cases e)) (Or.inl ⟨by rfl,?_⟩) hS ?_
     ·intro w' b8;obtain⟨s1,s2,s3,s4,s5,s6,s7,s8,s9⟩:=b8
      go_simp
     try simp only[xr5,xr3,xr4,Act.put,xr6,xr8,xr7]
     refine wpAnyH_take (i:=3) (v:=.pointer (some ⟨q.q,0,none⟩)) rfl (by kernel_rfl) (by kernel_rfl) (by kernel_rfl) (fun _ _ _ h=>absurd h.1 (by intro e;cases e)) (Or.inl ⟨by rfl,?_⟩) hS ?_
     ·intro w' b8;obtain⟨s1,s2,s3,s4,s5,s6,s7,s8,s9⟩:=b8
      go_simp
     try simp only[xr5,xr3,xr4,Act.put,xr6,xr8,xr7]
     refine wpAnyH_take (i:=4) (v:=.pointer (some ⟨x.blk,0,none⟩)) rfl (by kernel_rfl) (by kernel_rfl) (by kernel_rfl) (fun _ _ _ h=>absurd h.1 (by intro e;cases e)) (Or.inl ⟨by rfl,?_⟩) hS ?_
     ·intro w' b8;obtain⟨s1,s2,s3,s4,s5,s6,s7,s8,s9⟩:=b8
      go_simp
     try simp only[xr5,xr3,xr4,Act.put,xr6,xr8,xr7]
     refine wpAnyH_ready (rs:=[5]) (by kernel_rfl) (by simp) ?_
     refine AllReadyH.cons rfl (fun K' hK=>?_) AllReadyH.nil
     rw[if_pos (by rfl)]
     try simp only[xr5,xr3,xr4]
     go_simp
     refine(bD _ (qab dL (by exact bel2))).mono ?_
     rintro e W5 ⟨rfl,eD⟩
     have bE:Below W4.heap.size W4 W5:=qab (show Below W4.heap.size W4 W4.drew by exact bel2) eD;have CG:=bE.size
     refine hK.out _ _ (tH _ bE) (fun hS=>?_)
     clear hK
     try simp only[xr5,xr3,xr4,Act.put,xr6,xr8,xr7]
     cases CI
     ·refine wpAnyH_take (i:=6) (v:=.bool false) rfl (by kernel_rfl) (by kernel_rfl) (by kernel_rfl) (fun _ _ _ h=>absurd h.1 (by intro e;cases e)) (Or.inl ⟨by rfl,?_⟩) hS ?_
      ·intro w' b8;obtain⟨s1,s2,s3,s4,s5,s6,s7,s8,s9⟩:=b8
       go_simp
      try simp only[xr5,xr3,xr4,Act.put,xr6,xr8,xr7]
      refine wpAnyH_take (i:=7) (v:=undef) rfl (by kernel_rfl) (by kernel_rfl) (by kernel_rfl) (fun _ _ _ h=>absurd h.1 (by intro e;cases e)) (Or.inr ⟨by rfl,rfl⟩) hS ?_
      try simp only[xr5,xr3,xr4,Act.put,xr6,xr8,xr7]
      refine wpAnyH_take (i:=8) (v:=undef) rfl (by kernel_rfl) (by kernel_rfl) (by kernel_rfl) (fun _ _ _ h=>absurd h.1 (by intro e;cases e)) (Or.inr ⟨by rfl,rfl⟩) hS ?_
      try simp only[xr5,xr3,xr4,Act.put,xr6,xr8,xr7]
      refine wpAnyH_take (i:=9) (v:=undef) rfl (by kernel_rfl) (by kernel_rfl) (by kernel_rfl) (fun _ _ _ h=>absurd h.1 (by intro e;cases e)) (Or.inr ⟨by rfl,rfl⟩) hS ?_
      try simp only[xr5,xr3,xr4,Act.put,xr6,xr8,xr7]
      refine wpAnyH_take (i:=10) (v:=undef) rfl (by kernel_rfl) (by kernel_rfl) (by kernel_rfl) (fun _ _ _ h=>absurd h.1 (by intro e;cases e)) (Or.inr ⟨by rfl,rfl⟩) hS ?_
      try simp only[xr5,xr3,xr4,Act.put,xr6,xr8,xr7]
      refine wpAnyH_take (i:=11) (v:=undef) rfl (by kernel_rfl) (by kernel_rfl) (by kernel_rfl) (fun _ _ _ h=>absurd h.1 (by intro e;cases e)) (Or.inr ⟨by rfl,rfl⟩) hS ?_
      try simp only[xr5,xr3,xr4,Act.put,xr6,xr8,xr7]
      refine wpAnyH_take (i:=12) (v:=undef) rfl (by kernel_rfl) (by kernel_rfl) (by kernel_rfl) (fun _ _ _ h=>absurd h.1 (by intro e;cases e)) (Or.inr ⟨by rfl,rfl⟩) hS ?_
      try simp only[xr5,xr3,xr4,Act.put,xr6,xr8,xr7]
      refine wpAnyH_take (i:=13) (v:=undef) rfl (by kernel_rfl) (by kernel_rfl) (by kernel_rfl) (fun _ _ _ h=>absurd h.1 (by intro e;cases e)) (Or.inr ⟨by rfl,rfl⟩) hS ?_
      try simp only[xr5,xr3,xr4,Act.put,xr6,xr8,xr7]
      refine wpAnyH_take (i:=14) (v:=undef) rfl (by kernel_rfl) (by kernel_rfl) (by kernel_rfl) (fun _ _ _ h=>absurd h.1 (by intro e;cases e)) (Or.inr ⟨by rfl,rfl⟩) hS ?_
      try simp only[xr5,xr3,xr4,Act.put,xr6,xr8,xr7]
      refine wpAnyH_take (i:=15) (v:=undef) rfl (by kernel_rfl) (by kernel_rfl) (by kernel_rfl) (fun _ _ _ h=>absurd h.1 (by intro e;cases e)) (Or.inr ⟨by rfl,rfl⟩) hS ?_
      try simp only[xr5,xr3,xr4,Act.put,xr6,xr8,xr7]
      refine wpAnyH_take (i:=16) (v:=undef) rfl (by kernel_rfl) (by kernel_rfl) (by kernel_rfl) (fun _ _ _ h=>absurd h.1 (by intro e;cases e)) (Or.inr ⟨by rfl,rfl⟩) hS ?_
      try simp only[xr5,xr3,xr4,Act.put,xr6,xr8,xr7]
      refine wpAnyH_take (i:=17) (v:=.bool false) rfl (by kernel_rfl) (by kernel_rfl) (by kernel_rfl) (fun _ _ _ h=>absurd h.1 (by intro e;cases e)) (Or.inl ⟨by rfl,?_⟩) hS ?_
      ·intro w' b8;obtain⟨s1,s2,s3,s4,s5,s6,s7,s8,s9⟩:=b8
       go_simp
      try simp only[xr5,xr3,xr4,Act.put,xr6,xr8,xr7]
      refine wpAnyH_done (by kernel_rfl) ⟨rfl,?_⟩ _
      obtain⟨g4,wj⟩:=aV _ bE;have kc:=g4.cell;have kf:=g4.frozen
      gi_wp2_with fail
      refine⟨Keep.new (qab bf bE),?_,wj,qab ah (qab bf bE)⟩
      rw[List.any_append,ey.out]
      simp[mz.out]
     ·refine wpAnyH_take (i:=6) (v:=.bool true) rfl (by kernel_rfl) (by kernel_rfl) (by kernel_rfl) (fun _ _ _ h=>absurd h.1 (by intro e;cases e)) (Or.inl ⟨by rfl,?_⟩) hS ?_
      ·intro w' b8;obtain⟨s1,s2,s3,s4,s5,s6,s7,s8,s9⟩:=b8
       go_simp
      try simp only[xr5,xr3,xr4,Act.put,xr6,xr8,xr7]
      refine wpAnyH_take (i:=7) (v:=.agg #[.int .i64 s0,.int .i64 s1]) rfl (by kernel_rfl) (by kernel_rfl) (by kernel_rfl) (fun _ _ _ h=>absurd h.1 (by intro e;cases e)) (Or.inl ⟨by rfl,?_⟩) hS ?_
      ·intro w' b8;obtain⟨s1,s2,s3,s4,s5,s6,s7,s8,s9⟩:=b8
       go_simp
      try simp only[xr5,xr3,xr4,Act.put,xr6,xr8,xr7]
      refine wpAnyH_take (i:=8) (v:=.agg #[.int .i64 o0,.int .i64 o1]) rfl (by kernel_rfl) (by kernel_rfl) (by kernel_rfl) (fun _ _ _ h=>absurd h.1 (by intro e;cases e)) (Or.inl ⟨by rfl,?_⟩) hS ?_
      ·intro w' b8;obtain⟨s1,s2,s3,s4,s5,s6,s7,s8,s9⟩:=b8
       go_simp
      try simp only[xr5,xr3,xr4,Act.put,xr6,xr8,xr7]
      refine wpAnyH_take (i:=9) (v:=.pointer (some ⟨q.blk,0,none⟩)) rfl (by kernel_rfl) (by kernel_rfl) (by kernel_rfl) (fun _ _ _ h=>absurd h.1 (by intro e;cases e)) (Or.inl ⟨by rfl,?_⟩) hS ?_
      ·intro w' b8;obtain⟨s1,s2,s3,s4,s5,s6,s7,s8,s9⟩:=b8
       go_simp
      try simp only[xr5,xr3,xr4,Act.put,xr6,xr8,xr7]
      refine wpAnyH_take (i:=10) (v:=.pointer (some ⟨q.blk,0,none⟩)) rfl (by kernel_rfl) (by kernel_rfl) (by kernel_rfl) (fun _ _ _ h=>absurd h.1 (by intro e;cases e)) (Or.inl ⟨by rfl,?_⟩) hS ?_
      ·intro w' b8;obtain⟨s1,s2,s3,s4,s5,s6,s7,s8,s9⟩:=b8
       go_simp
      try simp only[xr5,xr3,xr4,Act.put,xr6,xr8,xr7]
      refine wpAnyH_take (i:=11) (v:=.pointer (some ⟨q.blk,2,none⟩)) rfl (by kernel_rfl) (by kernel_rfl) (by kernel_rfl) (fun _ _ _ h=>absurd h.1 (by intro e;cases e)) (Or.inl ⟨by rfl,?_⟩) hS ?_
      ·intro w' b8;obtain⟨s1,s2,s3,s4,s5,s6,s7,s8,s9⟩:=b8
       go_simp
      try simp only[xr5,xr3,xr4,Act.put,xr6,xr8,xr7]
      refine wpAnyH_take (i:=12) (v:=.agg #[.int .i64 q.x.d0,.int .i64 q.x.d1]) rfl (by kernel_rfl) (by kernel_rfl) (by kernel_rfl) (fun _ _ _ h=>absurd h.1 (by intro e;cases e)) (Or.inl ⟨by rfl,?_⟩) hS ?_
      ·intro w' b8;obtain⟨s1,s2,s3,s4,s5,s6,s7,s8,s9⟩:=b8
       go_simp
      try simp only[xr5,xr3,xr4,Act.put,xr6,xr8,xr7]
      refine wpAnyH_take (i:=15) (v:=.agg #[.int .i64 0,.int .i64 0]) rfl (by kernel_rfl) (by kernel_rfl) (by kernel_rfl) (fun _ _ _ h=>absurd h.1 (by intro e;cases e)) (Or.inl ⟨by rfl,?_⟩) hS ?_
      ·intro w' b8;obtain⟨s1,s2,s3,s4,s5,s6,s7,s8,s9⟩:=b8
       go_simp
      try simp only[xr5,xr3,xr4,Act.put,xr6,xr8,xr7]
      refine wpAnyH_ready (rs:=[13]) (by kernel_rfl) (by simp) ?_
      refine AllReadyH.cons rfl (fun K' hK=>?_) AllReadyH.nil
      rw[if_pos (by rfl)]
      try simp only[xr5,xr3,xr4]
      go_simp
      refine hK.out _ _ (tH _ (by exact bel2)) (fun hS=>?_)
      clear hK
      try simp only[xr5,xr3,xr4,Act.put,xr6,xr8,xr7]
      refine wpAnyH_ready (rs:=[14]) (by kernel_rfl) (by simp) ?_
      refine AllReadyH.cons rfl (fun K' hK=>?_) AllReadyH.nil
      rw[if_pos (by rfl)]
      try simp only[xr5,xr3,xr4]
      go_simp
      refine(dn _ _ (Blk.new _ 35 _)).mono ?_
      rintro e W6 ⟨rfl,Bu⟩
      have il:Below W4.heap.size W4 W6:=qab (by exact bel2) Bu
      refine hK.out _ _ (tH _ il) (fun hS=>?_)
      clear hK
      try simp only[xr5,xr3,xr4,Act.put,xr6,xr8,xr7]
      refine wpAnyH_take (i:=16) (v:=.bool (!(e0 == 0&&e1 == 0))) rfl (by kernel_rfl) (by kernel_rfl) (by kernel_rfl) (fun _ _ _ h=>absurd h.1 (by intro e;cases e)) (Or.inl ⟨by rfl,?_⟩) hS ?_
      ·intro w' b8;obtain⟨s1,s2,s3,s4,s5,s6,s7,s8,s9⟩:=b8
       go_simp
      try simp only[xr5,xr3,xr4,Act.put,xr6,xr8,xr7]
      refine wpAnyH_take (i:=17) (v:=.bool (!(e0 == 0&&e1 == 0))) rfl (by kernel_rfl) (by kernel_rfl) (by kernel_rfl) (fun _ _ _ h=>absurd h.1 (by intro e;cases e)) (Or.inl ⟨by rfl,?_⟩) hS ?_
      ·intro w' b8;obtain⟨s1,s2,s3,s4,s5,s6,s7,s8,s9⟩:=b8
       go_simp
      try simp only[xr5,xr3,xr4,Act.put,xr6,xr8,xr7]
      refine wpAnyH_done (by kernel_rfl) ⟨rfl,?_⟩ _
      generalize iq:(e0 == 0&&e1 == 0)=bv at mz;clear iq eY;obtain⟨g4,wj⟩:=aV _ il;have kc:=g4.cell;have kf:=g4.frozen
      cases bv
      ·gi_wp2_with fail
       refine⟨((Keep.new (T:=fun b=>b=w.heap.size+1+1+1) (qab bf il)).setCell (p:=⟨w.heap.size+1+1+1,0,none⟩) rfl _),rfl,?_,g4.set _,(qab ah (qab bf il)).setCell (by simp;omega) _⟩
       rw[List.any_append,ey.out]
       simp[mz.out]
      ·gi_wp2_with fail
       refine⟨Keep.new (qab bf il),?_,wj,qab ah (qab bf il)⟩
       rw[List.any_append,ey.out]
       simp[mz.out]
    |_=>exact tU.elim
  case done =>
   rintro A ⟨aC,⟨k1,k2,k3,k4,k7⟩,ah⟩ hD
   have hc:=k4.cell;have hf:=k4.frozen
   gi_wp2
   have fU:(A.setCell ⟨w.heap.size+1+1+1,0,none⟩ (.bool false)).heap[W.heap.size]?=some (.deferred (some [])):=(Below.heap_setCell _ _ _ _ (by simp;omega)).trans hD;have ag:=((k4.set (.bool false)).put W.heap.size (.deferred none) (by omega)).cell
   refine⟨by simp,.inl ⟨_,_,rfl,run_takeDeferred fU,?_⟩⟩
   exact⟨.bool false,by simp[results,results231,go_sem,ag],qbt aC.symm,qay (ah.setCell (by simp;omega) _) _ _ (by omega)⟩
  case stop =>
   rintro c pre A ax ⟨rfl,hv,aU,ah⟩ hD
   gi_wp2
   have ag:=(aU.put W.heap.size (.deferred none) (by omega)).cell
   refine⟨by simp,.inl ⟨_,_,rfl,run_takeDeferred hD,?_⟩⟩
   refine⟨.bool true,by simp[results,results231,go_sem,ag],qbt ?_,qay ah _ _ (by omega)⟩
   symm
   rw[xs0]at hv ⊢;obtain⟨y,hy,j_⟩:=hv
   exact⟨y,ax.subset hy,j_⟩
end
section
open Go.RowKit
variable {x:Wk}{as_ ws:List Pw}{Ws az:List Wk}{i iw ix:Nat}{p:Pw}{nodes:List Node}{st:Int}{n:Node}
theorem qw9(x:Wk)(s t:Int):(x.adm s).adm t=x.adm t:=rfl
theorem quu(h:x.st=0):x.adm 0=x:=by cases x;simp[Wk.adm]at *;exact h.symm
theorem qup(L:List Ent)(Ws:List Wk)(x v:Wk):way L Ws x (v.adm 0)=way L Ws x v:=rfl
def vicP (nodes:List Node)(as_:List Pw)(x:Wk)(n:Node):Option Pw:=as_.reverse.find? fun p=>(ups nodes 4 n).any (qhr nodes as_ x p.x)
theorem Rel.qyk{nodes:List Node}{Ws:List Wk}{ws:List Pw}(h:as_.map (·.x)=az.map (·.adm 0))(hi:as_[i]?=some p):∃v,az[i]?=some v/\p.x=v.adm 0:=by
 have:=congrArg (fun l=>l[i]?) h
 simp only[xrs,hi,Option.map_some]at this
 cases hz:az[i]? with
 |none=>rw[hz]at this;cases this
 |some v=>rw[hz]at this;simp at this;exact⟨v,rfl,this⟩
theorem Rel.qyj(h:as_.map (·.x)=az.map (·.adm 0)){v:Wk}(hi:az[i]?=some v):∃p,as_[i]?=some p/\p.x=v.adm 0:=by
 have:=congrArg (fun l=>l[i]?) h
 simp only[xrs,hi,Option.map_some]at this
 cases hz:as_[i]? with
 |none=>rw[hz]at this;cases this
 |some p=>rw[hz]at this;simp at this;exact⟨p,rfl,this⟩
theorem Rel.qwl(R:Rel nodes Ws ws as_)(T:Tree nodes)(hS:WkS Ws st)(hn:n∈nodes)(hk:n.key=x.key)(h:vicP nodes as_ x n=none):qda (nodes.map Node.ent) Ws x=none:=by
 refine qkw fun u hu h0=>?_
 obtain⟨az,h1,h2,_⟩:=R.a;have sk:0<u.st:=by have:=(hS.st u hu).1;omega
 have sm:u∈az:=h2.mem_iff.2 (xrr.2 ⟨hu,by simp[sk]⟩);obtain⟨j,hj⟩:=xre sm;obtain⟨p,hp,ku⟩:=Rel.qyj h1 hj;unfold vicP at h;rw[List.find?_eq_none]at h
 have:=h p (List.mem_reverse.2 (xr2 hp))
 have e:=R.way (x:=x) (v:=u.adm 0) T hS.wks hn hk (hS.wks.ok u hu).1 ⟨(hS.wks.num u hu).1.1,(hS.wks.num u hu).2.1⟩;rw[qup]at e;rw[ku,e]at this
 simpa using this
theorem Rel.qwm(R:Rel nodes Ws ws as_)(T:Tree nodes)(hS:WkS Ws st)(hn:n∈nodes)(hk:n.key=x.key)(h:vicP nodes as_ x n=some p):
  ∃(i:Nat) (v:Wk) (iw:Nat),as_[i]?=some p/\qda (nodes.map Node.ent) Ws x=some iw/\Ws[iw]?=some v/\0<v.st/\p.x=v.adm 0:=by
 obtain⟨az,h1,h2,h3⟩:=R.a;have lL:∀u∈Ws,∀q:Pw,q.x=u.adm 0->(ups nodes 4 n).any (qhr nodes as_ x q.x)=Proofs.YtphclnolomgjoaaGreatDoor.way (nodes.map Node.ent) Ws x u:=fun u hu q hq=>by
  have e:=R.way (x:=x) (v:=u.adm 0) T hS.wks hn hk (hS.wks.ok u hu).1 ⟨(hS.wks.num u hu).1.1,(hS.wks.num u hu).2.1⟩;rw[qup]at e;rw[hq,e]
 have af:∀u∈az,u∈Ws/\0<u.st:=fun u hu=>by have:=xrr.1 (h2.mem_iff.1 hu);exact⟨this.1,by simpa using this.2⟩
 unfold vicP at h;obtain⟨hp,l1,l2,hl,ay⟩:=List.find?_eq_some_iff_append.1 h;have yY:as_=l2.reverse++p::l1.reverse:=by
  rw[<-List.reverse_reverse as_,hl];simp
 have hi:as_[l2.length]?=some p:=by rw[yY];simp
 obtain⟨v,hv,ku⟩:=Rel.qyk (nodes:=nodes) (Ws:=Ws) (ws:=ws) h1 hi;obtain⟨zD,jw⟩:=af v (xr2 hv);have C3:Proofs.YtphclnolomgjoaaGreatDoor.way (nodes.map Node.ent) Ws x v=true:=by rw[<-lL v zD p ku];exact hp
 obtain⟨iw,e1,e2⟩:=qru hS x zD jw C3 (fun u hu sk xy=>by
  apply Classical.byContradiction
  intro ak;have sm:u∈az:=h2.mem_iff.2 (xrr.2 ⟨hu,by simp[sk]⟩);obtain⟨j,hj⟩:=xre sm;obtain⟨q,hq,tX⟩:=Rel.qyj h1 hj;have fE:=(xr0.1 hj);have ep:=(xr0.1 hv);have wv:l2.length<j:=by
   rcases Nat.lt_trichotomy j l2.length with h|h|h
   ·have:=List.pairwise_iff_getElem.1 h3 j l2.length fE.1 ep.1 h
    rw[fE.2,ep.2]at this;omega
   ·subst h;rw[hj]at hv;cases hv;omega
   ·exact h
  have dV:q∈l1:=by
   rw[yY,xro (by simp;omega)]at hq;rw[show j-l2.reverse.length=(j-l2.length-1)+1 by simp;omega,List.getElem?_cons_succ]at hq
   exact List.mem_reverse.1 (xr2 hq)
  have:=ay q dV
  rw[lL u hu q tX,xy]at this
  cases this)
 exact⟨l2.length,v,iw,hi,e1,e2,jw,ku⟩
theorem qlo(hn:(Ws.map (·.num)).Nodup){a b:Wk}(ha:a∈Ws)(hb:b∈Ws)(e:a.num=b.num):a=b:=qw2 hn ha hb e
theorem Rel.qjs(R:Rel nodes Ws ws as_)(hS:WkS Ws st){v:Wk}(hi:as_[i]?=some p)(hv:Ws[iw]?=some v)(h0:0<v.st)(ku:p.x=v.adm 0):
  Rel nodes (v.adm 0::(Ws.take iw++Ws.drop (iw+1))) (p::ws) (as_.take i++as_.drop (i+1)):=by
 obtain⟨az,h1,h2,h3⟩:=R.a;have iH:=qen hv;have hz:(v.st == 0)=false:=by simp;omega
 have sN:decide (0<v.st)=true:=decide_eq_true h0
 refine⟨?_,?_,?_⟩
 ·rw[List.map_cons,R.w,ku,xrz];simp only[Wk.adm,beq_self_eq_true,if_true]
  congr 1
  conv=>lhs;rw[iH]
  rw[List.filter_append,xrz,hz,List.filter_append]
  simp
 ·obtain⟨v',dd,xe⟩:=Rel.qyk (nodes:=nodes) (Ws:=Ws) (ws:=ws) h1 hi;have sy:v'=v:=by
   have m1:=(xrr.1 (h2.mem_iff.1 (xr2 dd))).1
   refine qlo hS.nums m1 (xr2 hv) ?_
   have:=congrArg Wk.num (xe.symm.trans ku)
   exact this
  subst sy
  refine⟨az.take i++az.drop (i+1),?_,?_,?_⟩
  ·rw[List.map_append,List.map_take,List.map_drop,h1,List.map_append,List.map_take,List.map_drop]
  ·have p1:az.Perm (v'::(az.take i++az.drop (i+1))):=qce dd;have p2:=p1.symm.trans h2;have p3:(Ws.filter fun x=>decide (0<x.st)).Perm (v'::((Ws.take iw++Ws.drop (iw+1)).filter fun x=>decide (0<x.st))):=by
    have:=(qce hv).filter (fun x=>decide (0<x.st))
    rwa[xrz,if_pos sN]at this
   have p4:=(p2.trans p3).cons_inv;rw[xrz,if_neg (by simp[Wk.adm])]
   exact p4
  ·have:(az.take i++az.drop (i+1)).Sublist az:=by
    conv=>rhs;rw[qen dd]
    exact(List.Sublist.refl _).append (List.sublist_cons_self ..)
   exact h3.sublist this
 ·intro q hq
  have:q∈ws++as_:=by
   rcases xri.1 hq with h|h
   ·rcases List.mem_cons.1 h with rfl|h
    ·exact xra _ (xr2 hi)
    ·exact xr9 _ h
   ·exact xra _ (qbl h)
  exact R.leaf q this
theorem Rel.admit(R:Rel nodes Ws ws as_)(hS:WkS Ws st)(cJ:0<=st)(hi:ws[i]?=some p)(hx:Ws[ix]?=some x)(h0:x.st=0)(ku:p.x=x):
  Rel nodes (Ws.set ix (x.adm (st+1))) (ws.take i++ws.drop (i+1)) (as_++[p]):=by
 obtain⟨az,h1,h2,h3⟩:=R.a;have iH:=qen hx;have eN:Ws.set ix (x.adm (st+1))=Ws.take ix++x.adm (st+1)::Ws.drop (ix+1):=qfr hx _;have hz:(x.st == 0)=true:=by simp[h0]
 have hw:=R.w;have uf:ws.map (·.x)=(Ws.take ix).filter (fun x=>x.st == 0)++x::(Ws.drop (ix+1)).filter (fun x=>x.st == 0):=by
  rw[hw]
  conv=>lhs;rw[iH]
  rw[List.filter_append,xrz,if_pos hz]
 have bT:(ws.map (·.x)).Nodup:=by
  rw[hw];exact(qb1 hS.nums).filter _
 have mh:i=((Ws.take ix).filter (fun x=>x.st == 0)).length:=by
  have e1:(ws.map (·.x))[i]?=some x:=by rw[xrs,hi,<- ku];rfl
  have e2:(ws.map (·.x))[((Ws.take ix).filter (fun x=>x.st == 0)).length]?=some x:=by rw[uf];simp
  exact(List.getElem?_inj (xr0.1 e1).1 bT).1 (e1.trans e2.symm)
 refine⟨?_,?_,?_⟩
 ·rw[List.map_append,List.map_take,List.map_drop,uf,eN,List.filter_append,xrz,if_neg (by simp[Wk.adm];omega)];rw[mh]
  simp
 ·refine⟨az++[x.adm (st+1)],?_,?_,?_⟩
  ·rw[List.map_append,List.map_append,h1];simp only[List.map_cons,List.map_nil,qw9,ku,quu h0]
  ·rw[eN,List.filter_append,xrz,if_pos (show decide (0<(x.adm (st+1)).st)=true from decide_eq_true (show 0<st+1 by omega))];have e:(Ws.filter fun x=>decide (0<x.st))=(Ws.take ix).filter (fun x=>decide (0<x.st))++(Ws.drop (ix+1)).filter (fun x=>decide (0<x.st)):=by
    conv=>lhs;rw[iH]
    rw[List.filter_append,xrz,if_neg (by simp[h0])]
   rw[e]at h2
   exact(List.perm_append_comm.trans ((h2.cons _))).trans List.perm_middle.symm
  ·rw[xrx]
   refine⟨h3,by simp,fun a ha b hb=>?_⟩
   simp at hb
   subst hb
   have:=(hS.st a (xrr.1 (h2.mem_iff.1 ha)).1).2
   show a.st<st+1
   omega
 ·intro q hq
  have:q∈ws++as_:=by
   rcases xri.1 hq with h|h
   ·exact xr9 _ (qbl h)
   ·rcases xri.1 h with h|h
    ·exact xra _ h
    ·simp at h;subst h;exact xr9 _ (xr2 hi)
  exact R.leaf q this
theorem Rel.share(R:Rel nodes Ws ws as_)(T:Tree nodes)(hW:Wks Ws)(hx:qbx x.key=true):
  max (abv (ws0 (pun as_ x.key)+x.d0) (pn0 nodes x.key)*max 1 (pn1 nodes [])) (abv (ws1 (pun as_ x.key)+x.d1) (pn1 nodes x.key)*max 1 (pn0 nodes []))=shp (nodes.map Node.ent) Ws x:=by
 have e:=qb7 T (k:=[]) (by rfl);unfold shp abv;rw[(R.use hW hx).1,(R.use hW hx).2,(qb7 T hx).1,(qb7 T hx).2,e.1,e.2]
 rfl
end
end Go.Proofs.YtphclnolomgjoaaGreatDoor
