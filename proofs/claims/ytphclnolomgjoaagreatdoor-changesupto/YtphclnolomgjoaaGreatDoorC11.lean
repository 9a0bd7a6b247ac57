import Derived.Test.YtphclnolomgjoaaGreatDoorC10
import Derived.Deep.LoopGhost
set_option linter.unusedVariables false
set_option linter.unusedSimpArgs false
set_option maxRecDepth 100000
set_option maxHeartbeats 4000000
namespace Go.Proofs.YtphclnolomgjoaaGreatDoor
open Tryz
section
open Go.RowKit
variable {nodes:List Node}{m n:Node}{W W' w:World}{B b bt c rr:Nat}{v va:Value}{l:List Pw}{vs:Array Value}{p:Pw}
def abv (a c:Int):Int:=max 0 (a-c)
theorem qhu(a b c d:Int)(w:World)(h1:0<=a)(h2:a<=100000)(h3:0<=b)(h4:b<=100000)(h5:0<=c)(h6:c<=100000)(h7:0<=d)(h8:d<=100000):
  Cl 189 #[.agg #[vI a,vI b],.agg #[vI c,vI d]] w fun e w'=>e=.returned (.agg #[vI (abv a c),vI (abv b d)])/\Bw w w':=by
 go_enter func189,ntmps189
 go_wp2
 refine wp_loop_rounds 3 ?_
 rw[rounds_succ];go_wp2
 go_region
 all_goals go_wp2
 all_goals rw[rounds_succ]
 all_goals go_wp2
 all_goals go_region
 all_goals go_wp2
 all_goals rw[rounds_succ]
 all_goals go_wp2
 all_goals refine xrn (v:=.agg #[vI (abv a c),vI (abv b d)]) ?_ rfl ⟨rfl,by exact bel1⟩
 all_goals simp[results,results189,go_sem]
 all_goals (unfold abv;omega)
def pn0 (nodes:List Node)(k:List Bs):Int:=sum0 (under nodes k)
def pn1 (nodes:List Node)(k:List Bs):Int:=sum1 (under nodes k)
theorem qna(T:Tree nodes)(k:List Bs):(0<=pn0 nodes k/\pn0 nodes k<=20000)/\(0<=pn1 nodes k/\pn1 nodes k<=20000):=by
 have aF:∀n∈under nodes k,n∈nodes:=fun n hn=>(xrr.1 hn).1
 have an:(under nodes k).length<=20:=Nat.le_trans (xrh _ _) T.len;have s0:=qre (under nodes k) (fun n hn=>(T.num n (aF n hn)).1);have s1:=qqj (under nodes k) (fun n hn=>(T.num n (aF n hn)).2.1);unfold pn0 pn1
 omega
theorem qcz(T:Tree nodes)(hn:n∈nodes)(w:World)(hN:∀n∈nodes,qan w n):
  Cl 85 #[nptr n.blk] w fun e w'=>e=.returned (.agg #[vI (pn0 nodes n.key),vI (pn1 nodes n.key)])/\Bw w w':=by
 obtain⟨ch,K⟩:=T.ch;have h:=qnm T K hn (by have:=qoe T K hn;omega) w hN;rw[qtw T K hn,qti T K hn]at h
 exact h
theorem qpd(T:Tree nodes)(hn:n∈nodes)(w:World)(hN:∀n∈nodes,qan w n):
  Cl 190 #[nptr n.blk] w fun e w'=>e=.returned (.agg #[vI (pn0 nodes n.key+n.b0),vI (pn1 nodes n.key+n.b1)])/\Bw w w':=by
 have dS:=fun W (hW:Bw w W)=>qcz T hn W (fun k hk=>(hN k hk).below hW)
 have pg:=qna T n.key;have cU:=(T.num n hn).2.2.1;have D5:=(T.num n hn).2.2.2.1;have iB:=fun W=>qid (pn0 nodes n.key) (pn1 nodes n.key) n.b0 n.b1 W (by omega) (by omega) (by omega) (by omega) (by omega) (by omega) (by omega) (by omega)
 have FA:=fun W (hW:Bw w W)=>(hN n hn).below hW
 have aY:∀W,Bw w W->W.cell? (vA n.blk 4)=some (vI n.b0)/\W.cell? (vA n.blk 5)=some (vI n.b1):=fun W hW=>⟨(FA W hW).cell rfl,(FA W hW).cell rfl⟩
 have ak:=(hN n hn).lt;generalize pn0 nodes n.key=e0 at *;generalize pn1 nodes n.key=e1 at *;have b0:Blk (w.alloc (.cells #[vI 0,vI 0] 35)) w.heap.size 35 #[vI 0,vI 0]:=Blk.new w 35 _;have aO:Bw w (w.alloc (.cells #[vI 0,vI 0] 35)):=by exact bel2
 obtain⟨c4,c5⟩:=aY _ aO;unfold nptr at dS ⊢
 go_enter func190,ntmps190
 go_upto_region 1 with fail
 generalize (w.alloc (.cells #[vI 0,vI 0] 35))=W0 at b0 aO c4 c5 ⊢;have lb:=b0.lt
 go_region_with (first
  |(go_at_call 139;refine(iB _).mono ?_;rintro e w2 ⟨rfl,af⟩;have aw:Bw w w2:=qac (by exact bel2) af;have b2:Blk w2 w.heap.size 35 #[vI 0,vI 0]:=Blk.below (by exact blk2) af b1.lt;have q0:=b2.cell 0;have q1:=b2.cell 1;have q2:=b2.frozen 0;have q3:=b2.frozen 1;simp only[xq0,xq1,xq2]at q0 q1)
  |(go_at_call 85;refine(dS _ ?_).mono ?_;(focus exact bel2);rintro e w1 ⟨rfl,aa⟩;have aj:Bw w w1:=qac (by exact bel2) aa;have b1:Blk w1 w.heap.size 35 #[vI 0,vI 0]:=Blk.below (by exact blk2) aa (by first|omega|(simp<;>omega));obtain⟨d4,d5⟩:=aY _ aj))
 all_goals go_wp2_with fail
 all_goals have b3:=(b2.set 0 (vI (e0+n.b0))).set 1 (vI (e1+n.b1))
 all_goals have ym:=b3.cell
 all_goals refine xrn (v:=.agg #[vI (e0+n.b0),vI (e1+n.b1)]) (by simp[results,results190,go_sem,ym]) rfl ⟨rfl,by exact bel2⟩
structure Rd (W:World) (nodes:List Node) (bt rr:Nat) (va:Value) (l:List Pw):Prop where
 ins:∀n∈nodes,qan W n
 bk:W.cell? (vA rr 1)=some (.pointer (some (vA bt 1)))
 ad:W.cell? (vA bt 3)=some va
 ps:qhe W nodes va l
theorem Rd.below(h:Rd W nodes bt rr va l)(hb:Bw W W'):Rd W' nodes bt rr va l :=
 ⟨fun n hn=>(h.ins n hn).below hb,(hb.cell (p:=vA rr 1) (xrb _ _ h.bk)).trans h.bk,(hb.cell (p:=vA bt 3) (xrb _ _ h.ad)).trans h.ad,h.ps.below hb⟩
theorem Rd.qvn(h:Rd W nodes bt rr va l)(T:Tree nodes)(hB:qa7 nodes)(hm:m∈nodes):
  Cl 106 #[.pointer (some (vA bt 1)),nptr m.blk] W fun e w'=>e=.returned (.agg #[vI (ws0 (pun l m.key)),vI (ws1 (pun l m.key))])/\Bw W w' :=
 qjo T hB W h.ins bt h.ad h.ps hm
theorem Rd.ubd(h:Rd W nodes bt rr va l)(k:List Bs):(0<=ws0 (pun l k)/\ws0 (pun l k)<=24000)/\(0<=ws1 (pun l k)/\ws1 (pun l k)<=24000):=quu h.ps.num h.ps.len k
theorem qc4{x y:Value}(h:Blk W b 35 #[x,y])(p q:Value):Blk ((W.setCell (vA b 0) p).setCell (vA b 1) q) b 35 #[p,q]:=by
 have:=(h.set 0 p).set 1 q
 simpa using this
theorem qff{t:TypeId}(h:Blk W c t vs)(hn:c≠b)(p q:Value):Blk ((W.setCell (vA b 0) p).setCell (vA b 1) q) c t vs:=(h.other _ _ hn).other _ _ hn
theorem qbk(h:Below B w W)(hb:B<=b)(p q:Value):Below B w ((W.setCell (vA b 0) p).setCell (vA b 1) q):=(h.setCell hb _).setCell hb _
theorem qjp(T:Tree nodes)(hB:qa7 nodes)(h:Rd w nodes bt rr va l)(hm:m∈nodes)(a b:Int)(ha:0<=a/\a<=1000)(hb:0<=b/\b<=1000):
  Cl 216 #[vP rr,nptr m.blk,.agg #[vI a,vI b]] w fun e w'=>e=.returned (.agg #[vI (abv (ws0 (pun l m.key)+a) (pn0 nodes m.key+m.b0)),vI (abv (ws1 (pun l m.key)+b) (pn1 nodes m.key+m.b1))])/\Bw w w':=by
 have kd:=fun W (hW:Bw w W)=>(h.below hW).qvn T hB hm
 have pJ:=fun W (hW:Bw w W)=>qpd T hm W (h.below hW).ins
 have AU:rr<w.heap.size:=xrb _ _ h.bk;have eJ:=fun W (hW:Bw w W)=>(h.below hW).bk
 have ubd:=h.ubd m.key;have z_:=qna T m.key;have cU:=(T.num m hm).2.2.1;have D5:=(T.num m hm).2.2.2.1;generalize ws0 (pun l m.key)=u0 at *;generalize ws1 (pun l m.key)=u1 at *;generalize pn0 nodes m.key=n0 at *;generalize pn1 nodes m.key=n1 at *;have iB:=fun W=>qid u0 u1 a b W (by omega) (by omega) (by omega) (by omega) (by omega) (by omega) (by omega) (by omega)
 have fI:=fun W=>qhu (u0+a) (u1+b) (n0+m.b0) (n1+m.b1) W (by omega) (by omega) (by omega) (by omega) (by omega) (by omega) (by omega) (by omega)
 have b5:Blk ((w.alloc (.cells #[vI a,vI b] 35)).alloc (.cells #[vI 0,vI 0] 35)) w.heap.size 35 #[vI a,vI b]:=by exact blk2
 have b6:Blk ((w.alloc (.cells #[vI a,vI b] 35)).alloc (.cells #[vI 0,vI 0] 35)) (w.heap.size+1) 35 #[vI 0,vI 0]:=Blk.new' (by simp);have aO:Bw w ((w.alloc (.cells #[vI a,vI b] 35)).alloc (.cells #[vI 0,vI 0] 35)):=by exact bel2
 unfold nptr at kd pJ ⊢
 go_enter func216,ntmps216
 go_upto_region 1 with fail
 generalize ((w.alloc (.cells #[vI a,vI b] 35)).alloc (.cells #[vI 0,vI 0] 35))=W0 at b5 b6 aO ⊢;have fE:=aO.size;have k1:=eJ _ aO;have z0:=b5.cell 0;have z1:=b5.cell 1;have l5:=b5.lt;have l6:=b6.lt;simp only[xq0,xq1,xq2]at z0 z1;have Er:¬(w.heap.size=W0.heap.size):=(by omega);have zW:¬(rr=W0.heap.size):=(by omega);have Es:¬(W0.heap.size=w.heap.size):=(by omega);have zX:¬(W0.heap.size=rr):=(by omega)
 go_cut [7] from 8 (fun q wx=>∃b7,q=vP b7/\Bw w wx/\Blk wx (w.heap.size+1) 35 #[vI 0,vI 0]/\Blk wx b7 35 #[vI (u0+a),vI (u1+b)]/\w.heap.size+1<b7)
 case first =>
  go_region_held3 (fun w'=>w'.cell? (vA rr 1)=some (.pointer (some (vA bt 1)))/\w'.cell? (vA w.heap.size 0)=some (vI a)/\w'.cell? (vA w.heap.size 1)=some (vI b)) (go_keep)
   (first
   |(go_at_call 106;refine(kd _ ?_).mono ?_;(focus exact bel2);rintro e w1 ⟨rfl,aa⟩;have aj:Bw w w1:=qac (by exact bel2) aa;have gm:Blk w1 w.heap.size 35 #[vI a,vI b]:=Blk.below (by exact blk2) aa (by first|omega|(simp<;>omega));have eG:Blk w1 (w.heap.size+1) 35 #[vI 0,vI 0]:=Blk.below (by exact blk2) aa (by first|omega|(simp<;>omega));have k2:=eJ _ aj;have y0:=gm.cell 0;have y1:=gm.cell 1;have G5:=gm.lt;have wY:=eG.lt;have cJ:=aj.size;have NA:¬(w.heap.size=w1.heap.size):=(by omega);have Et:¬(rr=w1.heap.size):=(by omega);have K8:¬(w1.heap.size=w.heap.size):=(by omega);have G8:¬(w1.heap.size=rr):=(by omega);simp only[xq0,xq1,xq2]at y0 y1;(try (have fW:Blk w1 W0.heap.size 35 #[vI 0,vI 0]:=Blk.below (by first|(with_reducible exact Blk.new' (by simp))|(with_reducible exact Blk.drew (Blk.new' (by simp)))) aa (by simp);have Eo:=fW.lt)))
   |(go_at_call 139;refine(iB _).mono ?_;rintro e w2 ⟨rfl,af⟩;have aw:Bw w w2:=qac (by exact bel2) af;have gH:Blk w2 w.heap.size 35 #[vI a,vI b]:=Blk.below (by exact blk2) af (by first|omega|(simp<;>omega));have dX:Blk w2 (w.heap.size+1) 35 #[vI 0,vI 0]:=Blk.below (by exact blk2) af (by first|omega|(simp<;>omega));have k3:=eJ _ aw;have x0:=gH.cell 0;have x1:=gH.cell 1;have En:=gH.lt;have zT:=dX.lt;have dO:=aw.size;have NC:¬(w.heap.size=w2.heap.size):=(by omega);have Eu:¬(rr=w2.heap.size):=(by omega);have KC:¬(w2.heap.size=w.heap.size):=(by omega);have G9:¬(w2.heap.size=rr):=(by omega);simp only[xq0,xq1,xq2]at x0 x1;(try (have eR:Blk w2 W0.heap.size 35 #[vI 0,vI 0]:=Blk.below (by with_reducible exact fW) af (by omega);have c7:=eR.cell;have g7:=eR.frozen;have Bi:=eR.lt));(try (have eR:Blk w2 w1.heap.size 35 #[vI 0,vI 0]:=Blk.below (by first|(with_reducible exact Blk.new' (by simp))|(with_reducible exact Blk.drew (Blk.new' (by simp)))) af (by simp);have c7:=eR.cell;have g7:=eR.frozen;have Bi:=eR.lt))))
  all_goals go_wp2_with fail
  ·go_meet
   exact⟨_,rfl,aw.alloc dO _,dX.alloc _,Blk.new' rfl,by omega⟩
  ·go_meet
   exact⟨_,rfl,qbk aw (by omega) ..,qff dX (by omega) ..,qc4 eR ..,by omega⟩
  ·go_meet
   exact⟨_,rfl,qbk aw (by omega) ..,qff dX (by omega) ..,qc4 eR ..,by omega⟩
 case rest =>
  obtain⟨b7,rfl,cY,i_,oJ,yY⟩:=hcut;clear b5 b6 aO z0 z1 k1 Er zW Es zX kd iB eJ;have z0:=oJ.cell 0;have z1:=oJ.cell 1;have Kt:=i_.lt;have Ku:=oJ.lt;simp only[xq0,xq1,xq2]at z0 z1
  go_upto_region 2 with fail
  go_region_with (first
   |(go_at_call 189;refine(fI _).mono ?_;rintro e w2 ⟨rfl,af⟩;have aw:Bw w w2:=qac (by exact bel2) af;have dX:Blk w2 (w.heap.size+1) 35 #[vI 0,vI 0]:=Blk.below (by exact blk2) af (by first|exact eG.lt|omega|(simp<;>omega));have q0:=dX.cell 0;have q1:=dX.cell 1;have q2:=dX.frozen 0;have q3:=dX.frozen 1;simp only[xq0,xq1,xq2]at q0 q1)
   |(go_at_call 190;refine(pJ _ ?_).mono ?_;(focus exact bel2);rintro e w1 ⟨rfl,aa⟩;have aj:Bw w w1:=qac (by exact bel2) aa;have eG:Blk w1 (w.heap.size+1) 35 #[vI 0,vI 0]:=Blk.below (by exact blk2) aa (by first|omega|(simp<;>omega));have fW:Blk w1 b7 35 #[vI (u0+a),vI (u1+b)]:=Blk.below (by exact blk2) aa (by first|omega|(simp<;>omega));have y0:=fW.cell 0;have y1:=fW.cell 1;have wY:=eG.lt;simp only[xq0,xq1,xq2]at y0 y1))
  all_goals go_wp2_with fail
  all_goals have gr:=qc4 dX (vI (abv (u0+a) (n0+m.b0))) (vI (abv (u1+b) (n1+m.b1)))
  all_goals have ym:=gr.cell
  all_goals exact xrn (v:=.agg #[vI (abv (u0+a) (n0+m.b0)),vI (abv (u1+b) (n1+m.b1))]) (by simp[results,results216,go_sem,ym]) rfl ⟨rfl,qbk aw (by omega) ..⟩
structure PwIn (W:World) (nodes:List Node) (p:Pw):Prop where
 at_:Blk W p.blk 105 p.cells
 leaf:∃n∈nodes,n.blk=p.q/\n.key=p.x.key
 num:(0<=p.x.d0/\p.x.d0<=1000)/\(0<=p.x.d1/\p.x.d1<=1000)
theorem PwIn.below(h:PwIn W nodes p)(hb:Bw W W'):PwIn W' nodes p:=⟨h.at_.below hb h.at_.lt,h.leaf,h.num⟩
theorem qhe.one(h:qhe W nodes v l)(hp:p∈l):PwIn W nodes p:=⟨h.works p hp,h.leaf p hp,h.num p hp⟩
theorem PwIn.cells(h:PwIn W nodes p):W.cell? (vA p.blk 0)=some (vI p.x.num)/\W.cell? (vA p.blk 1)=some (vP p.q)/\W.cell? (vA p.blk 2)=some (vI p.x.d0)/\W.cell? (vA p.blk 3)=some (vI p.x.d1) :=
 ⟨h.at_.cell 0,h.at_.cell 1,h.at_.cell 2,h.at_.cell 3⟩
theorem qjr(T:Tree nodes)(hB:qa7 nodes)(h:Rd w nodes bt rr va l)(hp:PwIn w nodes p):
  Cl 207 #[vP rr,nptr p.blk] w fun e w'=>e=.returned (.agg #[vI (abv (ws0 (pun l p.x.key)+p.x.d0) (pn0 nodes p.x.key)),vI (abv (ws1 (pun l p.x.key)+p.x.d1) (pn1 nodes p.x.key))])/\Bw w w':=by
 obtain⟨m,hm,pO,eZ⟩:=hp.leaf;have kd:=fun W (hW:Bw w W)=>(h.below hW).qvn T hB hm
 have pJ:=fun W (hW:Bw w W)=>qcz T hm W (h.below hW).ins
 have AU:rr<w.heap.size:=xrb _ _ h.bk;have fN:=hp.at_.lt;have eJ:=fun W (hW:Bw w W)=>(h.below hW).bk
 have pT:=fun W (hW:Bw w W)=>(hp.below hW).cells.2
 have ubd:=h.ubd m.key;have z_:=qna T m.key;have uw:=hp.num.1;have nQ:=hp.num.2;rw[eZ]at kd pJ ubd z_;rw[pO]at kd pJ;generalize ws0 (pun l p.x.key)=u0 at *;generalize ws1 (pun l p.x.key)=u1 at *;generalize pn0 nodes p.x.key=n0 at *;generalize pn1 nodes p.x.key=n1 at *;generalize p.x.d0=a at *;generalize p.x.d1=b at *;generalize p.blk=pb at *;generalize p.q=pq at *;have iB:=fun W=>qid u0 u1 a b W (by omega) (by omega) (by omega) (by omega) (by omega) (by omega) (by omega) (by omega)
 have fI:=fun W=>qhu (u0+a) (u1+b) n0 n1 W (by omega) (by omega) (by omega) (by omega) (by omega) (by omega) (by omega) (by omega)
 have b6:Blk (w.alloc (.cells #[vI 0,vI 0] 35)) w.heap.size 35 #[vI 0,vI 0]:=Blk.new' (by simp);have aO:Bw w (w.alloc (.cells #[vI 0,vI 0] 35)):=by exact bel2
 clear h hp hm pO eZ;unfold nptr at kd pJ ⊢
 go_enter func207,ntmps207
 go_upto_region 1 with fail
 generalize (w.alloc (.cells #[vI 0,vI 0] 35))=W0 at b6 aO ⊢;have fE:=aO.size;have k1:=eJ _ aO;obtain⟨z1,z2,z3⟩:=pT _ aO;have l6:=b6.lt;have zW:¬(rr=W0.heap.size):=(by omega);have zX:¬(W0.heap.size=rr):=(by omega);have K4:¬(pb=W0.heap.size):=(by omega);have K5:¬(W0.heap.size=pb):=(by omega)
 go_cut [5] from 6 (fun q wx=>∃b7,q=vP b7/\Bw w wx/\Blk wx w.heap.size 35 #[vI 0,vI 0]/\Blk wx b7 35 #[vI (u0+a),vI (u1+b)]/\w.heap.size<b7)
 case first =>
  go_region_held3 (fun w'=>w'.cell? (vA rr 1)=some (.pointer (some (vA bt 1)))/\w'.cell? (vA pb 1)=some (vP pq)/\w'.cell? (vA pb 2)=some (vI a)/\w'.cell? (vA pb 3)=some (vI b)) (go_keep)
   (first
   |(go_at_call 106;refine(kd _ ?_).mono ?_;(focus exact bel2);rintro e w1 ⟨rfl,aa⟩;have aj:Bw w w1:=qac (by exact bel2) aa;have eG:Blk w1 w.heap.size 35 #[vI 0,vI 0]:=Blk.below (by exact blk2) aa (by first|omega|(simp<;>omega));have k2:=eJ _ aj;obtain⟨y1,y2,y3⟩:=pT _ aj;have wY:=eG.lt;have cJ:=aj.size;have Et:¬(rr=w1.heap.size):=(by omega);have G8:¬(w1.heap.size=rr):=(by omega);have zY:¬(pb=w1.heap.size):=(by omega);have NB:¬(w1.heap.size=pb):=(by omega);(try (have fW:Blk w1 W0.heap.size 35 #[vI 0,vI 0]:=Blk.below (by first|(with_reducible exact Blk.new' (by simp))|(with_reducible exact Blk.drew (Blk.new' (by simp)))) aa (by simp);have Eo:=fW.lt)))
   |(go_at_call 139;refine(iB _).mono ?_;rintro e w2 ⟨rfl,af⟩;have aw:Bw w w2:=qac (by exact bel2) af;have dX:Blk w2 w.heap.size 35 #[vI 0,vI 0]:=Blk.below (by exact blk2) af (by first|omega|(simp<;>omega));have k3:=eJ _ aw;obtain⟨x1,x2,x3⟩:=pT _ aw;have zT:=dX.lt;have dO:=aw.size;have Eu:¬(rr=w2.heap.size):=(by omega);have G9:¬(w2.heap.size=rr):=(by omega);have GA:¬(pb=w2.heap.size):=(by omega);have NF:¬(w2.heap.size=pb):=(by omega);(try (have eR:Blk w2 W0.heap.size 35 #[vI 0,vI 0]:=Blk.below (by with_reducible exact fW) af (by omega);have c7:=eR.cell;have g7:=eR.frozen;have Bi:=eR.lt));(try (have eR:Blk w2 w1.heap.size 35 #[vI 0,vI 0]:=Blk.below (by first|(with_reducible exact Blk.new' (by simp))|(with_reducible exact Blk.drew (Blk.new' (by simp)))) af (by simp);have c7:=eR.cell;have g7:=eR.frozen;have Bi:=eR.lt))))
  all_goals go_wp2_with fail
  ·go_meet
   exact⟨_,rfl,aw.alloc dO _,dX.alloc _,Blk.new' rfl,by omega⟩
  ·go_meet
   exact⟨_,rfl,qbk aw (by omega) ..,qff dX (by omega) ..,qc4 eR ..,by omega⟩
  ·go_meet
   exact⟨_,rfl,qbk aw (by omega) ..,qff dX (by omega) ..,qc4 eR ..,by omega⟩
 case rest =>
  obtain⟨b7,rfl,cY,i_,oJ,yY⟩:=hcut;clear b6 aO z1 z2 z3 k1 zW zX K4 K5 kd iB eJ;have z0:=oJ.cell 0;have z1:=oJ.cell 1;have Kt:=i_.lt;have Ku:=oJ.lt;obtain⟨z2,_,_⟩:=pT _ cY;simp only[xq0,xq1,xq2]at z0 z1
  go_upto_region 2 with fail
  go_region_with (first
   |(go_at_call 189;refine(fI _).mono ?_;rintro e w2 ⟨rfl,af⟩;have aw:Bw w w2:=qac (by exact bel2) af;have dX:Blk w2 w.heap.size 35 #[vI 0,vI 0]:=Blk.below (by exact blk2) af (by first|exact eG.lt|omega|(simp<;>omega));have q0:=dX.cell 0;have q1:=dX.cell 1;have q2:=dX.frozen 0;have q3:=dX.frozen 1;simp only[xq0,xq1,xq2]at q0 q1)
   |(go_at_call 85;refine(pJ _ ?_).mono ?_;(focus exact bel2);rintro e w1 ⟨rfl,aa⟩;have aj:Bw w w1:=qac (by exact bel2) aa;have eG:Blk w1 w.heap.size 35 #[vI 0,vI 0]:=Blk.below (by exact blk2) aa (by first|omega|(simp<;>omega));have fW:Blk w1 b7 35 #[vI (u0+a),vI (u1+b)]:=Blk.below (by exact blk2) aa (by first|omega|(simp<;>omega));have y0:=fW.cell 0;have y1:=fW.cell 1;have wY:=eG.lt;simp only[xq0,xq1,xq2]at y0 y1))
  all_goals go_wp2_with fail
  all_goals have gr:=qc4 dX (vI (abv (u0+a) n0)) (vI (abv (u1+b) n1))
  all_goals have ym:=gr.cell
  all_goals exact xrn (v:=.agg #[vI (abv (u0+a) n0),vI (abv (u1+b) n1)]) (by simp[results,results207,go_sem,ym]) rfl ⟨rfl,qbk aw (by omega) ..⟩
end
section
variable {i j:Nat}
def swp {α : Type}(ys:List α)(i j:Nat)(a b : α):List α := (ys.set i b).set j a
theorem qkv{α : Type}(ys:List α)(i j:Nat)(a b : α):(swp ys i j a b).length=ys.length:=by simp[swp]
theorem qrq{α : Type}{ys:List α}{a b : α}(hi:ys[i]?=some a)(hj:ys[j]?=some b)(m:Nat):(swp ys i j a b)[m]?=if m=j then some a else if m=i then some b else ys[m]?:=by
 have h1:=(xr0.1 hi).1;have h2:=(xr0.1 hj).1;unfold swp;rw[List.getElem?_set,List.length_set,List.getElem?_set]
 by_cases e1:m=j
 ·subst e1;simp[h2]
 ·rw[if_neg (fun e=>e1 e.symm),if_neg e1]
  by_cases e2:m=i
  ·subst e2;simp[h1]
  ·rw[if_neg (fun e=>e2 e.symm),if_neg e2]
theorem set_perm{α : Type}{l:List α}{a : α}(hi:l[i]?=some a)(b : α):(b::l).Perm (a::l.set i b):=by
 induction l generalizing i with
 |nil=>simp at hi
 |cons x l ih =>
  cases i with
  |zero=>simp at hi;subst hi;simp;exact List.Perm.swap ..
  |succ i =>
   simp at hi
   have h1:=ih hi;simp only[xr7]
   exact((List.Perm.swap x b l).trans (h1.cons x)).trans (List.Perm.swap a x _)
theorem qhi{α : Type}{ys:List α}{a b : α}(ot:i≠j)(hi:ys[i]?=some a)(hj:ys[j]?=some b):(swp ys i j a b).Perm ys:=by
 unfold swp;have h1:=set_perm hi b;have Dl:(ys.set i b)[j]?=some b:=by rw[List.getElem?_set,if_neg ot];exact hj
 have h2:=set_perm Dl a
 exact(List.perm_cons b).1 (h2.symm.trans h1.symm)
structure Ord {α : Type} (lt : α -> α -> Bool):Prop where
 asymm:∀a b,lt a b=true->lt b a=false
 trans:∀a b c,lt a b=false->lt b c=false->lt a c=false
def qbp {α : Type}(lt : α -> α -> Bool)(ys:List α):Prop:=∀(j:Nat) (a b : α),0<j->ys[j]?=some a->ys[(j-1) / 2]?=some b->lt a b=false
structure qgj {α : Type} (lt : α -> α -> Bool) (ys:List α) (k:Nat):Prop where
 one:∀(j:Nat) (a b : α),0<j->j≠k->ys[j]?=some a->ys[(j-1) / 2]?=some b->lt a b=false
 two:∀(j:Nat) (a b : α),0<j->(j-1) / 2=k->0<k->ys[j]?=some a->ys[(k-1) / 2]?=some b->lt a b=false
structure qbr {α : Type} (lt : α -> α -> Bool) (ys:List α) (k:Nat):Prop where
 one:∀(j:Nat) (a b : α),0<j->(j-1) / 2≠k->ys[j]?=some a->ys[(j-1) / 2]?=some b->lt a b=false
 two:∀(j:Nat) (a b : α),0<j->(j-1) / 2=k->0<k->ys[j]?=some a->ys[(k-1) / 2]?=some b->lt a b=false
theorem qgj.zero{α : Type}{lt : α -> α -> Bool}{ys:List α}(h:qgj lt ys 0):qbp lt ys:=fun j a b hj=>h.one j a b hj (by omega)
theorem qgj.stop{α : Type}{lt : α -> α -> Bool}{ys:List α}{k:Nat}(h:qgj lt ys k){a b : α}(ha:ys[k]?=some a)(hb:ys[(k-1) / 2]?=some b)(hl:lt a b=false):qbp lt ys:=by
 intro j x y hj hx hy
 by_cases e:j=k
 ·subst e;rw[ha]at hx;rw[hb]at hy;cases hx;cases hy;exact hl
 ·exact h.one j x y hj e hx hy
theorem qgj.step{α : Type}{lt : α -> α -> Bool}(O:Ord lt){ys:List α}{k:Nat}(hk:0<k)(h:qgj lt ys k){a b : α}(ha:ys[k]?=some a)(hb:ys[(k-1) / 2]?=some b)(hl:lt a b=true):qgj lt (swp ys k ((k-1) / 2) a b) ((k-1) / 2):=by
 have G:=qrq ha hb;obtain⟨p,hp⟩:∃p,p=(k-1) / 2:=⟨_,rfl⟩;rw[<-hp]at hb G ⊢;have fU:p<k:=by omega
 have kD:=O.asymm a b hl
 refine⟨fun j x y hj J1 hx hy=>?_,fun j x y hj hq zi hx hy=>?_⟩
 ·rw[G]at hx hy;rw[if_neg J1]at hx
  by_cases e:j=k
  ·subst e;rw[if_pos rfl]at hx;rw[if_pos (by omega)]at hy
   cases hx;cases hy;exact kD
  ·rw[if_neg e]at hx
   by_cases e1:(j-1) / 2=p
   ·rw[if_pos e1]at hy;cases hy
    exact O.trans x b a (h.one j x b hj e hx (by rw[e1];exact hb)) kD
   ·rw[if_neg e1]at hy
    by_cases e2:(j-1) / 2=k
    ·rw[if_pos e2]at hy;cases hy
     exact h.two j x b hj e2 hk hx (by rw[<-hp];exact hb)
    ·rw[if_neg e2]at hy
     exact h.one j x y hj e hx hy
 ·rw[G]at hx hy;rw[if_neg (by omega),if_neg (by omega)]at hy;rw[if_neg (by omega)]at hx;have bR:lt b y=false:=h.one p b y zi (by omega) hb hy
  by_cases e:j=k
  ·rw[if_pos e]at hx;cases hx;exact bR
  ·rw[if_neg e]at hx
   exact O.trans x b y (h.one j x b hj e hx (by rw[hq];exact hb)) bR
theorem qbr.stop{α : Type}{lt : α -> α -> Bool}{ys:List α}{k:Nat}(h:qbr lt ys k){a : α}(ha:ys[k]?=some a)(h1:∀b,ys[2*k+1]?=some b->lt b a=false)(h2:∀b,ys[2*k+2]?=some b->lt b a=false):qbp lt ys:=by
 intro j x y hj hx hy
 by_cases e:(j-1) / 2=k
 ·rw[e,ha]at hy;cases hy
  rcases(by omega:j=2*k+1\/j=2*k+2) with rfl|rfl
  ·exact h1 x hx
  ·exact h2 x hx
 ·exact h.one j x y hj e hx hy
theorem qbr.step{α : Type}{lt : α -> α -> Bool}(O:Ord lt){ys:List α}{k f:Nat}(hf:f=2*k+1\/f=2*k+2)(h:qbr lt ys k){a b : α}(ha:ys[k]?=some a)(hb:ys[f]?=some b)(hl:lt b a=true)(hc:∀c x,(c=2*k+1\/c=2*k+2)->ys[c]?=some x->c≠f->lt x b=false):qbr lt (swp ys k f a b) f:=by
 have G:=qrq ha hb;have IS:=O.asymm b a hl
 refine⟨fun j x y hj hq hx hy=>?_,fun j x y hj hq MK hx hy=>?_⟩
 ·rw[G]at hx hy;rw[if_neg hq]at hy
  by_cases e:j=f
  ·rw[if_pos e]at hx;rw[if_pos (by omega)]at hy
   cases hx;cases hy;exact IS
  ·rw[if_neg e]at hx
   by_cases e1:j=k
   ·rw[if_pos e1]at hx;cases hx;rw[if_neg (by omega)]at hy
    exact h.two f b y (by omega) (by omega) (by omega) hb (by rw[<-e1];exact hy)
   ·rw[if_neg e1]at hx
    by_cases e2:(j-1) / 2=k
    ·rw[if_pos e2]at hy;cases hy
     exact hc j x (by omega) hx e
    ·rw[if_neg e2]at hy
     exact h.one j x y hj e2 hx hy
 ·rw[G]at hx hy;rw[if_neg (by omega),if_neg (by omega)]at hx;rw[if_neg (by omega),if_pos (by omega)]at hy
  cases hy
  exact h.one j x b hj (by omega) hx (by rw[hq];exact hb)
theorem qbp.min{α : Type}{lt : α -> α -> Bool}(O:Ord lt){ys:List α}(h:qbp lt ys){m : α}(hm:ys[0]?=some m)(D0:lt m m=false):∀(j:Nat) (a : α),ys[j]?=some a->lt a m=false:=by
 intro j
 induction j using Nat.strongRecOn with
 |_ j ih =>
  intro a ha
  by_cases e:j=0
  ·subst e;rw[hm]at ha;cases ha;exact D0
  ·have ak:=(xr0.1 ha).1;obtain⟨b,hb⟩:∃b,ys[(j-1) / 2]?=some b:=⟨_,xr1 (by omega)⟩
   exact O.trans a b m (h j a b (by omega) ha hb) (ih _ (by omega) b hb)
theorem qbp.push{α : Type}{lt : α -> α -> Bool}{ys:List α}(h:qbp lt ys)(x : α):qgj lt (ys++[x]) ys.length:=by
 refine⟨fun j a b hj hn ha hb=>?_,fun j a b hj hq hk ha hb=>?_⟩
 ·have ak:=(xr0.1 ha).1
  simp at ak
  rw[xrp (by omega)]at ha hb
  exact h j a b hj ha hb
 ·have ak:=(xr0.1 ha).1
  simp at ak
  omega
theorem qbp.pop{α : Type}{lt : α -> α -> Bool}{ys:List α}(h:qbp lt ys)(b : α):qbr lt ((ys.set 0 b).take (ys.length-1)) 0:=by
 refine⟨fun j x y hj hq hx hy=>?_,fun j x y hj hq hk=>by omega⟩
 have ak:=(xr0.1 hx).1
 simp at ak
 rw[List.getElem?_take_of_lt (by omega),List.getElem?_set,if_neg (by omega)]at hx hy
 exact h j x y hj hx hy
theorem qnz{α : Type}{ys:List α}{a b : α}(ha:ys[0]?=some a)(hb:ys[ys.length-1]?=some b):(a::(ys.set 0 b).take (ys.length-1)).Perm ys:=by
 cases ys with
 |nil=>simp at ha
 |cons x l =>
  simp at ha;subst ha
  rcases List.eq_nil_or_concat l with rfl|⟨l',z,rfl⟩
  ·simp
  ·have hz:b=z:=by simp at hb;exact hb.symm
   subst hz;simp only[xr8,List.length_cons,List.concat_eq_append,List.length_append,List.length_nil];rw[show l'.length+1+1-1=l'.length+1 by omega,List.take_succ_cons,List.take_left']
   ·exact(List.perm_append_singleton b l').symm.cons x
   ·rfl
end
section
open Go.RowKit
variable {W W' w w':World}{hb i j:Nat}{f v:Value}{p:Pw}{T:Nat->Prop}{zs:List Pw}
structure HpAt (W:World) (hb:Nat) (f v:Value) (ys:List Pw):Prop where
 at_:Blk W hb 247 #[f,v]
 row:W.ownsRow 0 95 1 v ys.length (qay ys)
 ne:v.ownBlock≠some hb
theorem HpAt.get{ys:List Pw}(h:HpAt W hb f v ys)(hi:ys[i]?=some p):∃g cap,v=vS g ys.length cap/\g<W.heap.size/\g≠hb/\ys.length<=cap/\cap<=maxLen/\W.cell? (vA g i)=some (nptr p.blk)/\W.frozen? (vA g i)=false:=by
 obtain⟨g,cap,rfl,h1,h2⟩:=qat h.row (Nat.lt_of_le_of_lt (Nat.zero_le _) (xr0.1 hi).1)
 have:=h.row.cells (g:=g) rfl i (nptr p.blk) (by unfold qay;rw[xrs,hi];rfl)
 rw[Addr.add_lit,Nat.zero_add]at this
 exact⟨g,cap,rfl,qal h.row rfl,fun e=>h.ne (by simp[Value.ownBlock,e]),h1,h2,this,h.row.frozenAt _⟩
theorem HpAt.drew{ys:List Pw}(h:HpAt W hb f v ys):HpAt W.drew hb f v ys:=⟨h.at_.drew,h.row.drew,h.ne⟩
theorem qqn{ys:List Pw}(h:HpAt w hb f v ys)(hl:ys.length<=100){a b:Pw}(hi:ys[i]?=some a)(hj:ys[j]?=some b)(ot:i≠j):
  Cl 229 #[vP hb,vI i,vI j] w fun e w'=>e=.returned (.tuple #[])/\HpAt w' hb f v (swp ys i j a b)/\Keep (fun y=>v.ownBlock=some y) w w':=by
 obtain⟨g,cap,hv,ct,iJ,de,jc,ci,fi⟩:=h.get hi;obtain⟨g',cap',dW,_,_,_,_,cj,fj⟩:=h.get hj;rw[hv]at dW;injection dW with e1 _ e3;injection e1 with e1;injection e1 with e1;subst e1 e3;have ey:=(xr0.1 hi).1;have iL:=(xr0.1 hj).1;have c1:=h.at_.cell 1;have ak:=h.at_.lt;simp only[xq0,xq1,xq2]at c1;rw[hv]at c1;obtain⟨n,hn⟩:∃n,n=ys.length:=⟨_,rfl⟩;rw[<-hn]at c1 ey iL de hl;have h1:(i:Int)<n:=by omega
 have h2:(0:Int)<=i:=by omega
 have h3:(j:Int)<n:=by omega
 have h4:(0:Int)<=j:=by omega
 have Jz:¬(j=i):=fun e=>ot e.symm
 have eO:¬(hb=g):=fun e=>iJ e.symm
 have aP:HpAt ((w.setCell (vA g i) (nptr b.blk)).setCell (vA g j) (nptr a.blk)) hb f v (swp ys i j a b)/\Keep (fun y=>v.ownBlock=some y) w ((w.setCell (vA g i) (nptr b.blk)).setCell (vA g j) (nptr a.blk)):=by
  subst hv
  refine⟨⟨(h.at_.other _ _ eO).other _ _ eO,?_,h.ne⟩,?_⟩
  ·have r1:=((h.row.stored i (nptr b.blk)).1.stored j (nptr a.blk)).1;rw[qkv]
   have:qay (swp ys i j a b)=((qay ys).set i (nptr b.blk)).set j (nptr a.blk):=by simp[qay,swp,List.map_set]
   rw[this]
   exact r1
  ·exact((Keep.refl _ _).setCell (p:=vA g i) (by simp[Value.ownBlock]) _).setCell (p:=vA g j) (by simp[Value.ownBlock]) _
 have HP:Hid (HpAt ((w.setCell (vA g i) (nptr b.blk)).setCell (vA g j) (nptr a.blk)) hb f v (swp ys i j a b)/\Keep (fun y=>v.ownBlock=some y) w ((w.setCell (vA g i) (nptr b.blk)).setCell (vA g j) (nptr a.blk))):=aP;clear aP h hi hj hn;unfold nptr at ci cj
 go_enter func229,ntmps229
 go_wp2_with fail
 go_region
 all_goals go_wp2_with fail
 go_end0
 obtain⟨p1,p2⟩:=HP.out
 exact⟨rfl,p1.drew,p2.drew⟩
theorem HpAt.below{ys:List Pw}(h:HpAt W hb f v ys)(hB:Bw W W'):HpAt W' hb f v ys :=
 ⟨h.at_.below hB h.at_.lt,qab (T:=fun _=>False) h.row (Keep.new hB) (fun _ _ e=>e),h.ne⟩
theorem qqg{ys:List Pw}(h:HpAt w hb (.func (.func 168) #[] #[]) v ys)(hl:ys.length<=100){a:Pw}(hi:ys[i]?=some a)(pC:j<=1000)(lt:Pw->Pw->Bool)
  (cf:∀W,Bw w W->∀b,ys[j]?=some b->Cl 168 #[nptr b.blk,nptr a.blk] W fun e w'=>e=.returned (.bool (lt b a))/\Bw W w') :
  Cl 228 #[vP hb,vI i,vI j] w fun e w'=>e=.returned (vI (match ys[j]? with|some b=>if lt b a then(j:Int) else(i:Int)|none=>(i:Int)))/\Bw w w':=by
 obtain⟨g,cap,hv,ct,iJ,de,jc,ci,fi⟩:=h.get hi;have ey:=(xr0.1 hi).1;have c0:=h.at_.cell 0;have c1:=h.at_.cell 1;have ak:=h.at_.lt;simp only[xq0,xq1,xq2]at c0 c1;rw[hv]at c1;obtain⟨n,hn⟩:∃n,n=ys.length:=⟨_,rfl⟩;rw[<-hn]at c1 ey de hl;have h1:(i:Int)<n:=by omega
 have h2:(0:Int)<=i:=by omega
 have h4:(0:Int)<=j:=by omega
 have HN:Hid (n=ys.length):=hn;clear hn
 cases hj:ys[j]? with
 |none =>
  have yM:decide (j<n)=false:=decide_eq_false (by have:=List.getElem?_eq_none_iff.1 hj;have:=HN.out;omega);clear cf h hj hi hv
  simp only
  go_enter func228,ntmps228
  go_wp2_with fail
  go_quiet (fail)
  go_wp2_with fail
  go_ret
  exact⟨rfl,xrm (Below.refl _ _) _⟩
 |some b =>
  obtain⟨g',cap',dW,_,_,_,_,cj,fj⟩:=h.get hj;rw[hv]at dW;injection dW with e1 _ e3;injection e1 with e1;injection e1 with e1;subst e1 e3;have gX:(j:Int)<n:=by have:=(xr0.1 hj).1;have:=HN.out;omega
  have yM:decide ((j:Int)<n)=true:=decide_eq_true gX;have iE:=fun W hW=>cf W hW b hj
  unfold nptr at ci cj iE;clear cf h hi hj hv
  simp only
  generalize lt b a=t at iE ⊢
  go_enter func228,ntmps228
  go_upto_region 1 with fail
  go_cut [34] from 7 (fun q wx=>q=.bool t/\Bw w wx)
  case first =>
   go_region_held3 (fun w'=>w'.cell? (vA hb 0)=some (.func (.func 168) #[] #[])/\w'.cell? (vA hb 1)=some (vS g n cap)/\w'.cell? (vA g i)=some (vP a.blk)/\w'.cell? (vA g j)=some (vP b.blk)) (go_keep)
    (first
    |(go_at_call 168;refine(iE _ ?_).mono ?_;(focus exact bel2);rintro e w1 ⟨rfl,aa⟩;have aj:Bw w w1:=qac (by exact bel2) aa;have r0:=(aj.cell (p:=vA hb 0) ak).trans c0;have r1:=(aj.cell (p:=vA hb 1) ak).trans c1;have r2:=(aj.cell (p:=vA g i) ct).trans ci;have r3:=(aj.cell (p:=vA g j) ct).trans cj))
   all_goals go_wp2_with fail
   go_meet
   exact⟨rfl,aj⟩
  case rest =>
   obtain⟨rfl,cY⟩:=hcut
   cases t
   ·go_wp2_with fail
    go_ret
    exact⟨rfl,cY⟩
   ·go_wp2_with fail
    go_ret
    exact⟨rfl,cY⟩
theorem quo2(k:Nat)(hk:0<k):((k:Int)-1).tdiv 2=((k-1) / 2:Nat):=by
 obtain⟨m,rfl⟩:∃m,k=m+1:=⟨k-1,by omega⟩;simp only[Nat.add_sub_cancel];rw[show((m+1:Nat):Int)-1=(m:Int) by omega]
 rfl
def Befs (w:World)(T:Nat->Prop)(ys:List Pw)(lt:Pw->Pw->Bool):Prop :=
 ∀W,Keep T w W->∀a∈ys,∀b∈ys,Cl 168 #[nptr a.blk,nptr b.blk] W fun e w'=>e=.returned (.bool (lt a b))/\Bw W w'
theorem qu6{ys:List Pw}{lt:Pw->Pw->Bool}(O:Ord lt)(h:HpAt w hb (.func (.func 168) #[] #[]) v ys)(hl:ys.length<=100){k:Nat}(hk:k<ys.length)(hU:qgj lt ys k)(cf:Befs w (fun y=>v.ownBlock=some y) ys lt):
  Cl 227 #[vP hb,vI k] w fun e w'=>e=.returned (.tuple #[])/\∃zs,zs.Perm ys/\qbp lt zs/\HpAt w' hb (.func (.func 168) #[] #[]) v zs/\Keep (fun y=>v.ownBlock=some y) w w':=by
 have ak:=h.at_.lt;obtain⟨T,hT⟩:∃T:Nat->Prop,T=fun y=>v.ownBlock=some y:=⟨_,rfl⟩
 rw[<-hT]at cf ⊢;have HT:Hid (T=fun y=>v.ownBlock=some y):=hT;clear hT
 go_enter func227,ntmps227
 go_wp2_with fail
 go_loopg [1] k (fun q vk wr=>∃(j:Nat) (zs:List Pw),vk=vI j/\j<=q/\j<zs.length/\zs.Perm ys/\qgj lt zs j/\HpAt wr hb (.func (.func 168) #[] #[]) v zs/\Keep T w wr)
 case atStart=>exact⟨k,ys,rfl,Nat.le_refl _,hk,List.Perm.refl _,hU,h,Keep.refl _ _⟩
 case round =>
  clear h hU hk;obtain⟨j,zs,rfl,Dm,iL,bj,hU,hH,hK⟩:=hrel;have lM:zs.length<=100:=by rw[bj.length_eq];exact hl
  by_cases hj0:j=0
  ·subst hj0;have cG:=hU.zero;have HE:Hid (qbp lt zs):=cG;clear cG hU
   go_wp2_with fail
   go_end0
   exact⟨rfl,zs,bj,HE.out,hH,hK⟩
  ·obtain⟨a,ha⟩:∃a,zs[j]?=some a:=⟨_,xr1 iL⟩;obtain⟨b,dr⟩:∃b,zs[(j-1) / 2]?=some b:=⟨_,xr1 (by omega)⟩;have vh:=quo2 j (by omega);obtain⟨p,hp⟩:∃p,p=(j-1) / 2:=⟨_,rfl⟩;rw[<-hp]at dr vh;have qD:p<j:=by omega
   have HP:Hid (p=(j-1) / 2):=hp;clear hp;obtain⟨g,cap,hv,ct,iJ,de,jc,ci,fi⟩:=hH.get ha;obtain⟨g',cap',dW,_,_,_,_,cj,fj⟩:=hH.get dr;rw[hv]at dW;injection dW with e1 _ e3;injection e1 with e1;injection e1 with e1;subst e1 e3;have c0:=hH.at_.cell 0;have c1:=hH.at_.cell 1;have yH:=hH.at_.lt;simp only[xq0,xq1,xq2]at c0 c1;rw[hv]at c1;have mj:=bj.mem_iff.1 (xr2 ha);have CH:=bj.mem_iff.1 (xr2 dr);have iE:=fun W (hW:Bw wr W)=>cf W (hK.trans (Keep.new hW)) a mj b CH
   have n8:=fun W (hW:Bw wr W)=>qqn (hH.below hW) lM ha dr (by omega)
   obtain⟨n,hn⟩:∃n,n=zs.length:=⟨_,rfl⟩;rw[<-hn]at c1 de iL lM;have HN:Hid (n=zs.length):=hn;have HV:Hid (v=vS g zs.length cap):=hv;have np:(j:Int)<n:=by omega
   have rK:(0:Int)<=j:=by omega
   have wF:(0:Int)<j:=by omega
   have sY:(p:Int)<n:=by omega
   have wM:(0:Int)<=p:=by omega
   unfold nptr at ci cj iE;have HH:Hid (HpAt wr hb (.func (.func 168) #[] #[]) v zs):=hH;have HA:Hid (zs[j]?=some a/\zs[p]?=some b):=⟨ha,dr⟩;clear hn hv ha dr hH hj0;generalize jt:lt a b=t at iE;have xd:Hid (lt a b=t):=jt;clear jt
   go_upto_region 2 with fail
   go_cut [29] from 5 to 34 (fun q wx=>q=.bool (!t)/\Bw wr wx)
   case first =>
    go_region_held3 (fun w'=>w'.cell? (vA hb 0)=some (.func (.func 168) #[] #[])/\w'.cell? (vA hb 1)=some (vS g n cap)/\w'.cell? (vA g j)=some (vP a.blk)/\w'.cell? (vA g p)=some (vP b.blk)) (go_keep)
     (first
     |(go_at_call 168;refine(iE _ ?_).mono ?_;(focus exact bel2);rintro e w1 ⟨rfl,aa⟩;have aj:Bw wr w1:=qac (by exact bel2) aa;have r0:=(aj.cell (p:=vA hb 0) yH).trans c0;have r1:=(aj.cell (p:=vA hb 1) yH).trans c1;have r2:=(aj.cell (p:=vA g j) ct).trans ci;have r3:=(aj.cell (p:=vA g p) ct).trans cj))
    all_goals go_wp2_with fail
    go_meet
    exact⟨rfl,aj⟩
   case rest =>
    obtain⟨rfl,cY⟩:=hcut;clear c0 c1 ci cj fi fj iE
    cases t
    ·have cG:=hU.stop HA.out.1 (by rw[<-HP.out];exact HA.out.2) xd.out;have HE:Hid (qbp lt zs):=cG;clear cG hU
     go_wp2_with fail
     exact xrn (v:=.tuple #[]) (by simp[results,results227,go_sem]) rfl ⟨rfl,zs,bj,HE.out,HH.out.below cY,hK.trans (Keep.new cY)⟩
    ·go_wp2_with fail
     refine(n8 _ cY).mono ?_
     rintro e w3 ⟨rfl,tQ,h_⟩
     have C3:qgj lt (swp zs j p a b) p:=by
      have:=hU.step O (by omega) HA.out.1 (by rw[<-HP.out];exact HA.out.2) xd.out
      rw[<-HP.out]at this
      exact this
     have fM:(swp zs j p a b).Perm ys:=(qhi (by omega) HA.out.1 HA.out.2).trans bj;have qw:Keep T w w3:=(hK.trans (Keep.new cY)).trans (by rw[HT.out];exact h_);clear n8 hU
     go_wp2_with fail
     go_roundg p
     case measure=>omega
     case rel=>exact⟨p,swp zs j p a b,rfl,Nat.le_refl _,by rw[qkv,<- HN.out];omega,fM,C3,tQ,qw⟩
def fo {α : Type}(lt : α -> α -> Bool)(zs:List α)(a : α)(i j:Nat):Nat:=match zs[j]? with|some b=>if lt b a then j else i|none=>i
theorem qjm{α : Type}{lt : α -> α -> Bool}(O:Ord lt){zs:List α}{k:Nat}{a a1 : α}(h:qbr lt zs k)(ha:zs[k]?=some a)(iq:zs[fo lt zs a k (2*k+1)]?=some a1):
  (fo lt zs a1 (fo lt zs a k (2*k+1)) (2*k+2)=k/\qbp lt zs) \/
  (fo lt zs a1 (fo lt zs a k (2*k+1)) (2*k+2)≠k/\∃b,zs[fo lt zs a1 (fo lt zs a k (2*k+1)) (2*k+2)]?=some b/\k<fo lt zs a1 (fo lt zs a k (2*k+1)) (2*k+2)/\qbr lt (swp zs k (fo lt zs a1 (fo lt zs a k (2*k+1)) (2*k+2)) a b) (fo lt zs a1 (fo lt zs a k (2*k+1)) (2*k+2))):=by
 unfold fo at *
 cases h1:zs[2*k+1]? with
 |none =>
  rw[h1]at iq
  simp only at iq ⊢
  rw[ha]at iq;cases iq;have h2:zs[2*k+2]?=none:=List.getElem?_eq_none_iff.2 (by have:=List.getElem?_eq_none_iff.1 h1;omega);rw[h2]
  simp only
  exact .inl ⟨trivial,h.stop ha (fun b hb=>by rw[h1]at hb;cases hb) (fun b hb=>by rw[h2]at hb;cases hb)⟩
 |some c1 =>
  rw[h1]at iq
  simp only at iq ⊢
  cases kH:lt c1 a with
  |false =>
   rw[kH]at iq;simp only[Bool.false_eq_true,if_false]at iq ⊢;rw[ha]at iq;cases iq
   cases h2:zs[2*k+2]? with
   |none =>
    simp only
    exact .inl ⟨trivial,h.stop ha (fun b hb=>by rw[h1]at hb;cases hb;exact kH) (fun b hb=>by rw[h2]at hb;cases hb)⟩
   |some c2 =>
    simp only
    cases gx:lt c2 a with
    |false =>
     simp only[Bool.false_eq_true,if_false]
     exact .inl ⟨trivial,h.stop ha (fun b hb=>by rw[h1]at hb;cases hb;exact kH) (fun b hb=>by rw[h2]at hb;cases hb;exact gx)⟩
    |true =>
     simp only[if_true]
     refine .inr ⟨by omega,c2,h2,by omega,h.step O (.inr rfl) ha h2 gx (fun c x hc hx aW=>?_)⟩
     have gJ:c=2*k+1:=by omega
     subst gJ;rw[h1]at hx;cases hx
     exact O.trans _ _ _ kH (O.asymm _ _ gx)
  |true =>
   rw[kH]at iq;simp only[if_true]at iq ⊢;have de:c1=a1:=by rw[h1]at iq;injection iq
   subst de
   cases h2:zs[2*k+2]? with
   |none =>
    simp only
    refine .inr ⟨by omega,c1,h1,by omega,h.step O (.inl rfl) ha h1 kH (fun c x hc hx aW=>?_)⟩
    have gJ:c=2*k+2:=by omega
    subst gJ;rw[h2]at hx;cases hx
   |some c2 =>
    simp only
    cases gx:lt c2 c1 with
    |false =>
     simp only[Bool.false_eq_true,if_false]
     refine .inr ⟨by omega,c1,h1,by omega,h.step O (.inl rfl) ha h1 kH (fun c x hc hx aW=>?_)⟩
     have gJ:c=2*k+2:=by omega
     subst gJ;rw[h2]at hx;cases hx
     exact gx
    |true =>
     simp only[if_true];have uQ:lt c2 a=true:=by
      cases hh:lt c2 a with
      |true=>rfl
      |false =>
       have:=O.trans _ _ _ hh (O.asymm _ _ kH)
       rw[gx]at this;cases this
     refine .inr ⟨by omega,c2,h2,by omega,h.step O (.inr rfl) ha h2 uQ (fun c x hc hx aW=>?_)⟩
     have gJ:c=2*k+1:=by omega
     subst gJ;rw[h1]at hx;cases hx
     exact O.asymm _ _ gx
theorem qws{α : Type}(lt : α -> α -> Bool)(zs:List α)(a : α)(hi:i<zs.length):fo lt zs a i j<zs.length:=by
 unfold fo
 cases h:zs[j]? with
 |none=>exact hi
 |some b =>
  simp only
  split
  ·exact(xr0.1 h).1
  ·exact hi
theorem qp5{ys:List Pw}(h:HpAt w hb (.func (.func 168) #[] #[]) v ys)(hl:ys.length<=100){a:Pw}(hi:ys[i]?=some a)(pC:j<=1000)(lt:Pw->Pw->Bool)
  (cf:Befs w (fun y=>v.ownBlock=some y) ys lt) :
  Cl 228 #[vP hb,vI i,vI j] w fun e w'=>e=.returned (vI (fo lt ys a i j))/\Bw w w':=by
 refine(qqg h hl hi pC lt (fun W hW b hb=>cf W (Keep.new hW) b (xr2 hb) a (xr2 hi))).mono ?_
 rintro e w' ⟨rfl,hB⟩
 refine⟨?_,hB⟩
 unfold fo
 cases ys[j]? with
 |none=>rfl
 |some b=>simp only;split<;>rfl
theorem Befs.keep{ys:List Pw}{lt:Pw->Pw->Bool}(h:Befs w T ys lt)(hk:Keep T w w'):Befs w' T ys lt:=fun W hW=>h W (hk.trans hW)
theorem Befs.perm{ys:List Pw}{lt:Pw->Pw->Bool}(h:Befs w T ys lt)(hp:zs.Perm ys):Befs w T zs lt:=fun W hW a ha b hb=>h W hW a (hp.mem_iff.1 ha) b (hp.mem_iff.1 hb)
theorem qvy{ys:List Pw}{lt:Pw->Pw->Bool}(O:Ord lt)(h:HpAt w hb (.func (.func 168) #[] #[]) v ys)(hl:ys.length<=100){k:Nat}(hk:k<ys.length)(hU:qbr lt ys k)(cf:Befs w (fun y=>v.ownBlock=some y) ys lt):
  Cl 209 #[vP hb,vI k] w fun e w'=>e=.returned (.tuple #[])/\∃zs,zs.Perm ys/\qbp lt zs/\HpAt w' hb (.func (.func 168) #[] #[]) v zs/\Keep (fun y=>v.ownBlock=some y) w w':=by
 obtain⟨T,hT⟩:∃T:Nat->Prop,T=fun y=>v.ownBlock=some y:=⟨_,rfl⟩
 have uD:=fun (W:World) (zs:List Pw) (i j:Nat) (a:Pw) (hH:HpAt W hb (.func (.func 168) #[] #[]) v zs) (lM:zs.length<=100) (hi:zs[i]?=some a) (pC:j<=1000) (aZ:Befs W T zs lt)=>qp5 hH lM hi pC lt (by rw[<-hT];exact aZ)
 rw[<-hT]at cf ⊢;have HT:Hid (T=fun y=>v.ownBlock=some y):=hT;clear hT;obtain⟨N,hN⟩:∃N,N=ys.length:=⟨_,rfl⟩;have HN:Hid (N=ys.length):=hN;rw[<-hN]at hl;clear hN
 go_enter func209,ntmps209
 go_wp2_with fail
 go_loopg [1] N (fun q vk wr=>∃(j:Nat) (zs:List Pw),vk=vI j/\N<=q+j/\j<N/\zs.Perm ys/\qbr lt zs j/\HpAt wr hb (.func (.func 168) #[] #[]) v zs/\Keep T w wr)
 case atStart=>exact⟨k,ys,rfl,by omega,by rw[HN.out];exact hk,List.Perm.refl _,hU,h,Keep.refl _ _⟩
 case round =>
  clear h hU hk;obtain⟨j,zs,rfl,Dm,iL,bj,hU,hH,hK⟩:=hrel;have zM:zs.length=N:=by rw[HN.out];exact bj.length_eq
  have lM:zs.length<=100:=by omega
  obtain⟨a,ha⟩:∃a,zs[j]?=some a:=⟨_,xr1 (by omega)⟩;obtain⟨f1,dt⟩:∃f1,f1=fo lt zs a j (2*j+1):=⟨_,rfl⟩;have pw:f1<zs.length:=by rw[dt];exact qws lt zs a (by omega)
  obtain⟨a1,iq⟩:∃a1,zs[f1]?=some a1:=⟨_,xr1 pw⟩;obtain⟨f2,dy⟩:∃f2,f2=fo lt zs a1 f1 (2*j+2):=⟨_,rfl⟩;have dp:=qjm O hU ha (by rw[<-dt];exact iq);rw[<-dt,<- dy]at dp;have mn:=(cf.keep hK).perm bj;have c1:=uD wr zs j (2*j+1) a hH lM ha (by omega) mn;rw[<-dt]at c1;have c2:=fun W (hW:Bw wr W)=>uD W zs f1 (2*j+2) a1 (hH.below hW) lM iq (by omega) (mn.keep (Keep.new hW))
  rw[<-dy]at c2;have e1:((2*j+1:Nat):Int)=2*(j:Int)+1:=by omega
  have e2:((2*j+2:Nat):Int)=2*(j:Int)+2:=by omega
  rw[e1]at c1;rw[e2]at c2;have HC:Hid (f2=j/\qbp lt zs\/(f2≠j/\∃b,zs[f2]?=some b/\j<f2/\qbr lt (swp zs j f2 a b) f2)):=dp;have HA:Hid (zs[j]?=some a):=ha;have HH:Hid (HpAt wr hb (.func (.func 168) #[] #[]) v zs):=hH;have BD:Hid (zs.length=N):=zM;clear dp ha iq dt dy uD hU e1 e2 hH zM mn pw;have np:(0:Int)<=j:=by omega
  have rK:(j:Int)<=100:=by omega
  go_wp2_with fail
  refine c1.mono ?_
  rintro e w1 ⟨rfl,aa⟩
  go_wp2_with fail
  refine(c2 _ aa).mono ?_
  rintro e w2 ⟨rfl,af⟩
  have aw:Bw wr w2:=qac aa af;clear c1 c2 aa af
  rcases HC.out with ⟨hf,lj⟩|⟨hf,b,rm,Jy,hD⟩
  ·have HE:Hid (qbp lt zs):=lj;clear lj;subst hf
   go_wp2_with fail
   exact xrn (v:=.tuple #[]) (by simp[results,results209,go_sem]) rfl ⟨rfl,zs,bj,HE.out,HH.out.below aw,hK.trans (Keep.new aw)⟩
  ·have nR:((f2:Int) == (j:Int))=false:=by simp;omega
   have n8:=qqn (HH.out.below aw) lM HA.out rm (by omega);have fM:(swp zs j f2 a b).Perm ys:=(qhi (by omega) HA.out rm).trans bj;have uB:f2<N:=by have:=(xr0.1 rm).1;have:=BD.out;omega
   have HD:Hid (qbr lt (swp zs j f2 a b) f2):=hD;clear hD rm hf
   go_wp2_with fail
   refine n8.mono ?_
   rintro e w3 ⟨rfl,tQ,h_⟩
   have qw:Keep T w w3:=(hK.trans (Keep.new aw)).trans (by rw[HT.out];exact h_);clear n8
   go_wp2_with fail
   go_roundg (N-f2)
   case measure=>omega
   case rel=>exact⟨f2,swp zs j f2 a b,rfl,by omega,uB,fM,HD.out,tQ,qw⟩
end
end Go.Proofs.YtphclnolomgjoaaGreatDoor
