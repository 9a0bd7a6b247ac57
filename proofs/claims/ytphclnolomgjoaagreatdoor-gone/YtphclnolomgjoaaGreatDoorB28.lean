import Derived.Test.YtphclnolomgjoaaGreatDoorB27
import Derived.Test.YtphclnolomgjoaaGreatDoorB23
import Derived.Test.YtphclnolomgjoaaGreatDoorB22
set_option linter.unusedVariables false
set_option linter.unusedSimpArgs false
set_option maxRecDepth 100000
set_option maxHeartbeats 4000000
namespace Go.Proofs.YtphclnolomgjoaaGreatDoor
open Tryz
open Go.RowKit
variable {W' W0 w w' w1:World}{ai ev x1 x2 x3 y2 y3:Value}{b g0 g1 g2 g3 g4:Nat}{a c cnt d er err m0 m1 st:Int}{n:Node}{ok:Bool}{s:SS}{Ws:List Wk}
def qdu (nodes:List Node)(s:Bs)(ok:Bool)(a b:Int):Int :=
 if qar s=false then 1 else if s=[] then 2 else match findKey nodes (qac s) with
 |none=>3
 |some n=>if ok=false then 6 else if (!n.leaf&&!(a == 0&&b == 0))=true then 6 else 0
theorem qfb{nodes:List Node}(T0:Tree nodes){bt:Nat}{r:Node}{vw va:Value}{ws as_:List Pw}(h:TwAt w nodes bt r ai vw va ws as_)(hr:r∈nodes)(a_:r.key=[])(s:ByteArray)(hs:s.size<=2000000)(a b c d:Int):
  Calls prog 84 #[.pointer (some ⟨bt,0,none⟩),.string s,.agg #[.int .i64 a,.int .i64 b],.agg #[.int .i64 c,.int .i64 d]] w fun e w'=>e=.returned (.int .i64 (qdu nodes (bl s) (qbj [(a,b),(c,d)]) a b))/\Below w.heap.size w w':=by
 have aA:=fun W=>qd1 s hs W
 rw[qk8]at aA;have cD:=h.bk.at_.lt;have bG:∀W,Below w.heap.size w W->W.cell? ⟨bt,0,none⟩=some (nptr r.blk):=fun W (hW:Below w.heap.size w W)=>(h.below hW).bk.at_.cell 0
 have aj:=fun W (hW:Below w.heap.size w W) v hv=>qcr T0 hr a_ s hs W (h.below hW).ins v hv
 have aZ:=fun n (hn:n∈nodes) W (hW:Below w.heap.size w W)=>qgx n.blk n.leaf W (((h.below hW).ins n hn).cell rfl)
 have de:∀W vb,Blk W vb 35 #[.int .i64 a,.int .i64 b,.int .i64 c,.int .i64 d]->Calls prog 133 #[.slice (some ⟨vb,0,none⟩) 2 2] W fun e w'=>e=.returned (.bool (qbj [(a,b),(c,d)]))/\Below W.heap.size W w':=fun W vb hb=>by
  refine qf2 vb 2 [(a,b),(c,d)] (by simp) W hb.lt (fun j x hx=>?_)
  cases j with
  |zero=>simp at hx;subst hx;have c0:=hb.cell 0;have c1:=hb.cell 1;simp at c0 c1;exact⟨c0,c1⟩
  |succ j =>
   cases j with
   |zero=>simp at hx;subst hx;have c0:=hb.cell 2;have c1:=hb.cell 3;simp at c0 c1;exact⟨c0,c1⟩
   |succ j=>simp at hx
 have b0:Blk ((w.alloc (.cells #[.int .i64 a,.int .i64 b] 35)).alloc (.cells #[.int .i64 c,.int .i64 d] 35)) w.heap.size 35 #[.int .i64 a,.int .i64 b]:=(Blk.new w 35 _).alloc _;have b1:Blk ((w.alloc (.cells #[.int .i64 a,.int .i64 b] 35)).alloc (.cells #[.int .i64 c,.int .i64 d] 35)) (w.heap.size+1) 35 #[.int .i64 c,.int .i64 d]:=Blk.new' (by simp);have eY:=fun W=>qvt a b 0 0 W
 unfold nptr at bG;unfold qdu
 cases hv:qar (bl s)
 ·rw[hv]at aA;simp only[if_true]at aA ⊢;clear aj bG aZ de
  go_enter func84,ntmps84
  go_wp2_with (go_at_call 132;refine(aA _).mono ?_;rintro e w1 ⟨rfl,aa⟩)
  refine xrn (v:=.int .i64 1) (by simp[results,results84,go_sem]) rfl ⟨rfl,?_⟩
  exact qab (by exact bel2) aa
 rw[hv]at aA;simp only[Bool.true_eq_false,if_false]at aA ⊢
 by_cases h0:bl s=[]
 ·have hz:s=⟨#[]⟩:=qd8 (h0.trans qhs.symm);simp only[h0,if_true]at aA ⊢;clear aj bG aZ de;subst hz
  go_enter func84,ntmps84
  go_wp2_with (go_at_call 132;refine(aA _).mono ?_;rintro e w1 ⟨rfl,aa⟩)
  refine xrn (v:=.int .i64 2) (by simp[results,results84,go_sem]) rfl ⟨rfl,?_⟩
  exact qab (by exact bel2) aa
 simp only[h0,if_false]at aA ⊢
 cases hf:findKey nodes (qac (bl s)) with
 |none =>
  rw[hf]at aj;clear hf aZ de;unfold nptr at aj
  go_enter func84,ntmps84
  go_wp2_with (first
   |(go_at_call 132;refine(aA _).mono ?_;rintro e w1 ⟨rfl,aa⟩;have au:Below w.heap.size w w1:=qab (by exact bel2) aa;have gX:=bG w1 au)
   |(go_at_call 63;refine(aj _ au (.pointer none) rfl).mono ?_;rintro e w2 ⟨rfl,ag⟩;have aP:Below w.heap.size w w2:=qab au ag))
  refine xrn (v:=.int .i64 3) (by simp[results,results84,go_sem]) rfl ⟨rfl,?_⟩
  exact aP
 |some n =>
  obtain⟨hn,bX⟩:=qan hf;rw[hf]at aj
  replace aZ:=aZ n hn
  clear hf;simp only[nptr]at aj
  dsimp only
  have kr:∀w1:World,Below (w.heap.size+2) ((w.alloc (.cells #[.int .i64 a,.int .i64 b] 35)).alloc (.cells #[.int .i64 c,.int .i64 d] 35)) w1->True:=fun _ _=>trivial
  cases kZ:qbj [(a,b),(c,d)]
  ·rw[kZ]at de;simp only[if_true];clear aZ
   go_enter func84,ntmps84
   go_wp2_with (first
    |(go_at_call 132;refine(aA _).mono ?_;rintro e w1 ⟨rfl,aa⟩;have au:Below w.heap.size w w1:=qab (by exact bel2) aa;have gX:=bG w1 au;have c0:=b0.below aa (by simp<;>omega);have c1:=b1.below aa (by simp<;>omega))
    |(go_at_call 63;refine(aj _ au (.pointer (some ⟨n.blk,0,none⟩)) rfl).mono ?_;rintro e w2 ⟨rfl,ag⟩;have aP:Below w.heap.size w w2:=qab au ag;have d0:=c0.below ag c0.lt;have d1:=c1.below ag c1.lt;have x0:=d0.cell 0;have x1:=d0.cell 1;have y0:=d1.cell 0;have y1:=d1.cell 1;have l0:=d0.lt;have l1:=d1.lt;simp only[xq0,xq1,xq2]at x0 x1 y0 y1)
    |(go_at_call 133;refine(de _ _ (by exact blk2)).mono ?_;rintro e w3 ⟨rfl,aM⟩;have bH:Below w.heap.size w w3:=qab (by exact bel2) aM))
   refine xrn (v:=.int .i64 6) (by simp[results,results84,go_sem]) rfl ⟨rfl,?_⟩
   exact bH
  ·rw[kZ]at de;simp only[Bool.true_eq_false,if_false]
   cases hl:n.leaf
   ·rw[hl]at aZ;simp only[Bool.not_false,Bool.true_and];generalize g_:(a == 0&&b == 0)=ab at eY ⊢;clear g_
    cases ab
    ·simp only[Bool.not_false,if_true]
     go_enter func84,ntmps84
     go_wp2_with (first
      |(go_at_call 132;refine(aA _).mono ?_;rintro e w1 ⟨rfl,aa⟩;have au:Below w.heap.size w w1:=qab (by exact bel2) aa;have gX:=bG w1 au;have c0:=b0.below aa (by simp<;>omega);have c1:=b1.below aa (by simp<;>omega))
      |(go_at_call 63;refine(aj _ au (.pointer (some ⟨n.blk,0,none⟩)) rfl).mono ?_;rintro e w2 ⟨rfl,ag⟩;have aP:Below w.heap.size w w2:=qab au ag;have d0:=c0.below ag c0.lt;have d1:=c1.below ag c1.lt;have x0:=d0.cell 0;have x1:=d0.cell 1;have y0:=d1.cell 0;have y1:=d1.cell 1;have l0:=d0.lt;have l1:=d1.lt;simp only[xq0,xq1,xq2]at x0 x1 y0 y1)
      |(go_at_call 133;refine(de _ _ (by exact blk2)).mono ?_;rintro e w3 ⟨rfl,aM⟩;have bH:Below w.heap.size w w3:=qab (by exact bel2) aM;have f0:=(d0.alloc (.cells #[.int .i64 a,.int .i64 b,.int .i64 c,.int .i64 d] 35)).below aM (by simp;omega);have u0:=f0.cell 0;have u1:=f0.cell 1;simp only[xq0,xq1,xq2]at u0 u1)
      |(go_at_call 105;refine(aZ _ bH).mono ?_;rintro e w4 ⟨rfl,lK⟩;subst lK))
     refine xrn (v:=.int .i64 6) (by simp[results,results84,go_sem]) rfl ⟨rfl,?_⟩
     exact bH
    ·simp only[Bool.not_true,Bool.false_eq_true,if_false]
     go_enter func84,ntmps84
     go_wp2_with (first
      |(go_at_call 132;refine(aA _).mono ?_;rintro e w1 ⟨rfl,aa⟩;have au:Below w.heap.size w w1:=qab (by exact bel2) aa;have gX:=bG w1 au;have c0:=b0.below aa (by simp<;>omega);have c1:=b1.below aa (by simp<;>omega))
      |(go_at_call 63;refine(aj _ au (.pointer (some ⟨n.blk,0,none⟩)) rfl).mono ?_;rintro e w2 ⟨rfl,ag⟩;have aP:Below w.heap.size w w2:=qab au ag;have d0:=c0.below ag c0.lt;have d1:=c1.below ag c1.lt;have x0:=d0.cell 0;have x1:=d0.cell 1;have y0:=d1.cell 0;have y1:=d1.cell 1;have l0:=d0.lt;have l1:=d1.lt;simp only[xq0,xq1,xq2]at x0 x1 y0 y1)
      |(go_at_call 133;refine(de _ _ (by exact blk2)).mono ?_;rintro e w3 ⟨rfl,aM⟩;have bH:Below w.heap.size w w3:=qab (by exact bel2) aM;have f0:=(d0.alloc (.cells #[.int .i64 a,.int .i64 b,.int .i64 c,.int .i64 d] 35)).below aM (by simp;omega);have u0:=f0.cell 0;have u1:=f0.cell 1;simp only[xq0,xq1,xq2]at u0 u1)
      |(go_at_call 105;refine(aZ _ bH).mono ?_;rintro e w4 ⟨rfl,lK⟩;subst lK))
     refine xrn (v:=.int .i64 0) (by simp[results,results84,go_sem]) rfl ⟨rfl,?_⟩
     exact bH
   ·rw[hl]at aZ;simp only[Bool.not_true,Bool.false_and,Bool.false_eq_true,if_false];clear eY
    go_enter func84,ntmps84
    go_wp2_with (first
     |(go_at_call 132;refine(aA _).mono ?_;rintro e w1 ⟨rfl,aa⟩;have au:Below w.heap.size w w1:=qab (by exact bel2) aa;have gX:=bG w1 au;have c0:=b0.below aa (by simp<;>omega);have c1:=b1.below aa (by simp<;>omega))
     |(go_at_call 63;refine(aj _ au (.pointer (some ⟨n.blk,0,none⟩)) rfl).mono ?_;rintro e w2 ⟨rfl,ag⟩;have aP:Below w.heap.size w w2:=qab au ag;have d0:=c0.below ag c0.lt;have d1:=c1.below ag c1.lt;have x0:=d0.cell 0;have x1:=d0.cell 1;have y0:=d1.cell 0;have y1:=d1.cell 1;have l0:=d0.lt;have l1:=d1.lt;simp only[xq0,xq1,xq2]at x0 x1 y0 y1)
     |(go_at_call 133;refine(de _ _ (by exact blk2)).mono ?_;rintro e w3 ⟨rfl,aM⟩;have bH:Below w.heap.size w w3:=qab (by exact bel2) aM)
     |(go_at_call 105;refine(aZ _ bH).mono ?_;rintro e w4 ⟨rfl,lK⟩;subst lK))
    refine xrn (v:=.int .i64 0) (by simp[results,results84,go_sem]) rfl ⟨rfl,?_⟩
    exact bH
theorem quk{a:Nat}(h:w.cell? ⟨a,0,none⟩=some (.int .i64 0)):
  CallsD prog 140 #[.pointer (some ⟨a,0,none⟩),.pointer (some ⟨b,0,none⟩)] .returning w fun e u' w'=>u'=.returning/\(e=.returned (.tuple #[])/\w'=w):=by
 go_enter_d func140,ntmps140
 go_wp2
 go_end0
 exact⟨rfl,rfl⟩
theorem qrs{a:Nat}(he:(er != 0)=true)(h:w.cell? ⟨a,0,none⟩=some (.int .i64 er))(hb:w.cell? ⟨b,0,none⟩=some (.func (.func 90) #[] #[x1,y2,y3])){M:World->Prop}
  (hU:Calls prog 90 #[x1,y2,y3] w fun e w'=>e=.returned (.tuple #[])/\M w') :
  CallsD prog 140 #[.pointer (some ⟨a,0,none⟩),.pointer (some ⟨b,0,none⟩)] .returning w fun e u' w'=>u'=.returning/\(e=.returned (.tuple #[])/\M w'):=by
 go_enter_d func140,ntmps140
 go_wp2_with (go_at_call 90;refine hU.mono ?_;rintro e w1 ⟨rfl,hM⟩)
 go_end0
 exact⟨rfl,hM⟩
theorem qr3{bt:Nat}{M1 M2 M3:World->Prop}(cD:bt<w.heap.size)
  (hC:∀W1,Below w.heap.size w W1->Calls prog 88 #[x1,x2,x3] W1 fun e w'=>e=.returned (.tuple #[])/\Keep (fun b=>b<w.heap.size) W1 w'/\M1 w')
  (hO:∀W1,M1 W1->Calls prog 141 #[.pointer (some ⟨bt,0,none⟩)] W1 fun e w'=>e=.returned (.int .i64 er)/\Below W1.heap.size W1 w')
  (h2:er=0->∀W1 W2,M1 W1->w.heap.size<=W1.heap.size->Keep (fun b=>w.heap.size<=b) W1 W2->M2 W2)
  (hU:er≠0->∀W1 W2,M1 W1->w.heap.size<=W1.heap.size->Keep (fun b=>w.heap.size<=b) W1 W2->Calls prog 90 #[x1,y2,y3] W2 fun e w'=>e=.returned (.tuple #[])/\Keep (fun b=>b<w.heap.size) W2 w'/\M3 w') :
  Calls prog 87 #[.pointer (some ⟨bt,0,none⟩),.func (.func 88) #[] #[x1,x2,x3],.func (.func 90) #[] #[x1,y2,y3]] w fun e w'=>e=.returned (.int .i64 er)/\(er=0->M2 w')/\(er≠0->M3 w'):=by
 have jL:∀(fn:Fn) (first cap:Array Value) (w:World),(Instr.makeFunc fn first cap).run prog w=.ok (.func fn first cap) w:=fun _ _ _ _=>rfl
 obtain⟨W0,bg⟩:∃W0,W0=(w.alloc (.cells #[.func (.func 90) #[] #[x1,y2,y3]] 1)).alloc (.cells #[.int .i64 0] 53):=⟨_,rfl⟩;have b1:Box W0 w.heap.size 1 (.func (.func 90) #[] #[x1,y2,y3]):=by rw[bg];exact(Box.new w 1 _).alloc _
 have b2:Box W0 (w.heap.size+1) 53 (.int .i64 0):=by
  rw[bg];have:=Box.new (w.alloc (.cells #[.func (.func 90) #[] #[x1,y2,y3]] 1)) 53 (.int .i64 0)
  rwa[xrt]at this
 have bj:Below w.heap.size w W0:=by rw[bg];exact bel2
 have fM:w.heap.size+2<=W0.heap.size:=by rw[bg];simp
 go_enter_defers func87,ntmps87
 go_upto_region 1 with fail
 rw[<-bg];clear bg
 go_wp2_with (first
  |(go_at_call 88;refine(hC _ (by exact bel2)).mono ?_;rintro e w1 ⟨rfl,cf,j7⟩;have d1:=b1.keep cf (by omega);have d2:=b2.keep cf (by omega);have dz:=cf.size)
  |(go_at_call 141;refine(hO _ j7).mono ?_;rintro e w2 ⟨rfl,ag⟩;have f1:=d1.below ag d1.lt;have f2:=d2.below ag d2.lt;have q2:=f2.cell;have p2:=f2.frozen))
 have aY:Keep (fun b=>w.heap.size<=b) w1 (w2.setCell ⟨w.heap.size+1,0,none⟩ (.int .i64 er)):=(Keep.new (T:=fun b=>w.heap.size<=b) ag).setCell (p:=⟨w.heap.size+1,0,none⟩) (by simp) _;have g1:=(f1.other ⟨w.heap.size+1,0,none⟩ (.int .i64 er) (by simp)).cell;have g2:=(f2.set (.int .i64 er)).cell
 by_cases he:er=0
 ·subst he
  refine leaves_cons (f:=140) (args:=#[.pointer (some ⟨w.heap.size+1,0,none⟩),.pointer (some ⟨w.heap.size,0,none⟩)]) (by simp) (by simp[go_sem]) ?_
  refine(quk (b:=w.heap.size) g2).mono ?_
  rintro e u' kx ⟨rfl,rfl,rfl⟩
  simp[Leaves,settle,results,results87,go_sem,g2]
  exact h2 rfl _ _ j7 (by omega) aY
 ·refine leaves_cons (f:=140) (args:=#[.pointer (some ⟨w.heap.size+1,0,none⟩),.pointer (some ⟨w.heap.size,0,none⟩)]) (by simp) (by simp[go_sem]) ?_
  refine(qrs (by simpa using he) g2 g1 (hU he _ _ j7 (by omega) aY)).mono ?_
  rintro e u' kx ⟨rfl,rfl,bW,qH⟩
  have g3:=((f2.set (.int .i64 er)).keep bW (by omega)).cell
  simp[Leaves,settle,results,results87,go_sem,g3]
  exact⟨fun e=>absurd e he,fun _=>qH⟩
theorem qrc(hn:qag w n)(dh:n.sl.ownBlock≠some n.blk){b:Int}(b0:Blk w g0 97 #[.pointer (some ⟨n.blk,0,none⟩)])(b1:Blk w g1 35 #[.int .i64 a,.int .i64 b])(b2:Blk w g2 35 #[.int .i64 c,.int .i64 d]):
  Calls prog 88 #[.pointer (some ⟨g0,0,none⟩),.pointer (some ⟨g1,0,none⟩),.pointer (some ⟨g2,0,none⟩)] w fun e w'=>e=.returned (.tuple #[])/\qag w' (n.qbb a b c d)/\Keep (fun x=>x=n.blk) w w':=by
 have eN:=qg6 hn dh a b c d;have c0:=b0.cell 0;have x0:=b1.cell 0;have x1:=b1.cell 1;have y0:=b2.cell 0;have y1:=b2.cell 1;simp only[xq0,xq1,xq2]at c0 x0 x1 y0 y1
 go_enter func88,ntmps88
 go_wp2_with (go_at_call 89;refine eN.mono ?_;rintro e w1 ⟨rfl,hM⟩)
 go_end0
 exact⟨rfl,hM⟩
theorem qrd(hn:qag w n)(dh:n.sl.ownBlock≠some n.blk){b:Int}(b0:Blk w g0 97 #[.pointer (some ⟨n.blk,0,none⟩)])(b1:Blk w g1 35 #[.int .i64 a,.int .i64 b])(b2:Blk w g2 35 #[.int .i64 c,.int .i64 d]):
  Calls prog 90 #[.pointer (some ⟨g0,0,none⟩),.pointer (some ⟨g1,0,none⟩),.pointer (some ⟨g2,0,none⟩)] w fun e w'=>e=.returned (.tuple #[])/\qag w' (n.qbb a b c d)/\Keep (fun x=>x=n.blk) w w':=by
 have eN:=qg6 hn dh a b c d;have c0:=b0.cell 0;have x0:=b1.cell 0;have x1:=b1.cell 1;have y0:=b2.cell 0;have y1:=b2.cell 1;simp only[xq0,xq1,xq2]at c0 x0 x1 y0 y1
 go_enter func90,ntmps90
 go_wp2_with (go_at_call 89;refine eN.mono ?_;rintro e w1 ⟨rfl,hM⟩)
 go_end0
 exact⟨rfl,hM⟩
def QM (w:World)(n:Node)(w':World):Prop:=qag w' n/\Keep (fun x=>x=n.blk) w w'
theorem qk0{bt:Nat}{b:Int}(hn:qag w n)(dh:n.sl.ownBlock≠some n.blk)(cD:bt<w.heap.size) 
  (b0:Blk w g0 97 #[.pointer (some ⟨n.blk,0,none⟩)]) (b1:Blk w g1 35 #[.int .i64 a,.int .i64 b]) (b2:Blk w g2 35 #[.int .i64 c,.int .i64 d]) (b3:Blk w g3 35 #[.int .i64 m0,.int .i64 m1]) (b4:Blk w g4 35 #[.int .i64 n.b0,.int .i64 n.b1])
  (hd:(n.qbb a b c d).qbb m0 m1 n.b0 n.b1=n)
  (hO:∀W1,QM w (n.qbb a b c d) W1->Calls prog 141 #[.pointer (some ⟨bt,0,none⟩)] W1 fun e w'=>e=.returned (.int .i64 er)/\Below W1.heap.size W1 w') :
  Calls prog 87 #[.pointer (some ⟨bt,0,none⟩),.func (.func 88) #[] #[.pointer (some ⟨g0,0,none⟩),.pointer (some ⟨g1,0,none⟩),.pointer (some ⟨g2,0,none⟩)],.func (.func 90) #[] #[.pointer (some ⟨g0,0,none⟩),.pointer (some ⟨g3,0,none⟩),.pointer (some ⟨g4,0,none⟩)]] w
   fun e w'=>e=.returned (.int .i64 er)/\(er=0->QM w (n.qbb a b c d) w')/\(er≠0->QM w n w'):=by
 have ak:=hn.lt;have bK:∀g,n.sl.ownBlock=some g->g<w.heap.size:=fun g hg=>(hn.row.lt g hg).2
 have aW:∀ {g t vs},Blk w g t vs->t≠136->g≠n.blk:=fun {g t vs} hb ht e=>by
  subst e;have h2:Blk w n.blk 136 n.cells:=hn.at_
  have:=hb.symm.trans h2
  injection this with this;injection this with _ h3 _
  exact ht h3
 have q0:=aW b0 (by decide);have q3:=aW b3 (by decide);have q4:=aW b4 (by decide)
 refine qr3 (M1:=QM w (n.qbb a b c d)) (M2:=QM w (n.qbb a b c d)) (M3:=QM w n) cD (fun W1 hb=>?_) hO (fun _ W1 W2 hM hz hk=>?_) (fun _ W1 W2 hM hz hk=>?_)
 ·refine(qrc (hn.below hb) dh (b0.below hb b0.lt) (b1.below hb b1.lt) (b2.below hb b2.lt)).mono ?_
  rintro e w' ⟨rfl,h1,h2⟩
  exact⟨rfl,h2.mono (fun x e=>by rw[e];exact ak),h1,(Keep.new hb).trans h2⟩
 ·exact⟨hM.1.keep hk (fun e=>by have e':w.heap.size<=n.blk:=e;omega) (fun g hg e=>by have:=bK g hg;omega),hM.2.qbm hk (fun x hx e=>by omega)⟩
 ·have dR:qag W2 (n.qbb a b c d):=hM.1.keep hk (fun e=>by have e':w.heap.size<=n.blk:=e;omega) (fun g hg e=>by have:=bK g hg;omega);have hK:Keep (fun x=>x=n.blk) w W2:=hM.2.qbm hk (fun x hx e=>by omega)
  refine(qrd dR dh (b0.keep hK q0) (b3.keep hK q3) (b4.keep hK q4)).mono ?_
  rintro e w' ⟨rfl,h1,h2⟩
  rw[hd]at h1;have yz:Keep (fun x=>x=n.blk) W2 w':=h2
  exact⟨rfl,yz.mono (fun x e=>by rw[e];exact ak),h1,hK.trans yz⟩
theorem TwAt.setQ{W:World}{nodes:List Node}{bt:Nat}{r:Node}{vw va:Value}{ws as_:List Pw}(h:TwAt W nodes bt r ai vw va ws as_)(hB:qa1 nodes)(T:Tree nodes)(hn:n∈nodes)(hk:Keep (fun x=>x=n.blk) W W'){b:Int}(bD:qag W' (n.qbb a b c d)):
  TwAt W' (setQ nodes n.key a b c d) bt (if r.key=n.key then r.qbb a b c d else r) ai vw va ws as_:=by
 have dI:Blk W n.blk 136 n.cells:=(h.ins n hn).at_;have Cp:(if r.key=n.key then r.qbb a b c d else r).blk=r.blk:=(qcc n.key a b c d r).blk
 refine⟨fun m hm=>?_,?_,fun p hp=>?_,h.nm⟩
 ·obtain⟨x,hx,rfl⟩:=xrq.1 hm
  by_cases e:x.key=n.key
  ·obtain rfl:=T.inj x hx n hn e;simp only[if_pos];exact bD
  ·simp only[if_neg e]
   refine(h.ins x hx).keep hk (fun e2=>e ?_) (fun g hg e2=>qah (h.ins x hx).row dI (by decide) (by rw[hg,e2]))
   rw[hB x hx n hn e2]
 ·rw[Cp];have hb:=h.bk
  exact⟨hb.at_.keep hk (qaw hb.at_ dI (by decide)),qaf hb.wrow hk (fun g hg e=>qah hb.wrow dI (by decide) (by rw[hg,e])),qaf hb.arow hk (fun g hg e=>qah hb.arow dI (by decide) (by rw[hg,e])),fun p hp=>(hb.works p hp).keep hk (qaw (hb.works p hp) dI (by decide)),hb.sep,hb.nd,hb.inj,hb.len⟩
 ·obtain⟨m,hm,e1,e2⟩:=h.lf p hp
  exact⟨_,xrj hm,(qcc n.key a b c d m).blk.trans e1,(qcc n.key a b c d m).key.trans e2⟩
theorem qa1.setQ{nodes:List Node}(hB:qa1 nodes)(k:List Bs)(a b c d:Int):qa1 (setQ nodes k a b c d):=fun x hx y hy e=>by
 obtain⟨x',n9,rfl⟩:=xrq.1 hx;obtain⟨y',nB,rfl⟩:=xrq.1 hy;rw[(qcc k a b c d x').blk,(qcc k a b c d y').blk]at e;rw[hB x' n9 y' nB e]
theorem qxf{g:Nat}{t:TypeId}(h:Blk w g t #[.int .i64 0,.int .i64 0])(a b:Value):Blk ((w.setCell ⟨g,0,none⟩ a).setCell ⟨g,1,none⟩ b) g t #[a,b]:=by
 have:=(h.set 0 a).set 1 b
 simpa using this
theorem qia{p q:Prop}(h:p)(k:p->q):q:=k h
theorem qes{s:Bs}(h:qac s=[]):s=[]:=by
 by_cases e:s=[]
 ·exact e
 ·unfold qac at h;rw[if_neg e]at h
  have:=qg7 s
  rw[h]at this
  simp at this
theorem qgb{nodes:List Node}{s:Bs}{b:Int}(h:qdu nodes s ok a b=0):qar s=true/\s≠[]/\∃n,findKey nodes (qac s)=some n/\ok=true/\(n.leaf=false->a=0/\b=0):=by
 unfold qdu at h
 split at h
 ·cases h
 rename_i h1
 split at h
 ·cases h
 rename_i h2
 split at h
 ·cases h
 rename_i n hn
 split at h
 ·cases h
 rename_i h3
 split at h
 ·cases h
 rename_i h4
 refine⟨by cases hh:qar s;simp[hh]at h1;rfl,h2,n,hn,by cases ok;simp at h3;rfl,fun hl=>?_⟩
 rw[hl]at h4
 simp at h4
 exact h4
theorem qvp{nodes:List Node}(T:Tree nodes)(hn:n∈nodes)(hl:n.leaf=true):pn0 nodes n.key=n.n0/\pn1 nodes n.key=n.n1:=by
 have hu:under nodes n.key=[n]:=by
  have hp:(under nodes n.key).Perm [n]:=by
   refine qg1 (T.nd.filter _) (by simp) (fun x=>?_)
   simp only[under,xrr,List.mem_singleton,xrw]
   constructor
   ·rintro⟨h1,h2⟩
    exact(T.inj n hn x h1 (qif T hn hl _ x h1 rfl h2)).symm
   ·rintro rfl
    exact⟨hn,List.prefix_rfl⟩
  exact List.perm_singleton.1 hp
 unfold pn0 pn1;rw[hu]
 simp[sum0,sum1]
theorem qrq{nodes:List Node}(T:Tree nodes)(hn:n∈nodes)(a b c d:Int):(n.qbb a b c d).qbb (pn0 nodes n.key) (pn1 nodes n.key) n.b0 n.b1=n:=by
 obtain⟨blk,key,leaf,n0,n1,b0,b1,up,sl,kids⟩:=n
 cases leaf
 ·simp[Node.qbb]
 ·have:=qvp T hn rfl
  simp only at this
  simp[Node.qbb,this.1,this.2]
theorem qv9{nodes:List Node}(T0:Tree nodes){bt:Nat}{r:Node}{vw va:Value}{ws as_:List Pw}(h:TwAt w nodes bt r ai vw va ws as_)(hr:r∈nodes)(a_:r.key=[])(s:ByteArray)(hs:s.size<=2000000)(a b c d:Int)(he:qdu nodes (bl s) (qbj [(a,b),(c,d)]) a b=er)(h0:er≠0):
  Calls prog 56 #[.pointer (some ⟨bt,0,none⟩),.string s,.agg #[.int .i64 a,.int .i64 b],.agg #[.int .i64 c,.int .i64 d]] w fun e w'=>e=.returned (.int .i64 er)/\Below w.heap.size w w':=by
 have cr:=fun W (hW:Below w.heap.size w W)=>qfb T0 (h.below hW) hr a_ s hs a b c d
 rw[he]at cr;have b0:Blk ((w.alloc (.cells #[.int .i64 a,.int .i64 b] 35)).alloc (.cells #[.int .i64 c,.int .i64 d] 35)) w.heap.size 35 #[.int .i64 a,.int .i64 b]:=(Blk.new w 35 _).alloc _;have b1:Blk ((w.alloc (.cells #[.int .i64 a,.int .i64 b] 35)).alloc (.cells #[.int .i64 c,.int .i64 d] 35)) (w.heap.size+1) 35 #[.int .i64 c,.int .i64 d]:=Blk.new' (by simp);have aW:(er != 0)=true:=by simpa using h0
 clear h he
 go_enter func56,ntmps56
 go_wp2_with (go_at_call 84;refine(cr _ (by exact bel2)).mono ?_;rintro e w1 ⟨rfl,aa⟩)
 refine xrn (v:=.int .i64 er) (by simp[results,results56,go_sem]) rfl ⟨rfl,?_⟩
 exact qab (by exact bel2) aa
theorem qwa{nodes:List Node}(T0:Tree nodes)(hB:qa1 nodes){bt:Nat}{r:Node}{vw va:Value}{ws as_:List Pw}(h:TwAt w nodes bt r ai vw va ws as_)(hr:r∈nodes)(a_:r.key=[])(s:ByteArray)(hs:s.size<=2000000)(a b c d:Int)(he:qdu nodes (bl s) (qbj [(a,b),(c,d)]) a b=0)(hf:findKey nodes (qac (bl s))=some n):
  Calls prog 56 #[.pointer (some ⟨bt,0,none⟩),.string s,.agg #[.int .i64 a,.int .i64 b],.agg #[.int .i64 c,.int .i64 d]] w fun e w'=>e=.returned (.int .i64 (qcm (setQ nodes n.key a b c d) as_))/\(qcm (setQ nodes n.key a b c d) as_=0->QM w (n.qbb a b c d) w')/\(qcm (setQ nodes n.key a b c d) as_≠0->QM w n w'):=by
 obtain⟨hv,dw,n',dp,cg,eS⟩:=qgb he;rw[hf]at dp;cases dp;obtain⟨hn,bX⟩:=qan hf;have en:qao a b=true/\qao c d=true:=by simpa [qbj] using cg
 have fm:n.key≠[]:=by rw[bX];intro e;exact dw (qes e)
 have T1:=T0.setQ fm en.1 en.2;have cr:=fun W (hW:Below w.heap.size w W)=>qfb T0 (h.below hW) hr a_ s hs a b c d
 rw[he]at cr;have aj:=fun W (hW:Below w.heap.size w W) v hv=>qcr T0 hr a_ s hs W (h.below hW).ins v hv
 rw[hf]at aj;have jN:=fun W (hW:Below w.heap.size w W)=>qcx T0 hn W (h.below hW).ins
 have qT:=fun W (hW:Below w.heap.size w W)=>qj5 n.blk n.b0 n.b1 W (((h.below hW).ins n hn).cell rfl) (((h.below hW).ins n hn).cell rfl)
 have dh:n.sl.ownBlock≠some n.blk:=qah (h.ins n hn).row (show Blk w n.blk 136 n.cells from(h.ins n hn).at_) (by decide);have bJ:=fun W (hW:Below w.heap.size w W) g0 g1 g2 g3 g4 b0 b1 b2 b3 b4=>qk0 (w:=W) (bt:=bt) (n:=n) (a:=a) (b:=b) (c:=c) (d:=d) (m0:=pn0 nodes n.key) (m1:=pn1 nodes n.key) (er:=qcm (setQ nodes n.key a b c d) as_) ((h.below hW).ins n hn) dh ((h.below hW).bk.at_.lt) (g0:=g0) (g1:=g1) (g2:=g2) (g3:=g3) (g4:=g4) b0 b1 b2 b3 b4 (qrq T0 hn a b c d)
  (fun W1 hM=>qd0 T1 (hB.setQ _ _ _ _ _) ((h.below hW).setQ hB T0 hn hM.2 hM.1) (xrj hr) ((qcc n.key a b c d r).key.trans a_))
 have aF:∀W m w',m.blk=n.blk->Below w.heap.size w W->QM W m w'->QM w m w':=fun W m w' hm hW hM=>⟨hM.1,(Keep.new hW).trans hM.2⟩
 generalize qcm (setQ nodes n.key a b c d) as_=er at bJ ⊢;have bG:∀W,Below w.heap.size w W->W.cell? ⟨bt,0,none⟩=some (nptr r.blk):=fun W (hW:Below w.heap.size w W)=>(h.below hW).bk.at_.cell 0
 have cD:=h.bk.at_.lt;simp only[nptr]at bG aj jN;generalize pn0 nodes n.key=m0 at *;generalize pn1 nodes n.key=m1 at *;have b0:Blk ((w.alloc (.cells #[.int .i64 a,.int .i64 b] 35)).alloc (.cells #[.int .i64 c,.int .i64 d] 35)) w.heap.size 35 #[.int .i64 a,.int .i64 b]:=(Blk.new w 35 _).alloc _;have b1:Blk ((w.alloc (.cells #[.int .i64 a,.int .i64 b] 35)).alloc (.cells #[.int .i64 c,.int .i64 d] 35)) (w.heap.size+1) 35 #[.int .i64 c,.int .i64 d]:=Blk.new' (by simp);have jL:∀(fn:Fn) (first cap:Array Value) (w:World),(Instr.makeFunc fn first cap).run prog w=.ok (.func fn first cap) w:=fun _ _ _ _=>rfl
 clear h he hf cg eS T1
 go_enter func56,ntmps56
 go_upto_region 5 with (first
  |(go_at_call 84;refine(cr _ (by exact bel2)).mono ?_;rintro e w1 ⟨rfl,aa⟩;have au:Below w.heap.size w w1:=qab (by exact bel2) aa;have gX:=bG w1 au;have c0:=b0.below aa (by simp<;>omega);have c1:=b1.below aa (by simp<;>omega))
  |(go_at_call 63;refine(aj _ au (.pointer (some ⟨n.blk,0,none⟩)) rfl).mono ?_;rintro e w2 ⟨rfl,ag⟩;have aP:Below w.heap.size w w2:=qab au ag;have d0:=c0.below ag c0.lt;have d1:=c1.below ag c1.lt))
 have bH:Below w.heap.size w (w2.alloc (.cells #[.pointer (some ⟨n.blk,0,none⟩)] 97)):=aP.alloc aP.size _;have bq:Blk (w2.alloc (.cells #[.pointer (some ⟨n.blk,0,none⟩)] 97)) w2.heap.size 97 #[.pointer (some ⟨n.blk,0,none⟩)]:=Blk.new w2 97 _;have k0:=d0.alloc (.cells #[.pointer (some ⟨n.blk,0,none⟩)] 97);have k1:=d1.alloc (.cells #[.pointer (some ⟨n.blk,0,none⟩)] 97);generalize w2.alloc (.cells #[.pointer (some ⟨n.blk,0,none⟩)] 97)=W0 at bH bq k0 k1 ⊢;generalize w2.heap.size=gq at bq ⊢;clear d0 d1 c0 c1 b0 b1 aa ag au aP gX cr aj bG;have cq:=bq.cell 0;have lq:=bq.lt;simp only[xq0,xq1,xq2]at cq;have fM:=bH.size;have nq:¬(gq=W0.heap.size):=by omega
 have Fa:¬(gq=W0.heap.size+1):=by omega
 go_cut [11,12] from 27 to 30 (fun q1 q2 wx=>∃g1 g2,q1=.pointer (some ⟨g1,0,none⟩)/\q2=.pointer (some ⟨g2,0,none⟩)/\Below w.heap.size w wx/\Blk wx g1 35 #[.int .i64 m0,.int .i64 m1]/\Blk wx g2 35 #[.int .i64 n.b0,.int .i64 n.b1]/\Below W0.heap.size W0 wx)
 case first =>
  go_region_held3 (fun w'=>w'.cell? ⟨gq,0,none⟩=some (.pointer (some ⟨n.blk,0,none⟩))) (first|go_keep|exact Blk.cell (vs:=#[.pointer (some ⟨n.blk,0,none⟩)]) (t:=97) (by exact blk3) 0)
   (first
   |(go_at_call 85;refine(jN _ (by exact bel2)).mono ?_;rintro e w3 ⟨rfl,aM⟩;have dZ:Below W0.heap.size W0 w3:=qab (by exact bel2) aM;have gj:Below w.heap.size w w3:=qab bH dZ;have lQ:=dZ.size;have CE:=gj.size;have uI:Blk w3 gq 97 #[.pointer (some ⟨n.blk,0,none⟩)]:=Blk.below (by exact blk2) aM (by first|omega|(simp<;>omega));have A6:=uI.cell 0;have EJ:=uI.lt;have C_:¬(gq=w3.heap.size):=(by omega);have Da:¬(gq=w3.heap.size+1):=(by omega);simp only[xq0,xq1,xq2]at A6;(try (refine qia (p:=Blk w3 W0.heap.size 35 #[.int .i64 0,.int .i64 0]) ?_ ?_;(focus (refine Blk.below ?_ aM ?_;(focus ((repeat (first|(with_reducible assumption)|((with_reducible refine Blk.new' ?_);simp;done)|(with_reducible refine Blk.alloc ?_ _)|(with_reducible refine Blk.drew ?_)|(with_reducible refine Blk.drewN ?_ _)));done));(focus (first|omega|(simp;done)|(simp;omega)))));intro z1;have xP:=z1.cell 0;have DD:=z1.cell 1;have DE:=z1.frozen 0;have FA:=z1.frozen 1;have DG:=z1.lt;simp only[xq0,xq1,xq2]at xP DD));(try (refine qia (p:=Blk w3 (W0.heap.size+1) 35 #[.int .i64 0,.int .i64 0]) ?_ ?_;(focus (refine Blk.below ?_ aM ?_;(focus ((repeat (first|(with_reducible assumption)|((with_reducible refine Blk.new' ?_);simp;done)|(with_reducible refine Blk.alloc ?_ _)|(with_reducible refine Blk.drew ?_)|(with_reducible refine Blk.drewN ?_ _)));done));(focus (first|omega|(simp;done)|(simp;omega)))));intro z2;have xQ:=z2.cell 0;have DH:=z2.cell 1;have DI:=z2.frozen 0;have FB:=z2.frozen 1;have DJ:=z2.lt;simp only[xq0,xq1,xq2]at xQ DH)))
   |(go_at_call 86;refine(qT _ (by exact bel2)).mono ?_;rintro e w4 ⟨rfl,bf⟩;have yR:Below W0.heap.size W0 w4:=qab (by exact bel2) bf;have lK:Below w.heap.size w w4:=qab bH yR;have qa:=yR.size;have CF:=lK.size;have yo:Blk w4 gq 97 #[.pointer (some ⟨n.blk,0,none⟩)]:=Blk.below (by exact blk2) bf (by first|omega|(simp<;>omega));have A8:=yo.cell 0;have EK:=yo.lt;have Db:¬(gq=w4.heap.size):=(by omega);have Dc:¬(gq=w4.heap.size+1):=(by omega);simp only[xq0,xq1,xq2]at A8;(try (refine qia (p:=Blk w4 W0.heap.size 35 #[.int .i64 0,.int .i64 0]) ?_ ?_;(focus (refine Blk.below ?_ bf ?_;(focus ((repeat (first|(with_reducible assumption)|((with_reducible refine Blk.new' ?_);simp;done)|(with_reducible refine Blk.alloc ?_ _)|(with_reducible refine Blk.drew ?_)|(with_reducible refine Blk.drewN ?_ _)));done));(focus (first|omega|(simp;done)|(simp;omega)))));intro y1;have xL:=y1.cell 0;have D1:=y1.cell 1;have D2:=y1.frozen 0;have F6:=y1.frozen 1;have D3:=y1.lt;simp only[xq0,xq1,xq2]at xL D1));(try (refine qia (p:=Blk w4 (W0.heap.size+1) 35 #[.int .i64 0,.int .i64 0]) ?_ ?_;(focus (refine Blk.below ?_ bf ?_;(focus ((repeat (first|(with_reducible assumption)|((with_reducible refine Blk.new' ?_);simp;done)|(with_reducible refine Blk.alloc ?_ _)|(with_reducible refine Blk.drew ?_)|(with_reducible refine Blk.drewN ?_ _)));done));(focus (first|omega|(simp;done)|(simp;omega)))));intro y2;have xM:=y2.cell 0;have D4:=y2.cell 1;have D5:=y2.frozen 0;have F7:=y2.frozen 1;have D6:=y2.lt;simp only[xq0,xq1,xq2]at xM D4));(try (refine qia (p:=Blk w4 w3.heap.size 35 #[.int .i64 0,.int .i64 0]) ?_ ?_;(focus (refine Blk.below ?_ bf ?_;(focus ((repeat (first|(with_reducible assumption)|((with_reducible refine Blk.new' ?_);simp;done)|(with_reducible refine Blk.alloc ?_ _)|(with_reducible refine Blk.drew ?_)|(with_reducible refine Blk.drewN ?_ _)));done));(focus (first|omega|(simp;done)|(simp;omega)))));intro y3;have xN:=y3.cell 0;have D7:=y3.cell 1;have D8:=y3.frozen 0;have F8:=y3.frozen 1;have D9:=y3.lt;simp only[xq0,xq1,xq2]at xN D7));(try (refine qia (p:=Blk w4 (w3.heap.size+1) 35 #[.int .i64 0,.int .i64 0]) ?_ ?_;(focus (refine Blk.below ?_ bf ?_;(focus ((repeat (first|(with_reducible assumption)|((with_reducible refine Blk.new' ?_);simp;done)|(with_reducible refine Blk.alloc ?_ _)|(with_reducible refine Blk.drew ?_)|(with_reducible refine Blk.drewN ?_ _)));done));(focus (first|omega|(simp;done)|(simp;omega)))));intro y4;have xO:=y4.cell 0;have DA:=y4.cell 1;have DB:=y4.frozen 0;have F9:=y4.frozen 1;have DC:=y4.lt;simp only[xq0,xq1,xq2]at xO DA))))
  all_goals go_wp2_with fail
  all_goals go_meet
  all_goals refine⟨_,_,rfl,rfl,(by exact bel2),?_,?_,(by exact bel2)⟩
  all_goals (repeat (first|(with_reducible assumption)|(with_reducible refine qxf ?_ _ _)|((with_reducible refine Blk.new' ?_);first|(simp;done)|(simp;omega))|(with_reducible refine Blk.alloc ?_ _)|((with_reducible refine Blk.other ?_ _ _ ?_);rotate_left;(focus (first|omega|(simp;done)|(simp;omega))))))
 case rest =>
  obtain⟨g1,g2,rfl,rfl,uV,x1,x2,vD⟩:=hcut;have vH:=bJ _ uV gq w.heap.size (w.heap.size+1) g1 g2 (bq.below vD bq.lt) (k0.below vD k0.lt) (k1.below vD k1.lt) x1 x2;clear bJ jN qT
  go_wp2_with (go_at_call 87;refine vH.mono ?_;rintro e w5 ⟨rfl,hM⟩)
  refine xrn (v:=.int .i64 er) (by simp[results,results56,go_sem]) rfl ⟨rfl,fun e=>aF _ _ _ rfl uV (hM.1 e),fun e=>aF _ _ _ rfl uV (hM.2 e)⟩
theorem qre(L:List Ent)(h:SInv s)(he:s.evs=[]):(qal L s).evs.length<=990:=by
 have ob:s.Ws.length<=24:=h.wks.wks.len;obtain⟨I1,b1⟩:=qgu (f:=qbc L) (I:=SInv) 25 (fun s s' hs hf=>⟨(hs.own hf).1,(hs.own hf).2.2.2.2⟩) s.Ws.length s h;obtain⟨_,b2⟩:=qgu (f:=qat L) (I:=SInv) 1 (fun s s' hs hf=>⟨(hs.idle hf).1,by rw[(hs.idle hf).2.2.2.2];omega⟩) s.Ws.length _ I1;have e:qal L s=qbf (qat L) s.Ws.length (qbf (qbc L) s.Ws.length s):=rfl;rw[e];rw[he]at b1
 simp at b1
 have:25*s.Ws.length<=600:=by omega
 omega
def Tw.same(x:Tw)(err:Int):Out:=⟨err,x.L,x.Ws,x.cnt,x.st,[]⟩
def qjv (L:List Ent)(cnt:Int)(aT:SS):Out:=⟨0,L,aT.Ws,cnt,aT.st,aT.evs⟩
section
variable {τ : Nat->Tag}{t K:Nat}{W:World}{x:Tw}
theorem qev(h:qa2 τ t W x.bt x.nodes x.last x.vw x.va x.ws x.as_)(A:qf9 K x)(hb:Below W.heap.size W w')(err:Int):POut τ t W x.bt (x.same err) (.slice none 0 0) w':=by
 have hP:=h.keep (τ':=qcq τ W.heap.size) (T:=fun _=>False) (Keep.new hb) (fun _ _ h=>h.elim) (fun b hb=>qa5 hb)
 refine⟨qcq τ W.heap.size,x.nodes,x.vw,x.va,x.ws,x.as_,fun b hb=>qa5 hb,fun b hb=>.inl (qeo hb),?_,A.L.symm,A.com,xrk _ _ _ _,(fun b hb=>by cases hb),Keep.new hb⟩
 show qa2 _ t w' x.bt x.nodes x.cnt x.vw x.va x.ws x.as_
 rw[A.cnt];exact hP
theorem qf9.inv(A:qf9 K x):SInv ⟨x.Ws,x.st,[]⟩:=A.com.inv
theorem qm7(A:qf9 K x){y:Ent}{e:Ending}(h0:qa2 τ t W x.bt x.nodes x.last x.vw x.va x.ws x.as_)(h:qjp τ t W x.bt x.nodes x.last x.Ws x.st err y e w'):
  ∃ev,e=.returned (.tuple #[ev,.int .i64 err])/\(err≠0->POut τ t W x.bt (x.same err) ev w')/\(err=0->POut τ t W x.bt (qjv (x.L++[y]) x.cnt (qal (x.L++[y]) ⟨x.Ws,x.st,[]⟩)) ev w'):=by
 rcases h with ⟨h1,rfl,hb⟩|⟨h1,τ',ar,aI,aO,an,aL,ev,rfl,m1,m2,m3,m4,m5,m6,m7,m8⟩
 ·exact⟨_,rfl,fun _=>qev h0 A hb err,fun e=>absurd e h1⟩
 ·subst h1
  refine⟨ev,rfl,fun e=>absurd rfl e,fun _=>⟨τ',ar,aI,aO,an,aL,m1,m2,?_,?_,?_,?_,m7,m8⟩⟩
  ·show qa2 τ' t w' x.bt ar x.cnt aI aO an aL
   rw[A.cnt];exact m3
  ·show _=x.L++[y]
   rw[A.L];exact m4
  ·show Comm ar (qal (x.L++[y]) ⟨x.Ws,x.st,[]⟩).Ws x.cnt (qal (x.L++[y]) ⟨x.Ws,x.st,[]⟩).st an aL
   rw[A.L,<- m4]
   refine Comm.settled m3.pr.tree A.inv (A.com.wkl.grown m4) A.com.cnt0 ?_
   rw[m4];exact m5
  ·show w'.ownsRow 0 60 2 ev (qal (x.L++[y]) ⟨x.Ws,x.st,[]⟩).evs.length (qam (qal (x.L++[y]) ⟨x.Ws,x.st,[]⟩).evs)
   rw[A.L];exact m6
variable {n₀ bw:Nat}{uo:List Tw}{r:Nat}
theorem qpo(hP:qa2 τ t W x.bt x.nodes x.last x.vw x.va x.ws x.as_)(A:qf9 K x){r:Node}(hr:x.nodes[0]?=some r)(I:SInv ⟨Ws,x.st,[]⟩)(hL:WkL x.nodes Ws cnt)(hc:0<=cnt) 
  (hs:SetT x.nodes x.bt r (.int .i64 cnt) x.vw x.va x.ws x.as_ (qal (x.nodes.map Node.ent) ⟨Ws,x.st,[]⟩) ev W w'):POut τ t W x.bt (qjv x.L cnt (qal x.L ⟨Ws,x.st,[]⟩)) ev w':=by
 obtain⟨τ',aI,aO,an,aL,m1,m2,m3,m4,m5,m6,m7⟩:=hP.set hr hs
 refine⟨τ',x.nodes,aI,aO,an,aL,m1,m2,m3,A.L.symm,?_,?_,m6,m7⟩
 ·show Comm x.nodes (qal x.L ⟨Ws,x.st,[]⟩).Ws cnt (qal x.L ⟨Ws,x.st,[]⟩).st an aL
  rw[A.L]
  exact Comm.settled A.com.tree I hL hc m4
 ·show w'.ownsRow 0 60 2 ev (qal x.L ⟨Ws,x.st,[]⟩).evs.length (qam (qal x.L ⟨Ws,x.st,[]⟩).evs)
  rw[A.L];exact m5
end
def PMid (τ : Nat->Tag)(t:Nat)(W:World)(bt:Nat)(nodes:List Node)(last:Int)(vw va:Value)(ws as_:List Pw)(w':World):Prop :=
 ∃τ',(∀b,b<W.heap.size -> τ' b = τ b)/\(∀b,W.heap.size<=b -> τ' b=.free\/(τ' b).prog t)/\qa2 τ' t w' bt nodes last vw va ws as_/\Keep (fun b=>b<W.heap.size/\(τ b).prog t) W w'
section
variable {τ : Nat->Tag}{t:Nat}{W:World}{bt:Nat}{nodes:List Node}{last:Int}{vw va:Value}{ws as_:List Pw}
theorem PMid.from(hb:Below W.heap.size W W0)(h:PMid (qcq τ W.heap.size) t W0 bt nodes last vw va ws as_ w'):PMid τ t W bt nodes last vw va ws as_ w':=by
 obtain⟨τ',m1,m2,m3,m4⟩:=h;have hz:=hb.size
 refine⟨τ',fun b ak=>by rw[m1 b (by omega),qa5 ak],fun b oI=>?_,m3,(Keep.new hb).step m4 (fun b ak e=>by have:=e.2;rw[qa5 ak]at this;exact⟨ak,this⟩)⟩
 by_cases h1:b<W0.heap.size
 ·left;rw[m1 b h1,qeo oI]
 ·exact m2 b (by omega)
theorem qhd(h:PMid τ t W bt nodes last vw va ws as_ w1)(R:Rel nodes Ws ws as_)(I:SInv ⟨Ws,st,[]⟩)(hL:WkL nodes Ws last)(hc:0<=last):
  Calls prog 51 #[.pointer (some ⟨bt,0,none⟩),.int .i64 0] w1 fun e w'=>∃ev,e=.returned (.tuple #[ev,.int .i64 0])/\POut τ t W bt (qjv (nodes.map Node.ent) last (qal (nodes.map Node.ent) ⟨Ws,st,[]⟩)) ev w':=by
 obtain⟨τ1,g1,g2,g3,g6⟩:=h;obtain⟨r,hr,nz⟩:=g3.bk;obtain⟨eF,a_⟩:=qbp g3.pr.tree hr
 refine(qfc g3.pr.tree g3.pr.qdk nz eF a_ (s0:=⟨Ws,st,[]⟩) R I rfl).mono ?_
 rintro e w' ⟨ff,fe,ei,eC,fR,rfl,m1,m2,m3,m4,m5,m6,m7⟩
 obtain⟨τ2,kv,mw,gB,jl,k1,k2,k3,k4,k5,k6,k7⟩:=g3.set hr (last':=last) (ev:=ei) ⟨ff,fe,eC,fR,m1,m2,m3,m4,m5,m6,fun p hp=>.inl (m7 p hp)⟩;have hz:=g6.size
 refine⟨ei,rfl,τ2,nodes,kv,mw,gB,jl,fun b hb=>(k1 b (by omega)).trans (g1 b hb),fun b hb=>?_,k3,rfl,Comm.settled g3.pr.tree I hL hc k4,k5,fun b hb=>⟨by have:=(k6 b hb).1;omega,(k6 b hb).2⟩,g6.qbm k7 (fun b hb e=>⟨hb,by have:=e.2;rw[g1 b hb]at this;exact this⟩)⟩
 by_cases aa:b<w1.heap.size
 ·rw[k1 b aa];exact g2 b hb
 ·exact k2 b (by omega)
theorem PMid.setQ(h:qa2 τ t W bt nodes last vw va ws as_)(hn:n∈nodes)(fm:n.key≠[]){b:Int}(h1:qao a b=true)(h2:qao c d=true)(hM:QM W (n.qbb a b c d) w'):PMid τ t W bt (setQ nodes n.key a b c d) last vw va ws as_ w':=by
 have T:=h.pr.tree;have hB:=h.pr.qdk;obtain⟨bD,hk⟩:=hM;have cx:Keep (fun x=>x=n.blk) W w':=hk;obtain⟨i,hi⟩:=xre hn;have gi:=(h.pr.tags i n hi).1;obtain⟨r,hr,nz⟩:=h.bk;have xp:=nz.setQ hB T hn cx bD
 refine⟨qcq τ W.heap.size,fun b hb=>qa5 hb,fun b hb=>.inl (qeo hb),?_,cx.qkm (fun x hx e=>⟨hx,by rw[e,gi];rfl⟩)⟩
 exact h.mapN (fun m _=>qcc n.key a b c d m) (T.setQ fm h1 h2) cx (fun x hx e=>⟨n,hn,e.symm⟩) (fun m hm=>xp.ins _ (xrj hm)) (fun x hx=>qa5 hx)
theorem PMid.back(h:qa2 τ t W bt nodes last vw va ws as_)(hn:n∈nodes)(hM:QM W n w'):PMid τ t W bt nodes last vw va ws as_ w':=by
 have T:=h.pr.tree;have hB:=h.pr.qdk;obtain⟨bD,hk⟩:=hM;obtain⟨i,hi⟩:=xre hn;have gi:=(h.pr.tags i n hi).1;have dI:Blk W n.blk 136 n.cells:=(h.pr.ins n hn).at_
 refine⟨qcq τ W.heap.size,fun b hb=>qa5 hb,fun b hb=>.inl (qeo hb),?_,hk.qkm (fun x hx e=>⟨hx,by rw[e,gi];rfl⟩)⟩
 have:=h.mapN (τ':=qcq τ W.heap.size) (f:=id) (fun m _=>⟨rfl,rfl,rfl,rfl,rfl,rfl⟩) (by simpa using T) hk (fun x hx e=>⟨n,hn,e.symm⟩) (fun m hm=>?_) (fun x hx=>qa5 hx)
 ·simpa using this
 ·by_cases e:m.blk=n.blk
  ·rw[hB m hm n hn e];exact bD
  ·exact(h.pr.ins m hm).keep hk e (fun g hg e2=>qah (h.pr.ins m hm).row dI (by decide) (by rw[hg,e2]))
end
def qg2 (x:Tw)(s:Bs)(a b c d:Int):Out :=
 match findKey x.nodes (qac s) with
 |none=>x.same (qdu x.nodes s (qbj [(a,b),(c,d)]) a b)
 |some n=>if qdu x.nodes s (qbj [(a,b),(c,d)]) a b≠0 then x.same (qdu x.nodes s (qbj [(a,b),(c,d)]) a b) else if qcm (setQ x.nodes n.key a b c d) x.as_≠0 then x.same (qcm (setQ x.nodes n.key a b c d) x.as_)
  else qjv ((setQ x.nodes n.key a b c d).map Node.ent) x.cnt (qal ((setQ x.nodes n.key a b c d).map Node.ent) ⟨x.Ws,x.st,[]⟩)
theorem WkL.mapN{nodes:List Node}(h:WkL nodes Ws cnt){f:Node->Node}(hf:∀n∈nodes,qrx n (f n)):WkL (nodes.map f) Ws cnt :=
 ⟨fun y hy=>by
  obtain⟨n,hn,e1,e2⟩:=h.leaf y hy
  exact⟨f n,xrj hn,(hf n hn).key.trans e1,(hf n hn).leaf.trans e2⟩,h.num⟩
theorem Rel.mapN{nodes:List Node}{ws as_:List Pw}(R:Rel nodes Ws ws as_){f:Node->Node}(hf:∀n∈nodes,qrx n (f n)):Rel (nodes.map f) Ws ws as_ :=
 R.qlp (fun n hn=>⟨f n,xrj hn,(hf n hn).blk,(hf n hn).key⟩)
theorem qhk{W:World}{bt:Nat}(s:ByteArray)(a b c d:Int){M:World->Prop}{F:Value->World->Prop}
  (tA:∀W1,Below W.heap.size W W1->Calls prog 56 #[.pointer (some ⟨bt,0,none⟩),.string s,.agg #[.int .i64 a,.int .i64 b],.agg #[.int .i64 c,.int .i64 d]] W1 fun e w'=>e=.returned (.int .i64 er)/\M w')
  (qA:∀W1,M W1->Calls prog 51 #[.pointer (some ⟨bt,0,none⟩),.int .i64 er] W1 fun e w'=>∃ev,e=.returned (.tuple #[ev,.int .i64 er])/\F ev w') :
  Calls prog 29 #[.pointer (some ⟨bt,0,none⟩),.string s,.agg #[.int .i64 a,.int .i64 b],.agg #[.int .i64 c,.int .i64 d]] W fun e w'=>∃ev,e=.returned (.tuple #[ev,.int .i64 er])/\F ev w':=by
 have b0:Blk ((W.alloc (.cells #[.int .i64 a,.int .i64 b] 35)).alloc (.cells #[.int .i64 c,.int .i64 d] 35)) W.heap.size 35 #[.int .i64 a,.int .i64 b]:=(Blk.new W 35 _).alloc _;have b1:Blk ((W.alloc (.cells #[.int .i64 a,.int .i64 b] 35)).alloc (.cells #[.int .i64 c,.int .i64 d] 35)) (W.heap.size+1) 35 #[.int .i64 c,.int .i64 d]:=Blk.new' (by simp)
 go_enter func29,ntmps29
 go_wp2_with (first
  |(go_at_call 56;refine(tA _ (by exact bel2)).mono ?_;rintro e w1 ⟨rfl,hM⟩)
  |(go_at_call 51;refine(qA _ hM).mono ?_;rintro e w2 ⟨ev,rfl,hF⟩))
 exact xrn (v:=.tuple #[ev,.int .i64 er]) (by simp[results,results29,go_sem]) rfl ⟨ev,rfl,hF⟩
theorem qzo{τ : Nat->Tag}{t K:Nat}{W:World}{x:Tw}(hP:qa2 τ t W x.bt x.nodes x.last x.vw x.va x.ws x.as_)(A:qf9 K x)(s:ByteArray)(hs:s.size<=2000000)(a b c d:Int):
  Calls prog 29 #[.pointer (some ⟨x.bt,0,none⟩),.string s,.agg #[.int .i64 a,.int .i64 b],.agg #[.int .i64 c,.int .i64 d]] W fun e w'=>∃ev,e=.returned (.tuple #[ev,.int .i64 (qg2 x (bl s) a b c d).err])/\POut τ t W x.bt (qg2 x (bl s) a b c d) ev w':=by
 obtain⟨r,eT,hb⟩:=hP.bk;obtain⟨eF,a_⟩:=qbp hP.pr.tree eT;have T:=hP.pr.tree;have hB:=hP.pr.qdk;have yP:=fun W1 (hW:Below W.heap.size W W1)=>hP.keep (τ':=qcq τ W.heap.size) (T:=fun _=>False) (Keep.new hW) (fun _ _ h=>h.elim) (fun b hb=>qa5 hb)
 by_cases he:qdu x.nodes (bl s) (qbj [(a,b),(c,d)]) a b=0
 ·obtain⟨hv,dw,n,hf,cg,eS⟩:=qgb he;obtain⟨hn,bX⟩:=qan hf;have en:qao a b=true/\qao c d=true:=by simpa [qbj] using cg
  have fm:n.key≠[]:=by rw[bX];intro e;exact dw (qes e)
  have tA:=fun W1 (hW:Below W.heap.size W W1)=>qwa T hB (hb.below hW) eF a_ s hs a b c d he hf
  have ho:qg2 x (bl s) a b c d=if qcm (setQ x.nodes n.key a b c d) x.as_≠0 then x.same (qcm (setQ x.nodes n.key a b c d) x.as_) else qjv ((setQ x.nodes n.key a b c d).map Node.ent) x.cnt (qal ((setQ x.nodes n.key a b c d).map Node.ent) ⟨x.Ws,x.st,[]⟩):=by
   unfold qg2;simp only[hf];rw[if_neg (by simpa using he)]
  by_cases h2:qcm (setQ x.nodes n.key a b c d) x.as_=0
  ·rw[if_neg (by simpa using h2)]at ho;rw[ho]
   refine qhk (M:=PMid τ t W x.bt (setQ x.nodes n.key a b c d) x.last x.vw x.va x.ws x.as_) s a b c d (fun W1 hW=>(tA W1 hW).mono fun e w' h=>?_) (fun W1 hM=>?_)
   ·obtain⟨h3,h4,_⟩:=h;rw[h2]at h3
    exact⟨h3,PMid.from hW (PMid.setQ (yP W1 hW) hn fm en.1 en.2 (h4 h2))⟩
   ·have:=qhd hM (A.com.rel.mapN (fun m _=>qcc n.key a b c d m)) A.inv (by rw[<-A.cnt];exact A.com.wkl.mapN (fun m _=>qcc n.key a b c d m)) (by rw[<-A.cnt];exact A.com.cnt0)
    rw[<-A.cnt]at this
    exact this
  ·rw[if_pos h2]at ho;rw[ho]
   refine qhk (M:=PMid τ t W x.bt x.nodes x.last x.vw x.va x.ws x.as_) s a b c d (fun W1 hW=>(tA W1 hW).mono fun e w' h=>?_) (fun W1 hM=>?_)
   ·obtain⟨h3,_,h4⟩:=h
    exact⟨h3,PMid.from hW (PMid.back (yP W1 hW) hn (h4 h2))⟩
   ·refine(qcp (w:=W1) (bt:=x.bt) h2).mono ?_
    rintro e w' ⟨rfl,rfl⟩
    obtain⟨τ',m1,m2,m3,m4⟩:=hM
    refine⟨_,rfl,τ',x.nodes,x.vw,x.va,x.ws,x.as_,m1,m2,?_,A.L.symm,A.com,xrk _ _ _ _,(fun b hb=>by cases hb),m4⟩
    show qa2 τ' t _ x.bt x.nodes x.cnt x.vw x.va x.ws x.as_
    rw[A.cnt];exact m3
 ·have ho:qg2 x (bl s) a b c d=x.same (qdu x.nodes (bl s) (qbj [(a,b),(c,d)]) a b):=by
   unfold qg2
   cases findKey x.nodes (qac (bl s)) with
   |none=>rfl
   |some n=>simp only[ne_eq,he,not_false_eq_true,if_true]
  rw[ho]
  refine qhk (M:=fun w'=>Below W.heap.size W w') s a b c d (fun W1 hW=>(qv9 T (hb.below hW) eF a_ s hs a b c d rfl he).mono fun e w' h=>⟨h.1,qab hW h.2⟩) (fun W1 hM=>?_)
  refine(qcp (w:=W1) (bt:=x.bt) he).mono ?_
  rintro e w' ⟨rfl,rfl⟩
  exact⟨_,rfl,qev hP A hM _⟩
theorem qhi{nodes:List Node}(T:Tree nodes){ws as_:List Pw}(R:Rel nodes Ws ws as_)(hW:Wks Ws):qcm nodes as_=if qct (nodes.map Node.ent) Ws=true then 11 else 0:=by
 have key:∀n∈nodes,okQ nodes as_ n=!qtk (nodes.map Node.ent) Ws n.ent:=fun n hn=>by
  have hk:=(T.ok n hn).1;obtain⟨u0,u1⟩:=R.use hW hk;obtain⟨v0,v1⟩:=qb7 T hk;unfold okQ qtk sh0 sh1 abv;rw[u0,u1,v0,v1,Bool.eq_iff_iff]
  show(_&&_)=true↔(!(decide (ws0 (qae Ws (qaa n.key))+0>es0 (qai (nodes.map Node.ent) (qaa n.key))+n.b0)||decide (ws1 (qae Ws (qaa n.key))+0>es1 (qai (nodes.map Node.ent) (qaa n.key))+n.b1)))=true
  simp
  omega
 have e:nodes.all (okQ nodes as_)=!qct (nodes.map Node.ent) Ws:=by
  unfold qct;rw[List.any_map,List.not_any_eq_all_not];rw[Bool.eq_iff_iff,List.all_eq_true,List.all_eq_true]
  exact⟨fun h n hn=>by have:=h n hn;rw[key n hn]at this;simpa [Function.comp] using this,fun h n hn=>by have:=h n hn;rw[key n hn];simpa [Function.comp] using this⟩
 unfold qcm;rw[e]
 cases qct (nodes.map Node.ent) Ws<;>rfl
theorem qnd(nodes:List Node)(k:List Bs)(a b c d:Int)(h:∀n∈nodes,n.key=k->n.leaf=false->n.n0=a/\n.n1=b):setL (nodes.map Node.ent) k a b c d=(setQ nodes k a b c d).map Node.ent:=by
 unfold setL setQ;rw[List.map_map,List.map_map]
 exact List.map_congr_left fun n hn=>by
  simp only[Function.comp]
  by_cases hk:n.key=k
  ·rw[if_pos (show n.ent.key=k from hk),if_pos hk]
   have:=h n hn hk
   cases hl:n.leaf
   ·obtain⟨e1,e2⟩:=this hl
    simp[Ent.qbb,Node.qbb,Node.ent,hl,e1,e2]
   ·simp[Ent.qbb,Node.qbb,Node.ent,hl]
  ·rw[if_neg (show ¬n.ent.key=k from hk),if_neg hk]
theorem qnu(nodes:List Node)(s:Bs)(ok:Bool)(a b:Int):qnt (nodes.map Node.ent) s ok a b=qdu nodes s ok a b:=by
 unfold qnt qdu errF;rw[qb4]
 by_cases h1:qar s=false
 ·simp[h1]
 ·by_cases h2:s=[]
  ·rw[if_neg h1,if_pos h2,if_neg h1,if_pos h2];rfl
  ·cases h3:findKey nodes (qac s) with
   |none=>simp[h1,h2]
   |some n=>simp[h1,h2,Node.ent]
section
variable {n₀ : Nat}{τ : Nat->Tag}{W:World}{bw:Nat}{uo:List Tw}{K t:Nat}{x:Tw}
end
end Go.Proofs.YtphclnolomgjoaaGreatDoor
