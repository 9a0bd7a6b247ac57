import Derived.Test.YtphclnolomgjoaaGreatDoorG27
import Derived.Test.YtphclnolomgjoaaGreatDoorG23
import Derived.Test.YtphclnolomgjoaaGreatDoorG22
set_option linter.unusedVariables false
set_option linter.unusedSimpArgs false
set_option maxRecDepth 100000
set_option maxHeartbeats 4000000
namespace Go.Proofs.YtphclnolomgjoaaGreatDoor
open Tryz
open Go.RowKit
variable {W' W0 w w' w1:World}{ai ev x1 x2 x3 y2 y3:Value}{b g0 g1 g2 g3 g4:Nat}{a c cnt d er err m0 m1 st:Int}{n:Node}{ok:Bool}{s:SS}{Ws:List Wk}
def qdy (nodes:List Node)(s:Bs)(ok:Bool)(a b:Int):Int :=
 if qas s=false then 1 else if s=[] then 2 else match findKey nodes (qab s) with
 |none=>3
 |some n=>if ok=false then 6 else if (!n.leaf&&!(a == 0&&b == 0))=true then 6 else 0
theorem qfa{nodes:List Node}(T0:Tree nodes){bt:Nat}{r:Node}{vw va:Value}{ws as_:List Pw}(h:TwAt w nodes bt r ai vw va ws as_)(hr:r∈nodes)(a_:r.key=[])(s:ByteArray)(hs:s.size<=2000000)(a b c d:Int):
  Calls prog 84 #[.pointer (some ⟨bt,0,none⟩),.string s,.agg #[.int .i64 a,.int .i64 b],.agg #[.int .i64 c,.int .i64 d]] w fun e w'=>e=.returned (.int .i64 (qdy nodes (bl s) (qbk [(a,b),(c,d)]) a b))/\Below w.heap.size w w':=by
 have a9:=fun W=>qd3 s hs W
 rw[qk8]at a9;have cC:=h.bk.at_.lt;have bC:∀W,Below w.heap.size w W->W.cell? ⟨bt,0,none⟩=some (nptr r.blk):=fun W (hW:Below w.heap.size w W)=>(h.below hW).bk.at_.cell 0
 have ak:=fun W (hW:Below w.heap.size w W) v hv=>qcs T0 hr a_ s hs W (h.below hW).ins v hv
 have aZ:=fun n (hn:n∈nodes) W (hW:Below w.heap.size w W)=>qgy n.blk n.leaf W (((h.below hW).ins n hn).cell rfl)
 have da:∀W vb,Blk W vb 35 #[.int .i64 a,.int .i64 b,.int .i64 c,.int .i64 d]->Calls prog 133 #[.slice (some ⟨vb,0,none⟩) 2 2] W fun e w'=>e=.returned (.bool (qbk [(a,b),(c,d)]))/\Below W.heap.size W w':=fun W vb hb=>by
  refine qf3 vb 2 [(a,b),(c,d)] (by simp) W hb.lt (fun j x hx=>?_)
  cases j with
  |zero=>simp at hx;subst hx;have c0:=hb.cell 0;have c1:=hb.cell 1;simp at c0 c1;exact⟨c0,c1⟩
  |succ j =>
   cases j with
   |zero=>simp at hx;subst hx;have c0:=hb.cell 2;have c1:=hb.cell 3;simp at c0 c1;exact⟨c0,c1⟩
   |succ j=>simp at hx
 have b0:Blk ((w.alloc (.cells #[.int .i64 a,.int .i64 b] 35)).alloc (.cells #[.int .i64 c,.int .i64 d] 35)) w.heap.size 35 #[.int .i64 a,.int .i64 b]:=(Blk.new w 35 _).alloc _;have b1:Blk ((w.alloc (.cells #[.int .i64 a,.int .i64 b] 35)).alloc (.cells #[.int .i64 c,.int .i64 d] 35)) (w.heap.size+1) 35 #[.int .i64 c,.int .i64 d]:=Blk.new' (by simp);have eZ:=fun W=>qvk a b 0 0 W
 unfold nptr at bC;unfold qdy
 cases hv:qas (bl s)
 ·rw[hv]at a9;simp only[if_true]at a9 ⊢;clear ak bC aZ da
  go_enter func84,ntmps84
  go_wp2_with (go_at_call 132;refine(a9 _).mono ?_;rintro e w1 ⟨rfl,aa⟩)
  refine xrn (v:=.int .i64 1) (by simp[results,results84,go_sem]) rfl ⟨rfl,?_⟩
  exact qac (by exact bel2) aa
 rw[hv]at a9;simp only[Bool.true_eq_false,if_false]at a9 ⊢
 by_cases h0:bl s=[]
 ·have hz:s=⟨#[]⟩:=qea (h0.trans qhy.symm);simp only[h0,if_true]at a9 ⊢;clear ak bC aZ da;subst hz
  go_enter func84,ntmps84
  go_wp2_with (go_at_call 132;refine(a9 _).mono ?_;rintro e w1 ⟨rfl,aa⟩)
  refine xrn (v:=.int .i64 2) (by simp[results,results84,go_sem]) rfl ⟨rfl,?_⟩
  exact qac (by exact bel2) aa
 simp only[h0,if_false]at a9 ⊢
 cases hf:findKey nodes (qab (bl s)) with
 |none =>
  rw[hf]at ak;clear hf aZ da;unfold nptr at ak
  go_enter func84,ntmps84
  go_wp2_with (first
   |(go_at_call 132;refine(a9 _).mono ?_;rintro e w1 ⟨rfl,aa⟩;have au:Below w.heap.size w w1:=qac (by exact bel2) aa;have gV:=bC w1 au)
   |(go_at_call 63;refine(ak _ au (.pointer none) rfl).mono ?_;rintro e w2 ⟨rfl,ag⟩;have aR:Below w.heap.size w w2:=qac au ag))
  refine xrn (v:=.int .i64 3) (by simp[results,results84,go_sem]) rfl ⟨rfl,?_⟩
  exact aR
 |some n =>
  obtain⟨hn,bR⟩:=qan hf;rw[hf]at ak
  replace aZ:=aZ n hn
  clear hf;simp only[nptr]at ak
  dsimp only
  have jM:∀w1:World,Below (w.heap.size+2) ((w.alloc (.cells #[.int .i64 a,.int .i64 b] 35)).alloc (.cells #[.int .i64 c,.int .i64 d] 35)) w1->True:=fun _ _=>trivial
  cases kT:qbk [(a,b),(c,d)]
  ·rw[kT]at da;simp only[if_true];clear aZ
   go_enter func84,ntmps84
   go_wp2_with (first
    |(go_at_call 132;refine(a9 _).mono ?_;rintro e w1 ⟨rfl,aa⟩;have au:Below w.heap.size w w1:=qac (by exact bel2) aa;have gV:=bC w1 au;have c0:=b0.below aa (by simp<;>omega);have c1:=b1.below aa (by simp<;>omega))
    |(go_at_call 63;refine(ak _ au (.pointer (some ⟨n.blk,0,none⟩)) rfl).mono ?_;rintro e w2 ⟨rfl,ag⟩;have aR:Below w.heap.size w w2:=qac au ag;have d0:=c0.below ag c0.lt;have d1:=c1.below ag c1.lt;have x0:=d0.cell 0;have x1:=d0.cell 1;have y0:=d1.cell 0;have y1:=d1.cell 1;have l0:=d0.lt;have l1:=d1.lt;simp only[xq0,xq1,xq2]at x0 x1 y0 y1)
    |(go_at_call 133;refine(da _ _ (by exact blk2)).mono ?_;rintro e w3 ⟨rfl,aM⟩;have bE:Below w.heap.size w w3:=qac (by exact bel2) aM))
   refine xrn (v:=.int .i64 6) (by simp[results,results84,go_sem]) rfl ⟨rfl,?_⟩
   exact bE
  ·rw[kT]at da;simp only[Bool.true_eq_false,if_false]
   cases hl:n.leaf
   ·rw[hl]at aZ;simp only[Bool.not_false,Bool.true_and];generalize gY:(a == 0&&b == 0)=ab at eZ ⊢;clear gY
    cases ab
    ·simp only[Bool.not_false,if_true]
     go_enter func84,ntmps84
     go_wp2_with (first
      |(go_at_call 132;refine(a9 _).mono ?_;rintro e w1 ⟨rfl,aa⟩;have au:Below w.heap.size w w1:=qac (by exact bel2) aa;have gV:=bC w1 au;have c0:=b0.below aa (by simp<;>omega);have c1:=b1.below aa (by simp<;>omega))
      |(go_at_call 63;refine(ak _ au (.pointer (some ⟨n.blk,0,none⟩)) rfl).mono ?_;rintro e w2 ⟨rfl,ag⟩;have aR:Below w.heap.size w w2:=qac au ag;have d0:=c0.below ag c0.lt;have d1:=c1.below ag c1.lt;have x0:=d0.cell 0;have x1:=d0.cell 1;have y0:=d1.cell 0;have y1:=d1.cell 1;have l0:=d0.lt;have l1:=d1.lt;simp only[xq0,xq1,xq2]at x0 x1 y0 y1)
      |(go_at_call 133;refine(da _ _ (by exact blk2)).mono ?_;rintro e w3 ⟨rfl,aM⟩;have bE:Below w.heap.size w w3:=qac (by exact bel2) aM;have f0:=(d0.alloc (.cells #[.int .i64 a,.int .i64 b,.int .i64 c,.int .i64 d] 35)).below aM (by simp;omega);have u0:=f0.cell 0;have u1:=f0.cell 1;simp only[xq0,xq1,xq2]at u0 u1)
      |(go_at_call 105;refine(aZ _ bE).mono ?_;rintro e w4 ⟨rfl,lF⟩;subst lF))
     refine xrn (v:=.int .i64 6) (by simp[results,results84,go_sem]) rfl ⟨rfl,?_⟩
     exact bE
    ·simp only[Bool.not_true,Bool.false_eq_true,if_false]
     go_enter func84,ntmps84
     go_wp2_with (first
      |(go_at_call 132;refine(a9 _).mono ?_;rintro e w1 ⟨rfl,aa⟩;have au:Below w.heap.size w w1:=qac (by exact bel2) aa;have gV:=bC w1 au;have c0:=b0.below aa (by simp<;>omega);have c1:=b1.below aa (by simp<;>omega))
      |(go_at_call 63;refine(ak _ au (.pointer (some ⟨n.blk,0,none⟩)) rfl).mono ?_;rintro e w2 ⟨rfl,ag⟩;have aR:Below w.heap.size w w2:=qac au ag;have d0:=c0.below ag c0.lt;have d1:=c1.below ag c1.lt;have x0:=d0.cell 0;have x1:=d0.cell 1;have y0:=d1.cell 0;have y1:=d1.cell 1;have l0:=d0.lt;have l1:=d1.lt;simp only[xq0,xq1,xq2]at x0 x1 y0 y1)
      |(go_at_call 133;refine(da _ _ (by exact blk2)).mono ?_;rintro e w3 ⟨rfl,aM⟩;have bE:Below w.heap.size w w3:=qac (by exact bel2) aM;have f0:=(d0.alloc (.cells #[.int .i64 a,.int .i64 b,.int .i64 c,.int .i64 d] 35)).below aM (by simp;omega);have u0:=f0.cell 0;have u1:=f0.cell 1;simp only[xq0,xq1,xq2]at u0 u1)
      |(go_at_call 105;refine(aZ _ bE).mono ?_;rintro e w4 ⟨rfl,lF⟩;subst lF))
     refine xrn (v:=.int .i64 0) (by simp[results,results84,go_sem]) rfl ⟨rfl,?_⟩
     exact bE
   ·rw[hl]at aZ;simp only[Bool.not_true,Bool.false_and,Bool.false_eq_true,if_false];clear eZ
    go_enter func84,ntmps84
    go_wp2_with (first
     |(go_at_call 132;refine(a9 _).mono ?_;rintro e w1 ⟨rfl,aa⟩;have au:Below w.heap.size w w1:=qac (by exact bel2) aa;have gV:=bC w1 au;have c0:=b0.below aa (by simp<;>omega);have c1:=b1.below aa (by simp<;>omega))
     |(go_at_call 63;refine(ak _ au (.pointer (some ⟨n.blk,0,none⟩)) rfl).mono ?_;rintro e w2 ⟨rfl,ag⟩;have aR:Below w.heap.size w w2:=qac au ag;have d0:=c0.below ag c0.lt;have d1:=c1.below ag c1.lt;have x0:=d0.cell 0;have x1:=d0.cell 1;have y0:=d1.cell 0;have y1:=d1.cell 1;have l0:=d0.lt;have l1:=d1.lt;simp only[xq0,xq1,xq2]at x0 x1 y0 y1)
     |(go_at_call 133;refine(da _ _ (by exact blk2)).mono ?_;rintro e w3 ⟨rfl,aM⟩;have bE:Below w.heap.size w w3:=qac (by exact bel2) aM)
     |(go_at_call 105;refine(aZ _ bE).mono ?_;rintro e w4 ⟨rfl,lF⟩;subst lF))
    refine xrn (v:=.int .i64 0) (by simp[results,results84,go_sem]) rfl ⟨rfl,?_⟩
    exact bE
theorem quc{a:Nat}(h:w.cell? ⟨a,0,none⟩=some (.int .i64 0)):
  CallsD prog 140 #[.pointer (some ⟨a,0,none⟩),.pointer (some ⟨b,0,none⟩)] .returning w fun e u' w'=>u'=.returning/\(e=.returned (.tuple #[])/\w'=w):=by
 go_enter_d func140,ntmps140
 go_wp2
 go_end0
 exact⟨rfl,rfl⟩
theorem qrl{a:Nat}(he:(er != 0)=true)(h:w.cell? ⟨a,0,none⟩=some (.int .i64 er))(hb:w.cell? ⟨b,0,none⟩=some (.func (.func 90) #[] #[x1,y2,y3])){M:World->Prop}
  (hU:Calls prog 90 #[x1,y2,y3] w fun e w'=>e=.returned (.tuple #[])/\M w') :
  CallsD prog 140 #[.pointer (some ⟨a,0,none⟩),.pointer (some ⟨b,0,none⟩)] .returning w fun e u' w'=>u'=.returning/\(e=.returned (.tuple #[])/\M w'):=by
 go_enter_d func140,ntmps140
 go_wp2_with (go_at_call 90;refine hU.mono ?_;rintro e w1 ⟨rfl,hM⟩)
 go_end0
 exact⟨rfl,hM⟩
theorem qrx{bt:Nat}{M1 M2 M3:World->Prop}(cC:bt<w.heap.size)
  (hC:∀W1,Below w.heap.size w W1->Calls prog 88 #[x1,x2,x3] W1 fun e w'=>e=.returned (.tuple #[])/\Keep (fun b=>b<w.heap.size) W1 w'/\M1 w')
  (hO:∀W1,M1 W1->Calls prog 141 #[.pointer (some ⟨bt,0,none⟩)] W1 fun e w'=>e=.returned (.int .i64 er)/\Below W1.heap.size W1 w')
  (h2:er=0->∀W1 W2,M1 W1->w.heap.size<=W1.heap.size->Keep (fun b=>w.heap.size<=b) W1 W2->M2 W2)
  (hU:er≠0->∀W1 W2,M1 W1->w.heap.size<=W1.heap.size->Keep (fun b=>w.heap.size<=b) W1 W2->Calls prog 90 #[x1,y2,y3] W2 fun e w'=>e=.returned (.tuple #[])/\Keep (fun b=>b<w.heap.size) W2 w'/\M3 w') :
  Calls prog 87 #[.pointer (some ⟨bt,0,none⟩),.func (.func 88) #[] #[x1,x2,x3],.func (.func 90) #[] #[x1,y2,y3]] w fun e w'=>e=.returned (.int .i64 er)/\(er=0->M2 w')/\(er≠0->M3 w'):=by
 have jJ:∀(fn:Fn) (first cap:Array Value) (w:World),(Instr.makeFunc fn first cap).run prog w=.ok (.func fn first cap) w:=fun _ _ _ _=>rfl
 obtain⟨W0,bf⟩:∃W0,W0=(w.alloc (.cells #[.func (.func 90) #[] #[x1,y2,y3]] 1)).alloc (.cells #[.int .i64 0] 53):=⟨_,rfl⟩;have b1:Box W0 w.heap.size 1 (.func (.func 90) #[] #[x1,y2,y3]):=by rw[bf];exact(Box.new w 1 _).alloc _
 have b2:Box W0 (w.heap.size+1) 53 (.int .i64 0):=by
  rw[bf];have:=Box.new (w.alloc (.cells #[.func (.func 90) #[] #[x1,y2,y3]] 1)) 53 (.int .i64 0)
  rwa[xrt]at this
 have bh:Below w.heap.size w W0:=by rw[bf];exact bel2
 have fK:w.heap.size+2<=W0.heap.size:=by rw[bf];simp
 go_enter_defers func87,ntmps87
 go_upto_region 1 with fail
 rw[<-bf];clear bf
 go_wp2_with (first
  |(go_at_call 88;refine(hC _ (by exact bel2)).mono ?_;rintro e w1 ⟨rfl,cd,j7⟩;have d1:=b1.keep cd (by omega);have d2:=b2.keep cd (by omega);have dv:=cd.size)
  |(go_at_call 141;refine(hO _ j7).mono ?_;rintro e w2 ⟨rfl,ag⟩;have f1:=d1.below ag d1.lt;have f2:=d2.below ag d2.lt;have q2:=f2.cell;have p2:=f2.frozen))
 have aY:Keep (fun b=>w.heap.size<=b) w1 (w2.setCell ⟨w.heap.size+1,0,none⟩ (.int .i64 er)):=(Keep.new (T:=fun b=>w.heap.size<=b) ag).setCell (p:=⟨w.heap.size+1,0,none⟩) (by simp) _;have g1:=(f1.other ⟨w.heap.size+1,0,none⟩ (.int .i64 er) (by simp)).cell;have g2:=(f2.set (.int .i64 er)).cell
 by_cases he:er=0
 ·subst he
  refine leaves_cons (f:=140) (args:=#[.pointer (some ⟨w.heap.size+1,0,none⟩),.pointer (some ⟨w.heap.size,0,none⟩)]) (by simp) (by simp[go_sem]) ?_
  refine(quc (b:=w.heap.size) g2).mono ?_
  rintro e u' kr ⟨rfl,rfl,rfl⟩
  simp[Leaves,settle,results,results87,go_sem,g2]
  exact h2 rfl _ _ j7 (by omega) aY
 ·refine leaves_cons (f:=140) (args:=#[.pointer (some ⟨w.heap.size+1,0,none⟩),.pointer (some ⟨w.heap.size,0,none⟩)]) (by simp) (by simp[go_sem]) ?_
  refine(qrl (by simpa using he) g2 g1 (hU he _ _ j7 (by omega) aY)).mono ?_
  rintro e u' kr ⟨rfl,rfl,bW,qI⟩
  have g3:=((f2.set (.int .i64 er)).keep bW (by omega)).cell
  simp[Leaves,settle,results,results87,go_sem,g3]
  exact⟨fun e=>absurd e he,fun _=>qI⟩
theorem qq7(hn:qaf w n)(de:n.sl.ownBlock≠some n.blk){b:Int}(b0:Blk w g0 97 #[.pointer (some ⟨n.blk,0,none⟩)])(b1:Blk w g1 35 #[.int .i64 a,.int .i64 b])(b2:Blk w g2 35 #[.int .i64 c,.int .i64 d]):
  Calls prog 88 #[.pointer (some ⟨g0,0,none⟩),.pointer (some ⟨g1,0,none⟩),.pointer (some ⟨g2,0,none⟩)] w fun e w'=>e=.returned (.tuple #[])/\qaf w' (n.qbb a b c d)/\Keep (fun x=>x=n.blk) w w':=by
 have eK:=qg8 hn de a b c d;have c0:=b0.cell 0;have x0:=b1.cell 0;have x1:=b1.cell 1;have y0:=b2.cell 0;have y1:=b2.cell 1;simp only[xq0,xq1,xq2]at c0 x0 x1 y0 y1
 go_enter func88,ntmps88
 go_wp2_with (go_at_call 89;refine eK.mono ?_;rintro e w1 ⟨rfl,hM⟩)
 go_end0
 exact⟨rfl,hM⟩
theorem qq8(hn:qaf w n)(de:n.sl.ownBlock≠some n.blk){b:Int}(b0:Blk w g0 97 #[.pointer (some ⟨n.blk,0,none⟩)])(b1:Blk w g1 35 #[.int .i64 a,.int .i64 b])(b2:Blk w g2 35 #[.int .i64 c,.int .i64 d]):
  Calls prog 90 #[.pointer (some ⟨g0,0,none⟩),.pointer (some ⟨g1,0,none⟩),.pointer (some ⟨g2,0,none⟩)] w fun e w'=>e=.returned (.tuple #[])/\qaf w' (n.qbb a b c d)/\Keep (fun x=>x=n.blk) w w':=by
 have eK:=qg8 hn de a b c d;have c0:=b0.cell 0;have x0:=b1.cell 0;have x1:=b1.cell 1;have y0:=b2.cell 0;have y1:=b2.cell 1;simp only[xq0,xq1,xq2]at c0 x0 x1 y0 y1
 go_enter func90,ntmps90
 go_wp2_with (go_at_call 89;refine eK.mono ?_;rintro e w1 ⟨rfl,hM⟩)
 go_end0
 exact⟨rfl,hM⟩
def QM (w:World)(n:Node)(w':World):Prop:=qaf w' n/\Keep (fun x=>x=n.blk) w w'
theorem qk0{bt:Nat}{b:Int}(hn:qaf w n)(de:n.sl.ownBlock≠some n.blk)(cC:bt<w.heap.size) 
  (b0:Blk w g0 97 #[.pointer (some ⟨n.blk,0,none⟩)]) (b1:Blk w g1 35 #[.int .i64 a,.int .i64 b]) (b2:Blk w g2 35 #[.int .i64 c,.int .i64 d]) (b3:Blk w g3 35 #[.int .i64 m0,.int .i64 m1]) (b4:Blk w g4 35 #[.int .i64 n.b0,.int .i64 n.b1])
  (hd:(n.qbb a b c d).qbb m0 m1 n.b0 n.b1=n)
  (hO:∀W1,QM w (n.qbb a b c d) W1->Calls prog 141 #[.pointer (some ⟨bt,0,none⟩)] W1 fun e w'=>e=.returned (.int .i64 er)/\Below W1.heap.size W1 w') :
  Calls prog 87 #[.pointer (some ⟨bt,0,none⟩),.func (.func 88) #[] #[.pointer (some ⟨g0,0,none⟩),.pointer (some ⟨g1,0,none⟩),.pointer (some ⟨g2,0,none⟩)],.func (.func 90) #[] #[.pointer (some ⟨g0,0,none⟩),.pointer (some ⟨g3,0,none⟩),.pointer (some ⟨g4,0,none⟩)]] w
   fun e w'=>e=.returned (.int .i64 er)/\(er=0->QM w (n.qbb a b c d) w')/\(er≠0->QM w n w'):=by
 have an:=hn.lt;have bK:∀g,n.sl.ownBlock=some g->g<w.heap.size:=fun g hg=>(hn.row.lt g hg).2
 have aW:∀ {g t vs},Blk w g t vs->t≠136->g≠n.blk:=fun {g t vs} hb ht e=>by
  subst e;have h2:Blk w n.blk 136 n.cells:=hn.at_
  have:=hb.symm.trans h2
  injection this with this;injection this with _ h3 _
  exact ht h3
 have q0:=aW b0 (by decide);have q3:=aW b3 (by decide);have q4:=aW b4 (by decide)
 refine qrx (M1:=QM w (n.qbb a b c d)) (M2:=QM w (n.qbb a b c d)) (M3:=QM w n) cC (fun W1 hb=>?_) hO (fun _ W1 W2 hM hz hk=>?_) (fun _ W1 W2 hM hz hk=>?_)
 ·refine(qq7 (hn.below hb) de (b0.below hb b0.lt) (b1.below hb b1.lt) (b2.below hb b2.lt)).mono ?_
  rintro e w' ⟨rfl,h1,h2⟩
  exact⟨rfl,h2.mono (fun x e=>by rw[e];exact an),h1,(Keep.new hb).trans h2⟩
 ·exact⟨hM.1.keep hk (fun e=>by have e':w.heap.size<=n.blk:=e;omega) (fun g hg e=>by have:=bK g hg;omega),hM.2.qbm hk (fun x hx e=>by omega)⟩
 ·have dQ:qaf W2 (n.qbb a b c d):=hM.1.keep hk (fun e=>by have e':w.heap.size<=n.blk:=e;omega) (fun g hg e=>by have:=bK g hg;omega);have hK:Keep (fun x=>x=n.blk) w W2:=hM.2.qbm hk (fun x hx e=>by omega)
  refine(qq8 dQ de (b0.keep hK q0) (b3.keep hK q3) (b4.keep hK q4)).mono ?_
  rintro e w' ⟨rfl,h1,h2⟩
  rw[hd]at h1;have yv:Keep (fun x=>x=n.blk) W2 w':=h2
  exact⟨rfl,yv.mono (fun x e=>by rw[e];exact an),h1,hK.trans yv⟩
theorem TwAt.setQ{W:World}{nodes:List Node}{bt:Nat}{r:Node}{vw va:Value}{ws as_:List Pw}(h:TwAt W nodes bt r ai vw va ws as_)(hB:qa2 nodes)(T:Tree nodes)(hn:n∈nodes)(hk:Keep (fun x=>x=n.blk) W W'){b:Int}(bL:qaf W' (n.qbb a b c d)):
  TwAt W' (setQ nodes n.key a b c d) bt (if r.key=n.key then r.qbb a b c d else r) ai vw va ws as_:=by
 have ej:Blk W n.blk 136 n.cells:=(h.ins n hn).at_;have Cr:(if r.key=n.key then r.qbb a b c d else r).blk=r.blk:=(qcd n.key a b c d r).blk
 refine⟨fun m hm=>?_,?_,fun p hp=>?_,h.nm⟩
 ·obtain⟨x,hx,rfl⟩:=xrq.1 hm
  by_cases e:x.key=n.key
  ·obtain rfl:=T.inj x hx n hn e;simp only[if_pos];exact bL
  ·simp only[if_neg e]
   refine(h.ins x hx).keep hk (fun e2=>e ?_) (fun g hg e2=>qag (h.ins x hx).row ej (by decide) (by rw[hg,e2]))
   rw[hB x hx n hn e2]
 ·rw[Cr];have hb:=h.bk
  exact⟨hb.at_.keep hk (qaw hb.at_ ej (by decide)),qae hb.wrow hk (fun g hg e=>qag hb.wrow ej (by decide) (by rw[hg,e])),qae hb.arow hk (fun g hg e=>qag hb.arow ej (by decide) (by rw[hg,e])),fun p hp=>(hb.works p hp).keep hk (qaw (hb.works p hp) ej (by decide)),hb.sep,hb.nd,hb.inj,hb.len⟩
 ·obtain⟨m,hm,e1,e2⟩:=h.lf p hp
  exact⟨_,xrj hm,(qcd n.key a b c d m).blk.trans e1,(qcd n.key a b c d m).key.trans e2⟩
theorem qa2.setQ{nodes:List Node}(hB:qa2 nodes)(k:List Bs)(a b c d:Int):qa2 (setQ nodes k a b c d):=fun x hx y hy e=>by
 obtain⟨x',pE,rfl⟩:=xrq.1 hx;obtain⟨y',nu,rfl⟩:=xrq.1 hy;rw[(qcd k a b c d x').blk,(qcd k a b c d y').blk]at e;rw[hB x' pE y' nu e]
theorem qw8{g:Nat}{t:TypeId}(h:Blk w g t #[.int .i64 0,.int .i64 0])(a b:Value):Blk ((w.setCell ⟨g,0,none⟩ a).setCell ⟨g,1,none⟩ b) g t #[a,b]:=by
 have:=(h.set 0 a).set 1 b
 simpa using this
theorem qih{p q:Prop}(h:p)(k:p->q):q:=k h
theorem qes{s:Bs}(h:qab s=[]):s=[]:=by
 by_cases e:s=[]
 ·exact e
 ·unfold qab at h;rw[if_neg e]at h
  have:=qg9 s
  rw[h]at this
  simp at this
theorem qgb{nodes:List Node}{s:Bs}{b:Int}(h:qdy nodes s ok a b=0):qas s=true/\s≠[]/\∃n,findKey nodes (qab s)=some n/\ok=true/\(n.leaf=false->a=0/\b=0):=by
 unfold qdy at h
 split at h
 ·cases h
 rename_i h1
 split at h
 ·cases h
 rename_i h2
 split at h
 ·cases h
 rename_i n hn
 split at h
 ·cases h
 rename_i h3
 split at h
 ·cases h
 rename_i h4
 refine⟨by cases hh:qas s;simp[hh]at h1;rfl,h2,n,hn,by cases ok;simp at h3;rfl,fun hl=>?_⟩
 rw[hl]at h4
 simp at h4
 exact h4
theorem qvg{nodes:List Node}(T:Tree nodes)(hn:n∈nodes)(hl:n.leaf=true):pn0 nodes n.key=n.n0/\pn1 nodes n.key=n.n1:=by
 have hu:under nodes n.key=[n]:=by
  have hp:(under nodes n.key).Perm [n]:=by
   refine qg2 (T.nd.filter _) (by simp) (fun x=>?_)
   simp only[under,xrr,List.mem_singleton,xrw]
   constructor
   ·rintro⟨h1,h2⟩
    exact(T.inj n hn x h1 (qik T hn hl _ x h1 rfl h2)).symm
   ·rintro rfl
    exact⟨hn,List.prefix_rfl⟩
  exact List.perm_singleton.1 hp
 unfold pn0 pn1;rw[hu]
 simp[sum0,sum1]
theorem qrj{nodes:List Node}(T:Tree nodes)(hn:n∈nodes)(a b c d:Int):(n.qbb a b c d).qbb (pn0 nodes n.key) (pn1 nodes n.key) n.b0 n.b1=n:=by
 obtain⟨blk,key,leaf,n0,n1,b0,b1,up,sl,kids⟩:=n
 cases leaf
 ·simp[Node.qbb]
 ·have:=qvg T hn rfl
  simp only at this
  simp[Node.qbb,this.1,this.2]
theorem qvy{nodes:List Node}(T0:Tree nodes){bt:Nat}{r:Node}{vw va:Value}{ws as_:List Pw}(h:TwAt w nodes bt r ai vw va ws as_)(hr:r∈nodes)(a_:r.key=[])(s:ByteArray)(hs:s.size<=2000000)(a b c d:Int)(he:qdy nodes (bl s) (qbk [(a,b),(c,d)]) a b=er)(h0:er≠0):
  Calls prog 56 #[.pointer (some ⟨bt,0,none⟩),.string s,.agg #[.int .i64 a,.int .i64 b],.agg #[.int .i64 c,.int .i64 d]] w fun e w'=>e=.returned (.int .i64 er)/\Below w.heap.size w w':=by
 have cn:=fun W (hW:Below w.heap.size w W)=>qfa T0 (h.below hW) hr a_ s hs a b c d
 rw[he]at cn;have b0:Blk ((w.alloc (.cells #[.int .i64 a,.int .i64 b] 35)).alloc (.cells #[.int .i64 c,.int .i64 d] 35)) w.heap.size 35 #[.int .i64 a,.int .i64 b]:=(Blk.new w 35 _).alloc _;have b1:Blk ((w.alloc (.cells #[.int .i64 a,.int .i64 b] 35)).alloc (.cells #[.int .i64 c,.int .i64 d] 35)) (w.heap.size+1) 35 #[.int .i64 c,.int .i64 d]:=Blk.new' (by simp);have aW:(er != 0)=true:=by simpa using h0
 clear h he
 go_enter func56,ntmps56
 go_wp2_with (go_at_call 84;refine(cn _ (by exact bel2)).mono ?_;rintro e w1 ⟨rfl,aa⟩)
 refine xrn (v:=.int .i64 er) (by simp[results,results56,go_sem]) rfl ⟨rfl,?_⟩
 exact qac (by exact bel2) aa
theorem qvz{nodes:List Node}(T0:Tree nodes)(hB:qa2 nodes){bt:Nat}{r:Node}{vw va:Value}{ws as_:List Pw}(h:TwAt w nodes bt r ai vw va ws as_)(hr:r∈nodes)(a_:r.key=[])(s:ByteArray)(hs:s.size<=2000000)(a b c d:Int)(he:qdy nodes (bl s) (qbk [(a,b),(c,d)]) a b=0)(hf:findKey nodes (qab (bl s))=some n):
  Calls prog 56 #[.pointer (some ⟨bt,0,none⟩),.string s,.agg #[.int .i64 a,.int .i64 b],.agg #[.int .i64 c,.int .i64 d]] w fun e w'=>e=.returned (.int .i64 (qcn (setQ nodes n.key a b c d) as_))/\(qcn (setQ nodes n.key a b c d) as_=0->QM w (n.qbb a b c d) w')/\(qcn (setQ nodes n.key a b c d) as_≠0->QM w n w'):=by
 obtain⟨hv,dt,n',dm,cf,eW⟩:=qgb he;rw[hf]at dm;cases dm;obtain⟨hn,bR⟩:=qan hf;have eh:qao a b=true/\qao c d=true:=by simpa [qbk] using cf
 have fk:n.key≠[]:=by rw[bR];intro e;exact dt (qes e)
 have T1:=T0.setQ fk eh.1 eh.2;have cn:=fun W (hW:Below w.heap.size w W)=>qfa T0 (h.below hW) hr a_ s hs a b c d
 rw[he]at cn;have ak:=fun W (hW:Below w.heap.size w W) v hv=>qcs T0 hr a_ s hs W (h.below hW).ins v hv
 rw[hf]at ak;have jL:=fun W (hW:Below w.heap.size w W)=>qcy T0 hn W (h.below hW).ins
 have qV:=fun W (hW:Below w.heap.size w W)=>qj7 n.blk n.b0 n.b1 W (((h.below hW).ins n hn).cell rfl) (((h.below hW).ins n hn).cell rfl)
 have de:n.sl.ownBlock≠some n.blk:=qag (h.ins n hn).row (show Blk w n.blk 136 n.cells from(h.ins n hn).at_) (by decide);have bG:=fun W (hW:Below w.heap.size w W) g0 g1 g2 g3 g4 b0 b1 b2 b3 b4=>qk0 (w:=W) (bt:=bt) (n:=n) (a:=a) (b:=b) (c:=c) (d:=d) (m0:=pn0 nodes n.key) (m1:=pn1 nodes n.key) (er:=qcn (setQ nodes n.key a b c d) as_) ((h.below hW).ins n hn) de ((h.below hW).bk.at_.lt) (g0:=g0) (g1:=g1) (g2:=g2) (g3:=g3) (g4:=g4) b0 b1 b2 b3 b4 (qrj T0 hn a b c d)
  (fun W1 hM=>qd2 T1 (hB.setQ _ _ _ _ _) ((h.below hW).setQ hB T0 hn hM.2 hM.1) (xrj hr) ((qcd n.key a b c d r).key.trans a_))
 have aI:∀W m w',m.blk=n.blk->Below w.heap.size w W->QM W m w'->QM w m w':=fun W m w' hm hW hM=>⟨hM.1,(Keep.new hW).trans hM.2⟩
 generalize qcn (setQ nodes n.key a b c d) as_=er at bG ⊢;have bC:∀W,Below w.heap.size w W->W.cell? ⟨bt,0,none⟩=some (nptr r.blk):=fun W (hW:Below w.heap.size w W)=>(h.below hW).bk.at_.cell 0
 have cC:=h.bk.at_.lt;simp only[nptr]at bC ak jL;generalize pn0 nodes n.key=m0 at *;generalize pn1 nodes n.key=m1 at *;have b0:Blk ((w.alloc (.cells #[.int .i64 a,.int .i64 b] 35)).alloc (.cells #[.int .i64 c,.int .i64 d] 35)) w.heap.size 35 #[.int .i64 a,.int .i64 b]:=(Blk.new w 35 _).alloc _;have b1:Blk ((w.alloc (.cells #[.int .i64 a,.int .i64 b] 35)).alloc (.cells #[.int .i64 c,.int .i64 d] 35)) (w.heap.size+1) 35 #[.int .i64 c,.int .i64 d]:=Blk.new' (by simp);have jJ:∀(fn:Fn) (first cap:Array Value) (w:World),(Instr.makeFunc fn first cap).run prog w=.ok (.func fn first cap) w:=fun _ _ _ _=>rfl
 clear h he hf cf eW T1
 go_enter func56,ntmps56
 go_upto_region 5 with (first
  |(go_at_call 84;refine(cn _ (by exact bel2)).mono ?_;rintro e w1 ⟨rfl,aa⟩;have au:Below w.heap.size w w1:=qac (by exact bel2) aa;have gV:=bC w1 au;have c0:=b0.below aa (by simp<;>omega);have c1:=b1.below aa (by simp<;>omega))
  |(go_at_call 63;refine(ak _ au (.pointer (some ⟨n.blk,0,none⟩)) rfl).mono ?_;rintro e w2 ⟨rfl,ag⟩;have aR:Below w.heap.size w w2:=qac au ag;have d0:=c0.below ag c0.lt;have d1:=c1.below ag c1.lt))
 have bE:Below w.heap.size w (w2.alloc (.cells #[.pointer (some ⟨n.blk,0,none⟩)] 97)):=aR.alloc aR.size _;have bq:Blk (w2.alloc (.cells #[.pointer (some ⟨n.blk,0,none⟩)] 97)) w2.heap.size 97 #[.pointer (some ⟨n.blk,0,none⟩)]:=Blk.new w2 97 _;have k0:=d0.alloc (.cells #[.pointer (some ⟨n.blk,0,none⟩)] 97);have k1:=d1.alloc (.cells #[.pointer (some ⟨n.blk,0,none⟩)] 97);generalize w2.alloc (.cells #[.pointer (some ⟨n.blk,0,none⟩)] 97)=W0 at bE bq k0 k1 ⊢;generalize w2.heap.size=gq at bq ⊢;clear d0 d1 c0 c1 b0 b1 aa ag au aR gV cn ak bC;have cq:=bq.cell 0;have lq:=bq.lt;simp only[xq0,xq1,xq2]at cq;have fK:=bE.size;have nq:¬(gq=W0.heap.size):=by omega
 have Fg:¬(gq=W0.heap.size+1):=by omega
 go_cut [11,12] from 27 to 30 (fun q1 q2 wx=>∃g1 g2,q1=.pointer (some ⟨g1,0,none⟩)/\q2=.pointer (some ⟨g2,0,none⟩)/\Below w.heap.size w wx/\Blk wx g1 35 #[.int .i64 m0,.int .i64 m1]/\Blk wx g2 35 #[.int .i64 n.b0,.int .i64 n.b1]/\Below W0.heap.size W0 wx)
 case first =>
  go_region_held3 (fun w'=>w'.cell? ⟨gq,0,none⟩=some (.pointer (some ⟨n.blk,0,none⟩))) (first|go_keep|exact Blk.cell (vs:=#[.pointer (some ⟨n.blk,0,none⟩)]) (t:=97) (by exact blk3) 0)
   (first
   |(go_at_call 85;refine(jL _ (by exact bel2)).mono ?_;rintro e w3 ⟨rfl,aM⟩;have dX:Below W0.heap.size W0 w3:=qac (by exact bel2) aM;have fI:Below w.heap.size w w3:=qac bE dX;have lL:=dX.size;have CK:=fI.size;have uG:Blk w3 gq 97 #[.pointer (some ⟨n.blk,0,none⟩)]:=Blk.below (by exact blk2) aM (by first|omega|(simp<;>omega));have Az:=uG.cell 0;have EO:=uG.lt;have Df:¬(gq=w3.heap.size):=(by omega);have Dg:¬(gq=w3.heap.size+1):=(by omega);simp only[xq0,xq1,xq2]at Az;(try (refine qih (p:=Blk w3 W0.heap.size 35 #[.int .i64 0,.int .i64 0]) ?_ ?_;(focus (refine Blk.below ?_ aM ?_;(focus ((repeat (first|(with_reducible assumption)|((with_reducible refine Blk.new' ?_);simp;done)|(with_reducible refine Blk.alloc ?_ _)|(with_reducible refine Blk.drew ?_)|(with_reducible refine Blk.drewN ?_ _)));done));(focus (first|omega|(simp;done)|(simp;omega)))));intro z1;have xN:=z1.cell 0;have DK:=z1.cell 1;have DL:=z1.frozen 0;have FF:=z1.frozen 1;have DM:=z1.lt;simp only[xq0,xq1,xq2]at xN DK));(try (refine qih (p:=Blk w3 (W0.heap.size+1) 35 #[.int .i64 0,.int .i64 0]) ?_ ?_;(focus (refine Blk.below ?_ aM ?_;(focus ((repeat (first|(with_reducible assumption)|((with_reducible refine Blk.new' ?_);simp;done)|(with_reducible refine Blk.alloc ?_ _)|(with_reducible refine Blk.drew ?_)|(with_reducible refine Blk.drewN ?_ _)));done));(focus (first|omega|(simp;done)|(simp;omega)))));intro z2;have xO:=z2.cell 0;have DN:=z2.cell 1;have DO:=z2.frozen 0;have FG:=z2.frozen 1;have DP:=z2.lt;simp only[xq0,xq1,xq2]at xO DN)))
   |(go_at_call 86;refine(qV _ (by exact bel2)).mono ?_;rintro e w4 ⟨rfl,bm⟩;have yM:Below W0.heap.size W0 w4:=qac (by exact bel2) bm;have lF:Below w.heap.size w w4:=qac bE yM;have qc:=yM.size;have CL:=lF.size;have yl:Blk w4 gq 97 #[.pointer (some ⟨n.blk,0,none⟩)]:=Blk.below (by exact blk2) bm (by first|omega|(simp<;>omega));have A0:=yl.cell 0;have EP:=yl.lt;have Dh:¬(gq=w4.heap.size):=(by omega);have Di:¬(gq=w4.heap.size+1):=(by omega);simp only[xq0,xq1,xq2]at A0;(try (refine qih (p:=Blk w4 W0.heap.size 35 #[.int .i64 0,.int .i64 0]) ?_ ?_;(focus (refine Blk.below ?_ bm ?_;(focus ((repeat (first|(with_reducible assumption)|((with_reducible refine Blk.new' ?_);simp;done)|(with_reducible refine Blk.alloc ?_ _)|(with_reducible refine Blk.drew ?_)|(with_reducible refine Blk.drewN ?_ _)));done));(focus (first|omega|(simp;done)|(simp;omega)))));intro y1;have xJ:=y1.cell 0;have D7:=y1.cell 1;have D8:=y1.frozen 0;have FB:=y1.frozen 1;have D9:=y1.lt;simp only[xq0,xq1,xq2]at xJ D7));(try (refine qih (p:=Blk w4 (W0.heap.size+1) 35 #[.int .i64 0,.int .i64 0]) ?_ ?_;(focus (refine Blk.below ?_ bm ?_;(focus ((repeat (first|(with_reducible assumption)|((with_reducible refine Blk.new' ?_);simp;done)|(with_reducible refine Blk.alloc ?_ _)|(with_reducible refine Blk.drew ?_)|(with_reducible refine Blk.drewN ?_ _)));done));(focus (first|omega|(simp;done)|(simp;omega)))));intro y2;have xK:=y2.cell 0;have DA:=y2.cell 1;have DB:=y2.frozen 0;have FC:=y2.frozen 1;have DC:=y2.lt;simp only[xq0,xq1,xq2]at xK DA));(try (refine qih (p:=Blk w4 w3.heap.size 35 #[.int .i64 0,.int .i64 0]) ?_ ?_;(focus (refine Blk.below ?_ bm ?_;(focus ((repeat (first|(with_reducible assumption)|((with_reducible refine Blk.new' ?_);simp;done)|(with_reducible refine Blk.alloc ?_ _)|(with_reducible refine Blk.drew ?_)|(with_reducible refine Blk.drewN ?_ _)));done));(focus (first|omega|(simp;done)|(simp;omega)))));intro y3;have xL:=y3.cell 0;have DD:=y3.cell 1;have DE:=y3.frozen 0;have FD:=y3.frozen 1;have DG:=y3.lt;simp only[xq0,xq1,xq2]at xL DD));(try (refine qih (p:=Blk w4 (w3.heap.size+1) 35 #[.int .i64 0,.int .i64 0]) ?_ ?_;(focus (refine Blk.below ?_ bm ?_;(focus ((repeat (first|(with_reducible assumption)|((with_reducible refine Blk.new' ?_);simp;done)|(with_reducible refine Blk.alloc ?_ _)|(with_reducible refine Blk.drew ?_)|(with_reducible refine Blk.drewN ?_ _)));done));(focus (first|omega|(simp;done)|(simp;omega)))));intro y4;have xM:=y4.cell 0;have DH:=y4.cell 1;have DI:=y4.frozen 0;have FE:=y4.frozen 1;have DJ:=y4.lt;simp only[xq0,xq1,xq2]at xM DH))))
  all_goals go_wp2_with fail
  all_goals go_meet
  all_goals refine⟨_,_,rfl,rfl,(by exact bel2),?_,?_,(by exact bel2)⟩
  all_goals (repeat (first|(with_reducible assumption)|(with_reducible refine qw8 ?_ _ _)|((with_reducible refine Blk.new' ?_);first|(simp;done)|(simp;omega))|(with_reducible refine Blk.alloc ?_ _)|((with_reducible refine Blk.other ?_ _ _ ?_);rotate_left;(focus (first|omega|(simp;done)|(simp;omega))))))
 case rest =>
  obtain⟨g1,g2,rfl,rfl,lU,x1,x2,v9⟩:=hcut;have vE:=bG _ lU gq w.heap.size (w.heap.size+1) g1 g2 (bq.below v9 bq.lt) (k0.below v9 k0.lt) (k1.below v9 k1.lt) x1 x2;clear bG jL qV
  go_wp2_with (go_at_call 87;refine vE.mono ?_;rintro e w5 ⟨rfl,hM⟩)
  refine xrn (v:=.int .i64 er) (by simp[results,results56,go_sem]) rfl ⟨rfl,fun e=>aI _ _ _ rfl lU (hM.1 e),fun e=>aI _ _ _ rfl lU (hM.2 e)⟩
theorem qq9(L:List Ent)(h:SInv s)(he:s.evs=[]):(qal L s).evs.length<=990:=by
 have oa:s.Ws.length<=24:=h.wks.wks.len;obtain⟨I1,b1⟩:=qgv (f:=qaz L) (I:=SInv) 25 (fun s s' hs hf=>⟨(hs.own hf).1,(hs.own hf).2.2.2.2⟩) s.Ws.length s h;obtain⟨_,b2⟩:=qgv (f:=qap L) (I:=SInv) 1 (fun s s' hs hf=>⟨(hs.idle hf).1,by rw[(hs.idle hf).2.2.2.2];omega⟩) s.Ws.length _ I1;have e:qal L s=qbd (qap L) s.Ws.length (qbd (qaz L) s.Ws.length s):=rfl;rw[e];rw[he]at b1
 simp at b1
 have:25*s.Ws.length<=600:=by omega
 omega
def Tw.same(x:Tw)(err:Int):Out:=⟨err,x.L,x.Ws,x.cnt,x.st,[]⟩
def qjx (L:List Ent)(cnt:Int)(aT:SS):Out:=⟨0,L,aT.Ws,cnt,aT.st,aT.evs⟩
section
variable {τ : Nat->Tag}{t K:Nat}{W:World}{x:Tw}
theorem qev(h:qa3 τ t W x.bt x.nodes x.last x.vw x.va x.ws x.as_)(A:qf9 K x)(hb:Below W.heap.size W w')(err:Int):POut τ t W x.bt (x.same err) (.slice none 0 0) w':=by
 have hP:=h.keep (τ':=qcr τ W.heap.size) (T:=fun _=>False) (Keep.new hb) (fun _ _ h=>h.elim) (fun b hb=>qa6 hb)
 refine⟨qcr τ W.heap.size,x.nodes,x.vw,x.va,x.ws,x.as_,fun b hb=>qa6 hb,fun b hb=>.inl (qep hb),?_,A.L.symm,A.com,xrk _ _ _ _,(fun b hb=>by cases hb),Keep.new hb⟩
 show qa3 _ t w' x.bt x.nodes x.cnt x.vw x.va x.ws x.as_
 rw[A.cnt];exact hP
theorem qf9.inv(A:qf9 K x):SInv ⟨x.Ws,x.st,[]⟩:=A.com.inv
theorem qnb(A:qf9 K x){y:Ent}{e:Ending}(h0:qa3 τ t W x.bt x.nodes x.last x.vw x.va x.ws x.as_)(h:qjs τ t W x.bt x.nodes x.last x.Ws x.st err y e w'):
  ∃ev,e=.returned (.tuple #[ev,.int .i64 err])/\(err≠0->POut τ t W x.bt (x.same err) ev w')/\(err=0->POut τ t W x.bt (qjx (x.L++[y]) x.cnt (qal (x.L++[y]) ⟨x.Ws,x.st,[]⟩)) ev w'):=by
 rcases h with ⟨h1,rfl,hb⟩|⟨h1,τ',ar,aH,aO,aj,aK,ev,rfl,m1,m2,m3,m4,m5,m6,m7,m8⟩
 ·exact⟨_,rfl,fun _=>qev h0 A hb err,fun e=>absurd e h1⟩
 ·subst h1
  refine⟨ev,rfl,fun e=>absurd rfl e,fun _=>⟨τ',ar,aH,aO,aj,aK,m1,m2,?_,?_,?_,?_,m7,m8⟩⟩
  ·show qa3 τ' t w' x.bt ar x.cnt aH aO aj aK
   rw[A.cnt];exact m3
  ·show _=x.L++[y]
   rw[A.L];exact m4
  ·show Comm ar (qal (x.L++[y]) ⟨x.Ws,x.st,[]⟩).Ws x.cnt (qal (x.L++[y]) ⟨x.Ws,x.st,[]⟩).st aj aK
   rw[A.L,<- m4]
   refine Comm.settled m3.pr.tree A.inv (A.com.wkl.grown m4) A.com.cnt0 ?_
   rw[m4];exact m5
  ·show w'.ownsRow 0 60 2 ev (qal (x.L++[y]) ⟨x.Ws,x.st,[]⟩).evs.length (qam (qal (x.L++[y]) ⟨x.Ws,x.st,[]⟩).evs)
   rw[A.L];exact m6
variable {n₀ bw:Nat}{uj:List Tw}{r:Nat}
theorem qpo(hP:qa3 τ t W x.bt x.nodes x.last x.vw x.va x.ws x.as_)(A:qf9 K x){r:Node}(hr:x.nodes[0]?=some r)(I:SInv ⟨Ws,x.st,[]⟩)(hL:WkL x.nodes Ws cnt)(hc:0<=cnt) 
  (hs:SetT x.nodes x.bt r (.int .i64 cnt) x.vw x.va x.ws x.as_ (qal (x.nodes.map Node.ent) ⟨Ws,x.st,[]⟩) ev W w'):POut τ t W x.bt (qjx x.L cnt (qal x.L ⟨Ws,x.st,[]⟩)) ev w':=by
 obtain⟨τ',aH,aO,aj,aK,m1,m2,m3,m4,m5,m6,m7⟩:=hP.set hr hs
 refine⟨τ',x.nodes,aH,aO,aj,aK,m1,m2,m3,A.L.symm,?_,?_,m6,m7⟩
 ·show Comm x.nodes (qal x.L ⟨Ws,x.st,[]⟩).Ws cnt (qal x.L ⟨Ws,x.st,[]⟩).st aj aK
  rw[A.L]
  exact Comm.settled A.com.tree I hL hc m4
 ·show w'.ownsRow 0 60 2 ev (qal x.L ⟨Ws,x.st,[]⟩).evs.length (qam (qal x.L ⟨Ws,x.st,[]⟩).evs)
  rw[A.L];exact m5
end
def PMid (τ : Nat->Tag)(t:Nat)(W:World)(bt:Nat)(nodes:List Node)(last:Int)(vw va:Value)(ws as_:List Pw)(w':World):Prop :=
 ∃τ',(∀b,b<W.heap.size -> τ' b = τ b)/\(∀b,W.heap.size<=b -> τ' b=.free\/(τ' b).prog t)/\qa3 τ' t w' bt nodes last vw va ws as_/\Keep (fun b=>b<W.heap.size/\(τ b).prog t) W w'
section
variable {τ : Nat->Tag}{t:Nat}{W:World}{bt:Nat}{nodes:List Node}{last:Int}{vw va:Value}{ws as_:List Pw}
theorem PMid.from(hb:Below W.heap.size W W0)(h:PMid (qcr τ W.heap.size) t W0 bt nodes last vw va ws as_ w'):PMid τ t W bt nodes last vw va ws as_ w':=by
 obtain⟨τ',m1,m2,m3,m4⟩:=h;have hz:=hb.size
 refine⟨τ',fun b an=>by rw[m1 b (by omega),qa6 an],fun b oL=>?_,m3,(Keep.new hb).step m4 (fun b an e=>by have:=e.2;rw[qa6 an]at this;exact⟨an,this⟩)⟩
 by_cases h1:b<W0.heap.size
 ·left;rw[m1 b h1,qep oL]
 ·exact m2 b (by omega)
theorem qhg(h:PMid τ t W bt nodes last vw va ws as_ w1)(R:Rel nodes Ws ws as_)(I:SInv ⟨Ws,st,[]⟩)(hL:WkL nodes Ws last)(hc:0<=last):
  Calls prog 51 #[.pointer (some ⟨bt,0,none⟩),.int .i64 0] w1 fun e w'=>∃ev,e=.returned (.tuple #[ev,.int .i64 0])/\POut τ t W bt (qjx (nodes.map Node.ent) last (qal (nodes.map Node.ent) ⟨Ws,st,[]⟩)) ev w':=by
 obtain⟨τ1,g1,g2,g3,g6⟩:=h;obtain⟨r,hr,nr⟩:=g3.bk;obtain⟨eF,a_⟩:=qbq g3.pr.tree hr
 refine(qfb g3.pr.tree g3.pr.qdp nr eF a_ (s0:=⟨Ws,st,[]⟩) R I rfl).mono ?_
 rintro e w' ⟨fe,fc,ee,eC,fS,rfl,m1,m2,m3,m4,m5,m6,m7⟩
 obtain⟨τ2,ko,mn,gu,jn,k1,k2,k3,k4,k5,k6,k7⟩:=g3.set hr (last':=last) (ev:=ee) ⟨fe,fc,eC,fS,m1,m2,m3,m4,m5,m6,fun p hp=>.inl (m7 p hp)⟩;have hz:=g6.size
 refine⟨ee,rfl,τ2,nodes,ko,mn,gu,jn,fun b hb=>(k1 b (by omega)).trans (g1 b hb),fun b hb=>?_,k3,rfl,Comm.settled g3.pr.tree I hL hc k4,k5,fun b hb=>⟨by have:=(k6 b hb).1;omega,(k6 b hb).2⟩,g6.qbm k7 (fun b hb e=>⟨hb,by have:=e.2;rw[g1 b hb]at this;exact this⟩)⟩
 by_cases aa:b<w1.heap.size
 ·rw[k1 b aa];exact g2 b hb
 ·exact k2 b (by omega)
theorem PMid.setQ(h:qa3 τ t W bt nodes last vw va ws as_)(hn:n∈nodes)(fk:n.key≠[]){b:Int}(h1:qao a b=true)(h2:qao c d=true)(hM:QM W (n.qbb a b c d) w'):PMid τ t W bt (setQ nodes n.key a b c d) last vw va ws as_ w':=by
 have T:=h.pr.tree;have hB:=h.pr.qdp;obtain⟨bL,hk⟩:=hM;have cv:Keep (fun x=>x=n.blk) W w':=hk;obtain⟨i,hi⟩:=xre hn;have gg:=(h.pr.tags i n hi).1;obtain⟨r,hr,nr⟩:=h.bk;have xn:=nr.setQ hB T hn cv bL
 refine⟨qcr τ W.heap.size,fun b hb=>qa6 hb,fun b hb=>.inl (qep hb),?_,cv.qkn (fun x hx e=>⟨hx,by rw[e,gg];rfl⟩)⟩
 exact h.mapN (fun m _=>qcd n.key a b c d m) (T.setQ fk h1 h2) cv (fun x hx e=>⟨n,hn,e.symm⟩) (fun m hm=>xn.ins _ (xrj hm)) (fun x hx=>qa6 hx)
theorem PMid.back(h:qa3 τ t W bt nodes last vw va ws as_)(hn:n∈nodes)(hM:QM W n w'):PMid τ t W bt nodes last vw va ws as_ w':=by
 have T:=h.pr.tree;have hB:=h.pr.qdp;obtain⟨bL,hk⟩:=hM;obtain⟨i,hi⟩:=xre hn;have gg:=(h.pr.tags i n hi).1;have ej:Blk W n.blk 136 n.cells:=(h.pr.ins n hn).at_
 refine⟨qcr τ W.heap.size,fun b hb=>qa6 hb,fun b hb=>.inl (qep hb),?_,hk.qkn (fun x hx e=>⟨hx,by rw[e,gg];rfl⟩)⟩
 have:=h.mapN (τ':=qcr τ W.heap.size) (f:=id) (fun m _=>⟨rfl,rfl,rfl,rfl,rfl,rfl⟩) (by simpa using T) hk (fun x hx e=>⟨n,hn,e.symm⟩) (fun m hm=>?_) (fun x hx=>qa6 hx)
 ·simpa using this
 ·by_cases e:m.blk=n.blk
  ·rw[hB m hm n hn e];exact bL
  ·exact(h.pr.ins m hm).keep hk e (fun g hg e2=>qag (h.pr.ins m hm).row ej (by decide) (by rw[hg,e2]))
end
def qg3 (x:Tw)(s:Bs)(a b c d:Int):Out :=
 match findKey x.nodes (qab s) with
 |none=>x.same (qdy x.nodes s (qbk [(a,b),(c,d)]) a b)
 |some n=>if qdy x.nodes s (qbk [(a,b),(c,d)]) a b≠0 then x.same (qdy x.nodes s (qbk [(a,b),(c,d)]) a b) else if qcn (setQ x.nodes n.key a b c d) x.as_≠0 then x.same (qcn (setQ x.nodes n.key a b c d) x.as_)
  else qjx ((setQ x.nodes n.key a b c d).map Node.ent) x.cnt (qal ((setQ x.nodes n.key a b c d).map Node.ent) ⟨x.Ws,x.st,[]⟩)
theorem WkL.mapN{nodes:List Node}(h:WkL nodes Ws cnt){f:Node->Node}(hf:∀n∈nodes,qrr n (f n)):WkL (nodes.map f) Ws cnt :=
 ⟨fun y hy=>by
  obtain⟨n,hn,e1,e2⟩:=h.leaf y hy
  exact⟨f n,xrj hn,(hf n hn).key.trans e1,(hf n hn).leaf.trans e2⟩,h.num⟩
theorem Rel.mapN{nodes:List Node}{ws as_:List Pw}(R:Rel nodes Ws ws as_){f:Node->Node}(hf:∀n∈nodes,qrr n (f n)):Rel (nodes.map f) Ws ws as_ :=
 R.qlp (fun n hn=>⟨f n,xrj hn,(hf n hn).blk,(hf n hn).key⟩)
theorem qho{W:World}{bt:Nat}(s:ByteArray)(a b c d:Int){M:World->Prop}{F:Value->World->Prop}
  (tu:∀W1,Below W.heap.size W W1->Calls prog 56 #[.pointer (some ⟨bt,0,none⟩),.string s,.agg #[.int .i64 a,.int .i64 b],.agg #[.int .i64 c,.int .i64 d]] W1 fun e w'=>e=.returned (.int .i64 er)/\M w')
  (qB:∀W1,M W1->Calls prog 51 #[.pointer (some ⟨bt,0,none⟩),.int .i64 er] W1 fun e w'=>∃ev,e=.returned (.tuple #[ev,.int .i64 er])/\F ev w') :
  Calls prog 29 #[.pointer (some ⟨bt,0,none⟩),.string s,.agg #[.int .i64 a,.int .i64 b],.agg #[.int .i64 c,.int .i64 d]] W fun e w'=>∃ev,e=.returned (.tuple #[ev,.int .i64 er])/\F ev w':=by
 have b0:Blk ((W.alloc (.cells #[.int .i64 a,.int .i64 b] 35)).alloc (.cells #[.int .i64 c,.int .i64 d] 35)) W.heap.size 35 #[.int .i64 a,.int .i64 b]:=(Blk.new W 35 _).alloc _;have b1:Blk ((W.alloc (.cells #[.int .i64 a,.int .i64 b] 35)).alloc (.cells #[.int .i64 c,.int .i64 d] 35)) (W.heap.size+1) 35 #[.int .i64 c,.int .i64 d]:=Blk.new' (by simp)
 go_enter func29,ntmps29
 go_wp2_with (first
  |(go_at_call 56;refine(tu _ (by exact bel2)).mono ?_;rintro e w1 ⟨rfl,hM⟩)
  |(go_at_call 51;refine(qB _ hM).mono ?_;rintro e w2 ⟨ev,rfl,hF⟩))
 exact xrn (v:=.tuple #[ev,.int .i64 er]) (by simp[results,results29,go_sem]) rfl ⟨ev,rfl,hF⟩
theorem qzf{τ : Nat->Tag}{t K:Nat}{W:World}{x:Tw}(hP:qa3 τ t W x.bt x.nodes x.last x.vw x.va x.ws x.as_)(A:qf9 K x)(s:ByteArray)(hs:s.size<=2000000)(a b c d:Int):
  Calls prog 29 #[.pointer (some ⟨x.bt,0,none⟩),.string s,.agg #[.int .i64 a,.int .i64 b],.agg #[.int .i64 c,.int .i64 d]] W fun e w'=>∃ev,e=.returned (.tuple #[ev,.int .i64 (qg3 x (bl s) a b c d).err])/\POut τ t W x.bt (qg3 x (bl s) a b c d) ev w':=by
 obtain⟨r,eP,hb⟩:=hP.bk;obtain⟨eF,a_⟩:=qbq hP.pr.tree eP;have T:=hP.pr.tree;have hB:=hP.pr.qdp;have yL:=fun W1 (hW:Below W.heap.size W W1)=>hP.keep (τ':=qcr τ W.heap.size) (T:=fun _=>False) (Keep.new hW) (fun _ _ h=>h.elim) (fun b hb=>qa6 hb)
 by_cases he:qdy x.nodes (bl s) (qbk [(a,b),(c,d)]) a b=0
 ·obtain⟨hv,dt,n,hf,cf,eW⟩:=qgb he;obtain⟨hn,bR⟩:=qan hf;have eh:qao a b=true/\qao c d=true:=by simpa [qbk] using cf
  have fk:n.key≠[]:=by rw[bR];intro e;exact dt (qes e)
  have tu:=fun W1 (hW:Below W.heap.size W W1)=>qvz T hB (hb.below hW) eF a_ s hs a b c d he hf
  have ho:qg3 x (bl s) a b c d=if qcn (setQ x.nodes n.key a b c d) x.as_≠0 then x.same (qcn (setQ x.nodes n.key a b c d) x.as_) else qjx ((setQ x.nodes n.key a b c d).map Node.ent) x.cnt (qal ((setQ x.nodes n.key a b c d).map Node.ent) ⟨x.Ws,x.st,[]⟩):=by
   unfold qg3;simp only[hf];rw[if_neg (by simpa using he)]
  by_cases h2:qcn (setQ x.nodes n.key a b c d) x.as_=0
  ·rw[if_neg (by simpa using h2)]at ho;rw[ho]
   refine qho (M:=PMid τ t W x.bt (setQ x.nodes n.key a b c d) x.last x.vw x.va x.ws x.as_) s a b c d (fun W1 hW=>(tu W1 hW).mono fun e w' h=>?_) (fun W1 hM=>?_)
   ·obtain⟨h3,h4,_⟩:=h;rw[h2]at h3
    exact⟨h3,PMid.from hW (PMid.setQ (yL W1 hW) hn fk eh.1 eh.2 (h4 h2))⟩
   ·have:=qhg hM (A.com.rel.mapN (fun m _=>qcd n.key a b c d m)) A.inv (by rw[<-A.cnt];exact A.com.wkl.mapN (fun m _=>qcd n.key a b c d m)) (by rw[<-A.cnt];exact A.com.cnt0)
    rw[<-A.cnt]at this
    exact this
  ·rw[if_pos h2]at ho;rw[ho]
   refine qho (M:=PMid τ t W x.bt x.nodes x.last x.vw x.va x.ws x.as_) s a b c d (fun W1 hW=>(tu W1 hW).mono fun e w' h=>?_) (fun W1 hM=>?_)
   ·obtain⟨h3,_,h4⟩:=h
    exact⟨h3,PMid.from hW (PMid.back (yL W1 hW) hn (h4 h2))⟩
   ·refine(qcq (w:=W1) (bt:=x.bt) h2).mono ?_
    rintro e w' ⟨rfl,rfl⟩
    obtain⟨τ',m1,m2,m3,m4⟩:=hM
    refine⟨_,rfl,τ',x.nodes,x.vw,x.va,x.ws,x.as_,m1,m2,?_,A.L.symm,A.com,xrk _ _ _ _,(fun b hb=>by cases hb),m4⟩
    show qa3 τ' t _ x.bt x.nodes x.cnt x.vw x.va x.ws x.as_
    rw[A.cnt];exact m3
 ·have ho:qg3 x (bl s) a b c d=x.same (qdy x.nodes (bl s) (qbk [(a,b),(c,d)]) a b):=by
   unfold qg3
   cases findKey x.nodes (qab (bl s)) with
   |none=>rfl
   |some n=>simp only[ne_eq,he,not_false_eq_true,if_true]
  rw[ho]
  refine qho (M:=fun w'=>Below W.heap.size W w') s a b c d (fun W1 hW=>(qvy T (hb.below hW) eF a_ s hs a b c d rfl he).mono fun e w' h=>⟨h.1,qac hW h.2⟩) (fun W1 hM=>?_)
  refine(qcq (w:=W1) (bt:=x.bt) he).mono ?_
  rintro e w' ⟨rfl,rfl⟩
  exact⟨_,rfl,qev hP A hM _⟩
theorem qhm{nodes:List Node}(T:Tree nodes){ws as_:List Pw}(R:Rel nodes Ws ws as_)(hW:Wks Ws):qcn nodes as_=if qcu (nodes.map Node.ent) Ws=true then 11 else 0:=by
 have key:∀n∈nodes,okQ nodes as_ n=!qtd (nodes.map Node.ent) Ws n.ent:=fun n hn=>by
  have hk:=(T.ok n hn).1;obtain⟨u0,u1⟩:=R.use hW hk;obtain⟨v0,v1⟩:=qb6 T hk;unfold okQ qtd sh0 sh1 abv;rw[u0,u1,v0,v1,Bool.eq_iff_iff]
  show(_&&_)=true↔(!(decide (ws0 (qah Ws (qaa n.key))+0>es0 (qai (nodes.map Node.ent) (qaa n.key))+n.b0)||decide (ws1 (qah Ws (qaa n.key))+0>es1 (qai (nodes.map Node.ent) (qaa n.key))+n.b1)))=true
  simp
  omega
 have e:nodes.all (okQ nodes as_)=!qcu (nodes.map Node.ent) Ws:=by
  unfold qcu;rw[List.any_map,List.not_any_eq_all_not];rw[Bool.eq_iff_iff,List.all_eq_true,List.all_eq_true]
  exact⟨fun h n hn=>by have:=h n hn;rw[key n hn]at this;simpa [Function.comp] using this,fun h n hn=>by have:=h n hn;rw[key n hn];simpa [Function.comp] using this⟩
 unfold qcn;rw[e]
 cases qcu (nodes.map Node.ent) Ws<;>rfl
theorem qnh(nodes:List Node)(k:List Bs)(a b c d:Int)(h:∀n∈nodes,n.key=k->n.leaf=false->n.n0=a/\n.n1=b):setL (nodes.map Node.ent) k a b c d=(setQ nodes k a b c d).map Node.ent:=by
 unfold setL setQ;rw[List.map_map,List.map_map]
 exact List.map_congr_left fun n hn=>by
  simp only[Function.comp]
  by_cases hk:n.key=k
  ·rw[if_pos (show n.ent.key=k from hk),if_pos hk]
   have:=h n hn hk
   cases hl:n.leaf
   ·obtain⟨e1,e2⟩:=this hl
    simp[Ent.qbb,Node.qbb,Node.ent,hl,e1,e2]
   ·simp[Ent.qbb,Node.qbb,Node.ent,hl]
  ·rw[if_neg (show ¬n.ent.key=k from hk),if_neg hk]
theorem qny(nodes:List Node)(s:Bs)(ok:Bool)(a b:Int):qnx (nodes.map Node.ent) s ok a b=qdy nodes s ok a b:=by
 unfold qnx qdy errF;rw[qcb]
 by_cases h1:qas s=false
 ·simp[h1]
 ·by_cases h2:s=[]
  ·rw[if_neg h1,if_pos h2,if_neg h1,if_pos h2];rfl
  ·cases h3:findKey nodes (qab s) with
   |none=>simp[h1,h2]
   |some n=>simp[h1,h2,Node.ent]
section
variable {n₀ : Nat}{τ : Nat->Tag}{W:World}{bw:Nat}{uj:List Tw}{K t:Nat}{x:Tw}
end
end Go.Proofs.YtphclnolomgjoaaGreatDoor
