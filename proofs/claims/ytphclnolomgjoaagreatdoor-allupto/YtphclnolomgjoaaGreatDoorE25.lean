import Derived.Test.YtphclnolomgjoaaGreatDoorE23
import Derived.Test.YtphclnolomgjoaaGreatDoorE19
import Derived.Test.YtphclnolomgjoaaGreatDoorCards
import Derived.Test.YtphclnolomgjoaaGreatDoorTie
import Derived.ProofKit
import Derived.OpenShut
import Derived.Deep.Slices
import Derived.Deep.DeepHandedRow
import Derived.Carry
import Derived.Lay
set_option linter.unusedVariables false
set_option linter.unusedSimpArgs false
set_option maxRecDepth 100000
set_option maxHeartbeats 4000000
namespace Go.Proofs.YtphclnolomgjoaaGreatDoor
open Go.Proofs.Tryz
section
open Go.RowKit
variable {W:World}{ao:Option Addr}{cap:Nat}
structure OpC where
 k:Int
 t:Int
 s:ByteArray
 s2:ByteArray
 a0:Int
 a1:Int
 c0:Int
 c1:Int
 nm:Int
def OpC.cells(o:OpC):Array Value:=#[vI o.k,vI o.t,vG o.s,vG o.s2,vI o.a0,vI o.a1,vI o.c0,vI o.c1,vI o.nm]
def ZB (W:World)(ao:Option Addr)(len:Nat)(O:Nat->OpC):Prop :=
 ∀i,i<len->∃b a,ao=some (vA b a)/\b<W.heap.size/\W.cell? (vA b (a+i*9))=some (vI (O i).k)/\W.cell? (vA b (a+i*9+1))=some (vI (O i).t)/\W.cell? (vA b (a+i*9+2))=some (vG (O i).s)/\W.cell? (vA b (a+i*9+3))=some (vG (O i).s2) /\
  W.cell? (vA b (a+i*9+4))=some (vI (O i).a0)/\W.cell? (vA b (a+i*9+5))=some (vI (O i).a1)/\W.cell? (vA b (a+i*9+6))=some (vI (O i).c0)/\W.cell? (vA b (a+i*9+7))=some (vI (O i).c1)/\W.cell? (vA b (a+i*9+8))=some (vI (O i).nm)
theorem oy{len:Nat}(R:len<=cap)(K:cap<=maxLen){O:Nat->OpC}(r:ZB W ao len O)(zn:Int){A:Nat->World->Prop}
  (l:∀w,Bw W w->zg w W.heap.size 84 #[v0_,v0_,v0_,v0_,v0_] ->
   Calls prog 36 #[vP W.heap.size,.agg #[vI 1,vI 0,vG ⟨#[]⟩,vG ⟨#[]⟩,vI 0,vI 0,vI 0,vI 0,vI 0]] w fun e w'=>e=vR (.bool true)/\A 1 w')
  (m:∀w,A 1 w->Calls prog 36 #[vP W.heap.size,.agg #[vI 3,vI 0,vG ⟨#[97]⟩,vG ⟨#[]⟩,vI 10,vI 10,vI 5,vI 0,vI 0]] w fun e w'=>e=vR (.bool true)/\A 2 w')
  (n:∀w,A 2 w->Calls prog 36 #[vP W.heap.size,.agg #[vI 4,vI 0,vG ⟨#[97]⟩,vG ⟨#[]⟩,vI 0,vI 0,vI 0,vI 0,vI 0]] w fun e w'=>e=vR (.bool true)/\A 3 w')
  (h3:∀i,i<len->(O i).k<=zn->∀w,A (3+i) w->Calls prog 36 #[vP W.heap.size,.agg #[vI (O i).k,vI (O i).t,vG (O i).s,vG (O i).s2,vI (O i).a0,vI (O i).a1,vI (O i).c0,vI (O i).c1,vI (O i).nm]] w fun e w'=>e=vR (.bool true)/\A (3+(i+1)) w')
  (g:∀i,i<=len->∀w,A (3+i) w->Calls prog 37 #[vP W.heap.size] w fun e w'=>e=vR (.bool true)/\A (3+i) w')
  (q:∀i w,A i w->Bw W w/\A (i+1) w) :
  Calls prog 14 #[.slice ao len cap,vI zn] W fun e w'=>e=vR (.bool true)/\Bw W w':=by
 have F:Hid (ZB W ao len O):=r;have f:Hid (∀i w,A i w->Bw W w/\A (i+1) w):=q;clear r q;have P:len<=9223372036854775807:=by unfold maxLen at K;omega
 go_enter func14,ntmps14
 go_wp2_with (first
  |(go_at_call 36;refine(n _ L).mono ?_;rintro e ca ⟨rfl,M⟩)
  |(go_at_call 36;refine(m _ I).mono ?_;rintro e ba ⟨rfl,L⟩)
  |(go_at_call 36;refine(l _ cl s6).mono ?_;rintro e aa ⟨rfl,I⟩))
 go_loopw [6,7] (fun ok i wr=>ok=.bool true/\∃k:Nat,k<=len/\i=vI k/\A (3+k) wr) (fun _ i _=>len-(intOf i).toNat)
 case atStart=>exact⟨rfl,0,Nat.zero_le _,rfl,M⟩
 case round =>
  obtain⟨rfl,k,Q,rfl,d⟩:=hrel
  by_cases o:k<len
  ·obtain⟨b,c,rfl,hb,v,x,q2,y,z,B,C,D,E⟩:=F.out k o;have a:=(f.out _ _ d).1;have S:=(a.cell (p:=vA b (c+k*9)) hb).trans v;have T:=(a.cell (p:=vA b (c+k*9+1)) hb).trans x;have U:=(a.cell (p:=vA b (c+k*9+2)) hb).trans q2;have V:=(a.cell (p:=vA b (c+k*9+3)) hb).trans y;have r4:=(a.cell (p:=vA b (c+k*9+4)) hb).trans z;have r5:=(a.cell (p:=vA b (c+k*9+5)) hb).trans B;have X:=(a.cell (p:=vA b (c+k*9+6)) hb).trans C;have Y:=(a.cell (p:=vA b (c+k*9+7)) hb).trans D;have Z:=(a.cell (p:=vA b (c+k*9+8)) hb).trans E;clear v x q2 y z B C D E;have u:=(f.out _ _ d).2
   by_cases J:(O k).k<=zn
   ·have H:=h3 k o J;have h:=g (k+1) o_;clear h3 g l m n u
    go_wp2_with (first
     |(go_at_call 36;refine(H _ d).mono ?_;rintro e da ⟨rfl,G⟩)
     |(go_at_call 37;refine(h _ G).mono ?_;rintro e N ⟨rfl,j⟩))
    exact⟨⟨rfl,k+1,o_,by go_num,j⟩,by simp[intOf];omega⟩
   ·have h:=g k o_;clear h3 g l m n u
    go_wp2_with (go_at_call 37;refine(h _ d).mono ?_;rintro e N ⟨rfl,j⟩)
    exact⟨⟨rfl,k+1,o_,by go_num,(f.out _ _ j).2⟩,by simp[intOf];omega⟩
  ·go_wp2
   go_ret
   exact⟨rfl,(f.out _ _ d).1⟩
end
section
open Go.RowKit
variable {P:Program}{W w:World}{bw:Nat}{bO bT a cC cD:Value}
theorem kx(w:World):Calls prog 38 #[] w fun e w'=>e=vR (vP (w.heap.size+2)) /\
  w'=((w.alloc (.cells #[vI 0,vI 0] 35)).alloc (.cells #[vG ⟨#[]⟩,.bool false,vI 0,vI 0,vI 0,vI 0,.pointer none,v0_] 136)).alloc (.cells #[vP (w.heap.size+1),vI 0,v0_,v0_] 102):=by
 go_enter func38,ntmps38
 go_wp2_with (go_at_call 54;refine(cQ _ _ _).mono ?_;rintro e b ⟨rfl,a⟩;subst a)
 go_ret
 exact⟨s_,rfl⟩
theorem p8(w:World):Calls prog 65 #[] w fun e w'=>e=vR (vP (w.heap.size+1)) /\
  w'=(w.alloc (.cells #[vG ⟨#[]⟩,.bool false,vI 0,vI 0,vI 0,vI 0] 163)).alloc (.cells #[vS w.heap.size 1 1,v0_,vI 0,vI 0] 167):=by
 go_enter func65,ntmps65
 go_wp2
 go_ret
 exact⟨s_,rfl⟩
def Yf (b:Nat):zc:={ze:=b,zb:=[],zj:=false,n0:=0,n1:=0,b0:=0,b1:=0,up:=none,sl:=v0_,zv:=[]}
theorem fk(b:Nat):zr [Yf b]:=by
 refine⟨⟨Yf b,rfl,rfl,rfl,rfl,rfl⟩,?_,s_,?_,?_,?_,?_,?_,s_⟩
 ·intro n a m c _;simp at a c;rw[a,c]
 ·intro n a;simp at a;subst a;exact⟨rfl,by simp[Yf]⟩
 ·intro n a;simp at a;subst a;simp[Yf]
 ·intro n a _;simp at a;subst a;rfl
 ·intro n a k x d;simp at a;subst a;simp[Yf]at d
 ·intro p hp;simp at hp;subst hp
  refine⟨[],rfl,fun k=>?_,s_⟩
  simp only[List.not_mem_nil,List.mem_singleton,false_iff,not_and]
  rintro rfl ⟨x,e⟩;simp[Yf]at e
theorem i44a:(prog.info? 128).map (fun i=>(i.size,i.bytes))=some (2,16):=k_
theorem i44b:(prog.info? 128).bind (fun i=>i.zero)=some (.agg #[.pointer none,.pointer none]):=k_
theorem l8:Wx 128 2 16:=XD i44a i44b rfl
theorem un26:prog.underlying 79=some (.slice 128):=k_
theorem su(w:World):Calls prog 38 #[] w fun e w'=>∃nd bt,e=vR (vP bt)/\Bw w w'/\zg w' nd 136 #[vG ⟨#[]⟩,.bool false,vI 0,vI 0,vI 0,vI 0,.pointer none,v0_]/\zg w' bt 102 #[vP nd,vI 0,v0_,v0_]/\w.heap.size<=nd/\nd<bt/\bt<w'.heap.size:=by
 refine(kx w).mono ?_
 rintro e w' ⟨rfl,rfl⟩
 refine⟨w.heap.size+1,w.heap.size+2,rfl,?_,?_,zg.new' s_,o_,o_,s_⟩
 ·exact(((Below.refl _ _).alloc (Nat.le_refl _) _).alloc s_ _).alloc t_ _
 ·exact(zg.new' s_).alloc _
theorem oD(w:World):Calls prog 65 #[] w fun e w'=>∃rr br,e=vR (vP br)/\Bw w w'/\zg w' rr 163 #[vG ⟨#[]⟩,.bool false,vI 0,vI 0,vI 0,vI 0]/\zg w' br 167 #[vS rr 1 1,v0_,vI 0,vI 0]/\w.heap.size<=rr/\rr<br/\br<w'.heap.size:=by
 refine(p8 w).mono ?_
 rintro e w' ⟨rfl,rfl⟩
 refine⟨w.heap.size,w.heap.size+1,rfl,?_,?_,zg.new' s_,o_,o_,s_⟩
 ·exact((Below.refl _ _).alloc (Nat.le_refl _) _).alloc s_ _
 ·exact(zg.new' rfl).alloc _
structure NewP (W:World) (bw k:Nat) (a:Value) (cells:List Value) (op:Array Value) (U:World) (nd bt rr br gT cT:Nat) (w':World):Prop where
 u:Bw W U
 nd_:zg U nd 136 #[vG ⟨#[]⟩,.bool false,vI 0,vI 0,vI 0,vI 0,.pointer none,v0_]
 bt_:zg U bt 102 #[vP nd,vI 0,v0_,v0_]
 rr_:zg U rr 163 #[vG ⟨#[]⟩,.bool false,vI 0,vI 0,vI 0,vI 0]
 br_:zg U br 167 #[vS rr 1 1,v0_,vI 0,vI 0]
 lo:W.heap.size<=nd/\nd<bt/\bt<rr/\rr<br
 end_:∃wA,xq U a.ownBlock 128 2 (k+1) (cells++[vP bt,vP br]) gT cT wA/\w'=wA.setCell (vA bw 0) (vS gT (k+1) cT)
theorem tz(w:World):Sem.run prog (callFunc 65 #[]) w=.ok (.enter 65 #[]) w:=k_
theorem mY{d:Array Oper}{o:Oper}{a:Act}{K:Act->World->Prop}{Q:Exit->Act->World->Prop}{E:Prop}{R:Value->World->Prop}(f:Nat)
  (k:o.guard=none) (c:o.op=Op.call {callee:=Callee.value (Operand.func f),args:=#[],argTypes:=#[]}) (j:Sem.run P (callFunc f #[]) w=.ok (.enter f #[]) w)
  (i:Calls P f #[] w fun e w'=>∃v,e=vR v/\R v w') (g:∀b w',R b w'->K (a.put o.dst b) w') :
  if Region.wanted o (yielded d a.tmps)=true then Oper.wp P o a w K Q else E:=by
 rw[if_pos (by simp[Region.wanted,k])];unfold Oper.wp
 simp[c,go_sem]
 rw[j]
 refine i.mono ?_
 rintro e w' ⟨v,rfl,h⟩
 exact g v w' h
theorem sv{k:Nat}(hb:zg W bw 84 #[a,bT,cD,bO,cC]){cells:List Value}(p:W.ownsRow 0 128 2 a k cells)(aa:k<=100000000)(D:a.ownBlock≠some bw)(s s2:ByteArray)(T a0 a1 c0 c1 nm:Int):
  Calls prog 36 #[vP bw,.agg #[vI 1,vI T,vG s,vG s2,vI a0,vI a1,vI c0,vI c1,vI nm]] W
   fun e w'=>e=vR (.bool true)/\∃U nd bt rr br d c,NewP W bw k a cells #[] U nd bt rr br d c w':=by
 obtain⟨m,j,rfl⟩:=Xs p;have G:=fun W' (h:W'.ownsRow 0 128 2 (.slice m k j) k cells) w (bt br:Nat) (F:zg W' w 128 #[vP bt,vP br]) =>
  Wv un26 l8 o_ W' _ k cells h w 1 1 o_ [vP bt,vP br] rfl F (by intro u t;simp at t;rcases t with rfl|rfl<;>rfl) (by unfold maxLen;omega) o_
 have o:=hb.lt;have A:=hb.cell 0;simp only[s7]at A
 go_enter func36,ntmps36
 go_wp2_with (go_at_call 38;refine(su _).mono ?_;rintro e M ⟨nd,bt,rfl,E,z,y,o1,o2,o3⟩;have n:Bw W M:=s5 cl E;have Y:=n.size;have g:=hb.below n o;have B:=g.cell 0;have V:=g.lt;simp only[s7]at B)
 have J:∀W',Calls prog 65 #[] W' fun e w'=>∃v,e=vR v/\∃rr br,v=vP br/\Below W'.heap.size W' w'/\zg w' rr 163 #[vG ⟨#[]⟩,.bool false,vI 0,vI 0,vI 0,vI 0]/\zg w' br 167 #[vS rr 1 1,v0_,vI 0,vI 0]/\W'.heap.size<=rr/\rr<br/\br<w'.heap.size:=fun W'=>(oD W').mono (fun e w' ⟨rr,br,H,I⟩=>⟨_,H,rr,br,rfl,I⟩)
 go_region_law (first
  |(refine mY 65 rfl rfl (tz _) (J _) ?_;rintro ca f ⟨rr,br,rfl,b,Q,O,K,L,ba⟩;have q:Bw W f:=s5 cl b;have Z:=q.size;have i:=hb.below q o;have C:=i.cell 0;have X:=i.lt;have S:zg f nd 136 #[vG ⟨#[]⟩,.bool false,vI 0,vI 0,vI 0,vI 0,.pointer none,v0_]:=zg.below s6 b z.lt;have R:zg f bt 102 #[vP nd,vI 0,v0_,v0_]:=zg.below s6 b y.lt;simp only[s7]at C)
  |(refine WL rfl (.tmp 46) (.tmp 50) 79 79 rfl _ _ ?_ ?_ (G _ ?_ ?_ bt br ?_) ?_;(focus (simp[Act.eval,Act.put]));(focus ((try simp[Act.eval,Act.put]);(try rfl)));(focus (exact s8 (T:=fun _=>False) p (zd.new cl) (fun _ _ h=>h)));(focus exact s6);rintro vA N ⟨d,c,rfl,l⟩;have r:=zg.zf (show zg _ bw 84 #[.slice m k j,bT,cD,bO,cC] by exact s6) l.zf D;have x:=r.cell 0;have P:=r.frozen 0;simp only[s7]at x))
 all_goals go_wp2
 all_goals go_ret
 all_goals exact⟨rfl,_,nd,bt,rr,br,d,c,⟨cl,s6,s6,s6,s6,⟨(by first|omega|(simp at o1;omega)),o2,(by first|omega|(simp at K;omega)),L⟩,N,l,rfl⟩⟩
end
section
open Go.ChangeShapes Go.WideShapes Go.ChangeAt Go.RowKit
variable {P:Program}{fuel:Nat}{c:List Value}{v:Value}
theorem nX{H:Type}(d:DataW H):1<=Rows.uptoBulk d:=by
 cases d with
 |lit l=>cases l<;>simp[Rows.uptoBulk]
 |nil=>simp[Rows.uptoBulk]
 |ptr d=>simp[Rows.uptoBulk]
 |slice elems e=>simp[Rows.uptoBulk]
 |agg parts=>simp[Rows.uptoBulk]
 |iface t d=>simp[Rows.uptoBulk]
 |map entries=>simp[Rows.uptoBulk]
 |held h=>simp[Rows.uptoBulk]
theorem dv{H:Type}{d:DataW H}{l:List (DataW H)}(h:d∈l):Rows.uptoBulk d<=Rows.uptoBulkAll l:=by
 induction l with
 |nil=>cases h
 |cons x r a =>
  simp only[Rows.uptoBulkAll]
  cases List.mem_cons.1 h with
  |inl e=>subst e;omega
  |inr e=>have:=a e;omega
theorem nG{H:Type}(l:List (DataW H)):l.length<=Rows.uptoBulkAll l:=by
 induction l with
 |nil=>simp[Rows.uptoBulkAll]
 |cons x r a=>have:=nX x;simp only[Rows.uptoBulkAll,List.length_cons];omega
theorem bX:prog.cellsOf 87=9:=k_
theorem Y5:prog.cellsOf 35=2:=k_
theorem Y_:prog.cellsOf 3=1:=k_
theorem ew:prog.cellsOf 9=1:=k_
section
variable {H:Type}{enc:TypeId×Value->H}{w:World}{base:Nat}{e:Nat->Bool}{held:Bool}
theorem iM(k:P.underlying 35=some (.array 2 3))(j:P.underlying 3=some (.int .i64))(Y5:P.cellsOf 35=2)(Y_:P.cellsOf 3=1){x:DataW H×List MemPlace}(h:DataW.trod enc P w base e held fuel 35 c=some x):∃a b:Int,c=[vI a,vI b]:=by
 obtain⟨xs,m,rfl,rfl,i,l,g⟩:=DataW.trod_array k h;rw[Y5]at i
 match c,i,xs,l with
 | [n,o],_,[p,q],_ =>
  have g0:=g 0 o_;have g1:=g 1 o_
  simp[Y_]at g0 g1
  obtain⟨a,d,_⟩:=DataW.trod_int j g0;obtain⟨b,f,_⟩:=DataW.trod_int j g1
  simp at d f
  exact⟨a,b,by rw[d,f]⟩
theorem kz{fs:Array Field}(QA:P.underlying 87=some (.struct fs))(v_:(fs.map fun f=>(f.type,f.offset))=#[(3,0),(3,1),(9,2),(9,3),(35,4),(35,6),(3,8)])(AQ:P.underlying 35=some (.array 2 3))(u3:P.underlying 3=some (.int .i64))(u9:P.underlying 9=some .string)(bX:P.cellsOf 87=9)(Y5:P.cellsOf 35=2)(Y_:P.cellsOf 3=1)(ew:P.cellsOf 9=1){x:DataW H×List MemPlace}(h:DataW.trod enc P w base e held fuel 87 c=some x):
  ∃o:OpC,c=o.cells.toList/\(o.s.size<=Rows.uptoBulk x.1/\o.s2.size<=Rows.uptoBulk x.1 /\ -9223372036854775808<=o.nm/\o.nm<=9223372036854775807) /\ -9223372036854775808<=o.t/\o.t<=9223372036854775807:=by
 obtain⟨xs,k,rfl,rfl,hl,hx,hf⟩:=DataW.trod_struct QA h;rw[bX]at hl;have dp_:fs.size=7:=by have:=congrArg Array.size v_;simpa using this
 rw[dp_]at hx;have sI_:∀(i:Nat) (t iS_:Nat),(#[(3,0),(3,1),(9,2),(9,3),(35,4),(35,6),(3,8)]:Array (Nat×Nat))[i]?=some (t,iS_)->DataW.trod enc P w base e held k t ((c.drop iS_).take (P.cellsOf t))=xs[i]?:=fun i t iS_ hi=>by
  rw[<-v_,Array.getElem?_map]at hi;obtain⟨f,h1,h2⟩:=Option.map_eq_some_iff.1 hi;simp only[Prod.mk.injEq]at h2;rw[<-h2.1,<- h2.2]
  exact hf i f h1
 match c,hl,xs,hx with
 | [v0,v1,v2,v3,v4,v5,v6,v7,v8],_,[y0,y1,y2,y3,y4,y5,y6],_ =>
  have g0:=sI_ 0 _ _ rfl;have g1:=sI_ 1 _ _ rfl;have g2:=sI_ 2 _ _ rfl;have g3:=sI_ 3 _ _ rfl;have g4:=sI_ 4 _ _ rfl;have g5_:=sI_ 5 _ _ rfl;have g6_:=sI_ 6 _ _ rfl
  simp[Y_,ew,Y5]at g0 g1 g2 g3 g4 g5_ g6_
  obtain⟨k0_,e0_,_⟩:=DataW.trod_int u3 g0;obtain⟨t0,e1_,_,wt⟩:=DataW.trod_int u3 g1;obtain⟨s,e2,es,_⟩:=DataW.trod_string u9 g2;obtain⟨s2,e3_,K4,_⟩:=DataW.trod_string u9 g3;obtain⟨a0,a1,e4_⟩:=iM AQ u3 Y5 Y_ g4;obtain⟨c0,c1,e5_⟩:=iM AQ u3 Y5 Y_ g5_;obtain⟨nm,e6_,_,wn⟩:=DataW.trod_int u3 g6_
  simp at e0_ e1_ e2 e3_ e4_ e5_ e6_
  obtain⟨rfl,rfl⟩:=e4_;obtain⟨rfl,rfl⟩:=e5_;subst e0_ e1_ e2 e3_ e6_
  refine⟨⟨k0_,t0,s,s2,a0,a1,c0,c1,nm⟩,rfl,?_,?_⟩
  ·have h1:Rows.uptoBulk y2.1<=Rows.uptoBulkAll ([y0,y1,y2,y3,y4,y5,y6].map (·.1)):=dv (by simp);have k1:Rows.uptoBulk y3.1<=Rows.uptoBulkAll ([y0,y1,y2,y3,y4,y5,y6].map (·.1)):=dv (by simp);subst es K4;have h2:∀q:ByteArray,Rows.uptoBulk (DataW.lit (H:=H) (.string q.data.toList))=q.data.toList.length+1:=fun q=>by simp only[Rows.uptoBulk]
   rw[h2,Array.length_toList]at h1 k1;have h3:s.size=s.data.size:=rfl;have k3:s2.size=s2.data.size:=rfl;have h4_:∀l:List (DataW H),Rows.uptoBulk (.agg l)=Rows.uptoBulkAll l+1:=fun l=>by simp only[Rows.uptoBulk]
   rw[h4_];simp only[Lit.wf,Bool.and_eq_true,decide_eq_true_eq]at wn;rw[show IntKind.i64.min = -9223372036854775808 by decide,show IntKind.i64.max=9223372036854775807 by decide]at wn
   refine⟨?_,?_,wn.1,wn.2⟩
   ·show s.size<=_
    omega
   ·show s2.size<=_
    omega
  ·simp only[Lit.wf,Bool.and_eq_true,decide_eq_true_eq]at wt;rw[show IntKind.i64.min = -9223372036854775808 by decide,show IntKind.i64.max=9223372036854775807 by decide]at wt
   exact wt
theorem nW{d:DataW H}{ps:List MemPlace}(h:DataW.trod enc prog w 0 e held fuel 22 v.cells.toList=some (d,ps))(K:v.cells.toList=[v]):
  ∃ao len cap O,v=.slice ao len cap/\len<=cap/\cap<=maxLen/\ZB w ao len O/\len<=Rows.uptoBulk d/\∀i,i<len->((O i).s.size<=Rows.uptoBulk d/\(O i).s2.size<=Rows.uptoBulk d /\ -9223372036854775808<=(O i).nm/\(O i).nm<=9223372036854775807) /\ -9223372036854775808<=(O i).t/\(O i).t<=9223372036854775807:=by
 rw[K]at h
 rcases Deep.open_slice underlying22 h with ⟨l,q⟩|⟨a,len,cap,m,n,D,M,l,_,I,J,C,q,B⟩
 ·simp at l q
  exact⟨none,0,0,fun _=>⟨0,0,⟨#[]⟩,⟨#[]⟩,0,0,0,0,0⟩,l,Nat.le_refl _,Nat.zero_le _,fun i f=>by omega,Nat.zero_le _,fun i f=>by omega⟩
 ·simp only[Prod.mk.injEq]at q;have hd:=q.1;have Q:len<=m:=by rw[C];split<;>omega
  have:Inhabited OpC:=⟨⟨0,0,⟨#[]⟩,⟨#[]⟩,0,0,0,0,0⟩⟩
  obtain⟨O,k⟩:=Deep.choose_lt (α := OpC) (n:=len) (p:=fun i o=>(∀j v,o.cells[j]?=some v->w.cell? (a.add (i*9+j))=some v)/\(o.s.size<=Rows.uptoBulk (D i)/\o.s2.size<=Rows.uptoBulk (D i) /\ -9223372036854775808<=o.nm/\o.nm<=9223372036854775807) /\ -9223372036854775808<=o.t/\o.t<=9223372036854775807) (fun i f=>by
   obtain⟨N,g,z⟩:=B i o_;rw[bX]at g;obtain⟨_,R,F⟩:=World.cells?_some g;obtain⟨o,rfl,o1,o2⟩:=kz underlying87 k_ underlying35 underlying3 underlying9 bX Y5 Y_ ew z
   refine⟨o,fun j u y=>?_,o1,o2⟩
   have x:j<9:=by
    rcases Nat.lt_or_ge j 9 with h|h
    ·exact h
    ·rw[Array.getElem?_eq_none (by simp[OpC.cells];omega)]at y;cases y
   have:=F j x
   rw[Deep.add_add]at this;rw[this];simpa using y)
  refine⟨some a,len,cap,O,by simpa using l,I,J,fun i f=>?_,?_,fun i f=>⟨?_,(k i f).2.2⟩⟩
  ·have r:=(k 0 o_).1 0 _ rfl;have A:=World.cell?_spot r;have G:a.block<w.heap.size:=by
    rcases Nat.lt_or_ge a.block w.heap.size with h|h
    ·exact h
    ·rw[World.cell?]at r;simp[Addr.add,Array.getElem?_eq_none h]at r
   obtain⟨b,L,S⟩:=a
   simp[Addr.add]at A
   subst A;have c:=fun j v x=>(k i f).1 j v x
   simp only[Addr.add_lit]at c
   refine⟨b,L,rfl,G,?_,?_,?_,?_,?_,?_,?_,?_,?_⟩
   ·exact c 0 _ rfl
   ·exact c 1 _ rfl
   ·exact c 2 _ rfl
   ·exact c 3 _ rfl
   ·exact c 4 _ rfl
   ·exact c 5 _ rfl
   ·exact c 6 _ rfl
   ·exact c 7 _ rfl
   ·exact c 8 _ rfl
  ·rw[hd];have g:=nG ((List.range len).map D);simp only[Rows.uptoBulk]
   simp at g
   omega
  ·obtain⟨g,P,E⟩:=(k i f).2.1;have z:Rows.uptoBulk (D i)<=Rows.uptoBulkAll ((List.range len).map D):=dv (UC.2 ⟨i,List.mem_range.2 f,rfl⟩);rw[hd];simp only[Rows.uptoBulk]
   exact⟨o_,o_,E⟩
end
def b4 (f:Nat):Prop:=∀(W:World) (ao:Option Addr) (len cap:Nat) (O:Nat->OpC),len<=cap->cap<=maxLen->ZB W ao len O->len<=1048576->(∀i,i<len->((O i).s.size<=1048576/\(O i).s2.size<=1048576 /\ -9223372036854775808<=(O i).nm/\(O i).nm<=9223372036854775807) /\ -9223372036854775808<=(O i).t/\(O i).t<=9223372036854775807) ->
 Calls prog f #[.slice ao len cap] W fun e w'=>e=vR (.bool true)/\Bw W w'
theorem own:ownKnob prog.godebug=none:=k_
theorem laidOut:laidOutB prog=true:=k_
theorem mq{H:Type}{enc:TypeId×Value->H}{C:Checked}{os:Os}{f:FuncId}{fn:Func}{s:OpenSpec}{d:List PathCond}{apart:Bool}{b:List (String×DataW Unit)}(a:World)(args:Array Value)(e:a.os=os)
  (h:(a.forCall (fun _ _=>0) ⟨#[],args,[]⟩).Shaped C.prog)
  (c:Input.okWideB C.prog (a.forCall (fun _ _=>0) ⟨#[],args,[]⟩) f ⟨#[],args,[]⟩=true)
  (g:s.preRow enc C.prog fn d apart b (a.forCall (fun _ _=>0) ⟨#[],args,[]⟩).memory args) :
  ∃(w:World) (tape:Tape) (i:Input),w.os=os/\(w.forCall tape i).Shaped C.prog/\i.vars=[]/\Input.okWide C.prog (w.forCall tape i) .any w.heap.size f i /\
   s.preRow enc C.prog fn d apart b (w.forCall tape i).memory i.args/\({}:Assume).holds C.prog (lone (Frame.enter C.prog f i.args .normal) [] (w.forCall tape i)) :=
 ⟨a,fun _ _=>0,⟨#[],args,[]⟩,e,h,(Input.okWide_of_okWideB (base:=0) c).1,(Input.okWide_of_okWideB c).2,g,by
  simp only[Assume.holds]
  simp⟩
end
section
open Go.RowKit
variable {m C M bt c c2 n:Nat}{d f w' A J:World}{e:TypeId}{D F u G H ev v:Value}{B ns xs:List Value}{I ms:List Int}{ws zh:List Pw}{er:Int}{s2:Bs}{zt:List (Int×Int)}{a2:Option Addr}{r s:Array Value}
def tw0 (bt nd br rr:Nat):Tw:=⟨bt,[Yf nd],0,v0_,v0_,[],[],br,rr,1,[⟨[],false,0,0,0,0⟩],none,0,[],0,0⟩
theorem r8(bt nd br rr K:Nat):US K (tw0 bt nd br rr):=by
 refine⟨rfl,rfl,⟨fk nd,⟨rfl,⟨[],rfl,List.Perm.refl _,List.Pairwise.nil⟩,fun p hp=>(by cases hp)⟩,⟨⟨⟨fun x a=>(by cases a),fun x a=>(by cases a),by simp[tw0]⟩,by simp[tw0],fun x a=>(by cases a),by simp[tw0]⟩,by simp[tw0],fun x a=>(by cases a)⟩,⟨fun x a=>(by cases a),fun x a=>(by cases a)⟩,by simp[tw0]⟩,by simp[tw0],by simp[tw0];omega⟩
theorem jx{l:Nat}{τ : Nat->yd}{W:World}{bw:Nat}{j:List Tw}{K:Nat}(h:St l τ W bw j (200*K))(Fa:∀y∈j,US K y)(Ca:j.length<=100000000)(s s2:ByteArray)(T a0 a1 c0 c1 nm:Int):
  Calls prog 36 #[vP bw,.agg #[vI 1,vI T,vG s,vG s2,vI a0,vI a1,vI c0,vI c1,vI nm]] W (fun e w'=>VI l τ W bw j.length (K+1) e w'/\∃τ' f,St l τ' w' bw f (200*(K+1))/\(∀y∈f,US (K+1) y)/\Vo τ W τ' w'/\f.length=j.length+1):=by
 obtain⟨u,F,H,D,G,ns,B,ms,I,h⟩:=h;have P:u.ownBlock≠some bw:=fun e=>by have:=h.tT _ e;rw[h.law.tag]at this;cases this
 refine(sv h.law.ze h.row Ca P s s2 T a0 a1 c0 c1 nm).mono ?_
 rintro e w' ⟨rfl,U,nd,bt,rr,br,A,ba,X,ka,ja,na,aa,⟨o1,o2,o3,Qa⟩,ga,z,Q⟩
 suffices Ga:∃τ' f,Vo τ W τ' w'/\St l τ' w' bw f (200*(K+1))/\(∀y∈f,US (K+1) y)/\f.length=j.length+1 by
  obtain⟨τ',f,m1,ca,da,Ka⟩:=Ga
  exact⟨⟨rfl,τ',f,m1,ca,da,o_,o_⟩,τ',f,ca,da,m1,Ka⟩
 have R:=h.law.ze.lt;have Pa:=X.size;have Oa:=aa.lt;obtain⟨d,L⟩:∃d:Nat->Prop,d=fun b=>b=bw\/u.ownBlock=some b:=⟨_,rfl⟩
 have Ia:zd d ga w':=by rw[Q];exact(zd.refl _ _).setCell (p:=vA bw 0) (by rw[L];exact Or.inl rfl) _
 have C:zd d U w':=(z.zf.mono (fun b hb=>by rw[L];exact Or.inr hb)).trans Ia;have J:zd d W w':=(zd.new X:zd d W U).trans C;have Na:∀b,d b->b<W.heap.size:=fun b hb=>by
  rw[L]at hb
  rcases hb with rfl|e
  ·exact R
  ·exact UI h.row e
 have Y:∀b,d b -> τ b=.law \/ τ b=.lawT:=fun b hb=>by
  rw[L]at hb
  rcases hb with rfl|e
  ·exact .inl h.law.tag
  ·exact .inr (h.tT _ e)
 have M:∀b,W.heap.size<=b->¬d b:=fun b hb ht=>by have:=Na b ht;omega
 obtain⟨τ',w⟩:∃τ':Nat->yd,τ'=fun b=>if b<W.heap.size then τ b else if b=nd then .node j.length nd else if b=bt then .tow j.length else if b=rr then .rrow j.length else if b=br then .ref j.length else if b=A then .lawT else .free:=⟨_,rfl⟩
 have old:∀b,b<W.heap.size -> τ' b = τ b:=fun b hb=>by rw[w];simp[hb]
 have sa : τ' nd=.node j.length nd:=by rw[w];simp only;rw[if_neg o_,if_pos trivial]
 have qa : τ' bt=.tow j.length:=by rw[w];simp only;rw[if_neg o_,if_neg o_,if_pos trivial]
 have ta : τ' rr=.rrow j.length:=by rw[w];simp only;rw[if_neg o_,if_neg o_,if_neg o_,if_pos trivial]
 have pa : τ' br=.ref j.length:=by rw[w];simp only;rw[if_neg o_,if_neg o_,if_neg o_,if_neg o_,if_pos trivial]
 have ra : τ' A=.lawT:=by
  rcases z.new with e|e
  ·rw[old _ (UI h.row e)];exact h.tT _ e
  ·rw[w];simp only;rw[if_neg o_,if_neg o_,if_neg o_,if_neg o_,if_neg o_,if_pos trivial]
 have ha:A≠bw:=by
  rcases z.new with e|e
  ·exact fun V=>P (by rw[e,V])
  ·omega
 obtain⟨n1,n2,Ma⟩:=h.law.N.lt;obtain⟨Aa,V,Ba⟩:=h.law.E.lt;have r:∀g t,τ g=t->t≠.law->t≠.lawT->¬d g:=fun g t ht q Ea c=>by
  rcases Y g c with e|e
  ·exact q (by rw[<-ht,e])
  ·exact Ea (by rw[<-ht,e])
 refine⟨τ',j++[tw0 bt nd br rr],⟨old,J.X4 (fun b hb ht=>⟨hb,fun e=>by rcases Y b ht with S|S<;>rw[e]at S<;>cases S⟩)⟩,
  ⟨vS A (j.length+1) ba,F,H,D,G,ns,B,ms,I,⟨⟨?_,by rw[old _ R];exact h.law.tag,?_,?_,?_,?_,?_,?_,?_,?_⟩,by have:=h.n1;omega,by have:=h.n2;omega,?_,?_,?_,?_,Nat.le_trans h.le J.size⟩⟩,?_,s_⟩
 ·have b1:zg U bw 84 _:=h.law.ze.below X R;have b2:=(b1.zf z.zf P).set 0 (vS A (j.length+1) ba);rw[<-Q]at b2
  exact b2
 ·exact h.law.N.zf J (fun g c=>r g _ (h.law.tN g c) s_ s_) (fun g c=>r g _ (h.law.tA g c) s_ s_) (fun v m g c=>r g _ (h.law.ln v m g c) s_ s_)
 ·exact h.law.E.zf J (fun g c=>r g _ (h.law.tE g c) s_ s_) (fun g c=>r g _ (h.law.tB g c) s_ s_) (fun v m g c=>r g _ (h.law.le v m g c) s_ s_)
 ·intro g c;rw[old _ (n1 g c)];exact h.law.tN g c
 ·intro g c;rw[old _ (Aa g c)];exact h.law.tE g c
 ·intro g c;rw[old _ (n2 g c)];exact h.law.tA g c
 ·intro g c;rw[old _ (V g c)];exact h.law.tB g c
 ·intro v m g c;rw[old _ (Ma v m g c)];exact h.law.ln v m g c
 ·intro v m g c;rw[old _ (Ba v m g c)];exact h.law.le v m g c
 ·have Ja:zd (fun b=>b=bw) ga w':=by rw[Q];exact(zd.refl (fun b=>b=bw) _).setCell (p:=vA bw 0) rfl _
  have:=s8 z.own Ja (fun g c=>by simp[Value.ownBlock]at c;subst c;exact ha)
  simpa [Yi,tw0] using this
 ·intro g c;simp[Value.ownBlock]at c;subst c;exact ra
 ·intro t x o
  rcases Nat.lt_or_ge t j.length with ua|Ha
  ·rw[Wu ua]at o
   refine(h.tw t x o).zf J (fun b hb ht=>?_) old
   rcases Y b ht with e|e<;>rw[e]<;>exact⟨fun h=>h,fun h=>h⟩
  ·rw[Wp Ha]at o;have oa:t=j.length:=by
    rcases Nat.eq_zero_or_pos (t-j.length) with Da|Da
    ·omega
    ·rw[List.getElem?_eq_none t_]at o;cases o
   subst oa
   simp at o;subst o
   have la:=ka.zf C (M _ o_);have Z:=ja.zf C (M _ o_);have ma:=na.zf C (M _ o_);have ia:=aa.zf C (M _ o_);have ea:X2 τ' j.length w' bt [Yf nd] (vI 0) v0_ v0_:=by
    refine⟨fk nd,?_,?_,⟨Yf nd,rfl,Z⟩,qa,fun a O b hb _=>by simp at O hb;rw[O,hb]⟩
    ·intro n k;simp at k;subst k
     exact⟨la,Vx _ _ _ _⟩
    ·intro i n k
     match i,k with
     |0,k=>simp at k;subst k;exact⟨sa,fun g c=>by cases c⟩
     |i+1,k=>simp at k
   refine⟨⟨ea,⟨Yf nd,rfl,ea.yj,⟨Z,Vx _ _ _ _,Vx _ _ _ _,fun p hp=>(by cases hp),fun b hb=>(by cases hb),List.nodup_nil,fun a O=>(by cases O),by simp[tw0]⟩,fun p hp=>(by cases hp),fun p hp=>(by cases hp)⟩,fun b hb=>(by rcases hb with hb|hb<;>cases hb),fun p hp=>(by cases hp)⟩,⟨⟨ia,?_⟩,Vx _ _ _ _,fun b hb=>(by cases hb)⟩,pa,ta,fun b hb=>(by cases hb)⟩
   exact⟨rfl,.inr ⟨rr,1,_,rfl,Nat.zero_le _,ma,Nat.le_refl _,by unfold maxLen;omega,rfl,rfl⟩⟩
 ·intro b hb;rw[old _ (VJ hb h.le)];exact h.lo b hb
 ·intro x La
  rcases UU.1 La with q|q
  ·exact(Fa x q).mono o_
  ·simp at q;subst q;exact r8 _ _ _ _ _
theorem St.low{l:Nat}{τ : Nat->yd}{W:World}{bw:Nat}{j:List Tw}{N:Nat}(h:St l τ W bw j N):(∀b,b<l -> τ b=.free)/\l<=W.heap.size:=by
 obtain⟨u,F,H,D,G,ns,B,ms,I,h⟩:=h
 exact⟨h.lo,h.le⟩
theorem St.mono{l:Nat}{τ : Nat->yd}{W:World}{bw:Nat}{j:List Tw}{N:Nat}(h:St l τ W bw j N)(a:N<=M):St l τ W bw j M:=by
 obtain⟨u,F,H,D,G,ns,B,ms,I,h⟩:=h
 exact⟨u,F,H,D,G,ns,B,ms,I,⟨h.law,Nat.le_trans h.n1 a,Nat.le_trans h.n2 a,h.row,h.tT,h.tw,h.lo,h.le⟩⟩
theorem Vo.low{l:Nat}{τ τ':Nat->yd}{W:World}{bw:Nat}{j:List Tw}{N:Nat}(h:St l τ W bw j N)(a:Vo τ W τ' w'):Below l W w' :=
 ⟨a.zf.os,a.zf.tape,a.zf.output,a.zf.size,fun k b=>a.zf.block k (VJ b h.low.2) (fun c=>c.2 (h.low.1 k b))⟩
def At (d:World)(k:Nat)(w:World):Prop:=∃τ j,St d.heap.size τ w d.heap.size j (200*k)/\(∀y∈j,US k y)/\0<j.length/\j.length<=k/\Bw d w
theorem At.low{w:World}{k:Nat}(h:At d k w):Bw d w/\At d (k+1) w:=by
 obtain⟨τ,j,b,c,h3,f,a⟩:=h
 exact⟨a,τ,j,b.mono o_,fun y e=>(c y e).mono o_,h3,o_,a⟩
theorem At.next{w:World}{k:Nat}{τ : Nat->yd}{j:List Tw}{e:Ending}(f:St d.heap.size τ w d.heap.size j (200*k))(h3:0<j.length)(i:j.length<=k)(b:Bw d w)
  (c:VI d.heap.size τ w d.heap.size j.length (k+1) e w'):e=vR (.bool true)/\At d (k+1) w':=by
 obtain⟨rfl,τ',a,m1,g,h,l,m⟩:=c
 exact⟨rfl,τ',a,g.mono o_,h,o_,o_,b.trans (Vo.low f m1)⟩
theorem kF{w:World}{k:Nat}(i:k<=2000000)(h:At d k w):Calls prog 37 #[vP d.heap.size] w fun e w'=>e=vR (.bool true)/\At d k w':=by
 obtain⟨τ,j,b,c,h3,f,g⟩:=h;obtain⟨u,F,H,D,G,ns,B,ms,I,a⟩:=id b;have n1:=a.n1;have n2:=a.n2
 refine(bo a.law.ze a.law.N a.law.E o_ o_).mono ?_
 rintro e w' ⟨rfl,hb⟩
 exact⟨rfl,_,j,b.below hb,c,h3,f,g.trans (hb.mono b.low.2)⟩
theorem jG(w:World)(c:Nat)(tl:TypeId):Xo w c tl v0_ v0_ [] [] :=
 ⟨Vx _ _ _ _,Vx _ _ _ _,rfl,fun i v m h=>by simp at h⟩
theorem j9{w:World}(hb:Bw d w)(bk:zg w d.heap.size 84 #[v0_,v0_,v0_,v0_,v0_]):
  St d.heap.size (fun b=>if b=d.heap.size then .law else .free) w d.heap.size [] 0:=by
 have c:∀g,v0_.ownBlock=some g->False:=fun g a=>by cases a
 refine⟨v0_,v0_,v0_,v0_,v0_,[],[],[],[],⟨⟨bk,s_,jG _ _ _,jG _ _ _,fun g a=>(c g a).elim,fun g a=>(c g a).elim,fun g a=>(c g a).elim,fun g a=>(c g a).elim,fun v e=>(by cases e),fun v e=>(by cases e)⟩,Nat.le_refl _,Nat.le_refl _,Vx _ _ _ _,fun g a=>(c g a).elim,fun t x f=>by simp at f,fun b h=>?_,hb.size⟩⟩
 rw[if_neg o_]
theorem rO{w:World}(hb:Bw d w)(bk:zg w d.heap.size 84 #[v0_,v0_,v0_,v0_,v0_])(s s2:ByteArray)(T a0 a1 c0 c1 nm:Int):
  Calls prog 36 #[vP d.heap.size,.agg #[vI 1,vI T,vG s,vG s2,vI a0,vI a1,vI c0,vI c1,vI nm]] w fun e w'=>e=vR (.bool true)/\At d 1 w':=by
 have a:=j9 hb bk
 refine(jx (K:=0) a (fun x f=>by cases f) s_ s s2 T a0 a1 c0 c1 nm).mono ?_
 rintro e w' ⟨c,τ',b,g,h,m1,i⟩
 simp at i
 exact⟨c.1,τ',b,g.mono o_,h,o_,o_,hb.trans (Vo.low a m1)⟩
def OpOK (o:OpC):Prop:=(o.s.size<=1048576/\o.s2.size<=1048576 /\ -9223372036854775808<=o.nm/\o.nm<=9223372036854775807) /\ -9223372036854775808<=o.t/\o.t<=9223372036854775807
def ey (zn:Int):Prop:=∀(d w:World) (k:Nat),k<=1999999->At d k w->∀(z T:Int) (s s2:ByteArray) (a0 a1 c0 c1 nm:Int),z<=zn->s.size<=2000000->s2.size<=2000000 -> -9223372036854775808<=T->T<=9223372036854775807 -> -9223372036854775808<=nm->nm<=9223372036854775807 ->
  Calls prog 36 #[vP d.heap.size,.agg #[vI z,vI T,vG s,vG s2,vI a0,vI a1,vI c0,vI c1,vI nm]] w fun e w'=>e=vR (.bool true)/\At d (k+1) w'
theorem p3(zn:Int)(a:ey zn)(q:4<=zn){W:World}{ao:Option Addr}{len cap:Nat}(k:len<=cap)(l:cap<=maxLen){O:Nat->OpC}(g:ZB W ao len O)(p:len<=1048576)(f:∀i,i<len->OpOK (O i)):
  Calls prog 14 #[.slice ao len cap,vI zn] W fun e w'=>e=vR (.bool true)/\Bw W w':=by
 refine oy k l g zn (A:=At W) (fun w c d=>rO c d _ _ _ _ _ _ _ _) (fun w h=>?_) (fun w h=>?_) (fun i b j w h=>?_) (fun i b w h=>?_) (fun i w h=>h.low)
 ·exact a W w 1 o_ h 3 0 ⟨#[97]⟩ ⟨#[]⟩ 10 10 5 0 0 o_ d_ d_ o_ o_ o_ o_
 ·exact a W w 2 o_ h 4 0 ⟨#[97]⟩ ⟨#[]⟩ 0 0 0 0 0 o_ d_ d_ o_ o_ o_ o_
 ·obtain⟨⟨o1,o2,o3,m⟩,n,o⟩:=f i b
  exact a W w (3+i) o_ h _ _ _ _ _ _ _ _ _ j o_ o_ n o o3 m
 ·exact kF o_ h
theorem gn:∀(l:List Tw) (t:Nat) (x:Tw),l[t]?=some x->(Yi l)[t*2]?=some (vP x.bt)/\(Yi l)[t*2+1]?=some (vP x.br)
 | [],_,_,h=>by simp at h
 |a::l,0,x,h=>by simp at h;subst h;exact⟨rfl,rfl⟩
 |a::l,t+1,x,h=>by
  have b:=gn l t x (j_ h);simp only[Yi,List.flatMap_cons]at b ⊢
  refine⟨?_,?_⟩
  ·rw[Wp t_];rw[show(t+1)*2-[vP a.bt,vP a.br].length=t*2 by simp;omega];exact b.1
  ·rw[Wp t_];rw[show(t+1)*2+1-[vP a.bt,vP a.br].length=t*2+1 by simp;omega];exact b.2
theorem St.ZK{l:Nat}{τ : Nat->yd}{W:World}{bw:Nat}{j:List Tw}{N:Nat}(h:St l τ W bw j N)(d:0<j.length):
  ∃a b,bw<W.heap.size/\a<W.heap.size/\j.length<=b/\b<=maxLen/\W.cell? (vA bw 0)=some (vS a j.length b) /\
   ∀(t:Nat) x,j[t]?=some x->W.cell? (vA a (t*2))=some (vP x.bt)/\W.cell? (vA a (t*2+1))=some (vP x.br):=by
 obtain⟨u,F,H,D,G,ns,B,ms,I,h⟩:=h;obtain⟨a,b,rfl,e,f⟩:=VX h.row d
 refine⟨a,b,h.law.ze.lt,UI h.row rfl,e,f,h.law.ze.cell 0,fun t x i=>?_⟩
 obtain⟨c1,c2⟩:=gn j t x i;have d1:=h.row.cells (g:=a) rfl _ _ c1;have c:=h.row.cells (g:=a) rfl _ _ c2;rw[Addr.add_lit,Nat.zero_add]at d1 c
 exact⟨d1,c⟩
theorem Y4(c:Int)(n:Nat)(m : -9223372036854775808<=c)(p:c<=9223372036854775807)(o:0<n)(j:n<=9223372036854775807):
  ∃r:Nat,r<n/\∀w,Calls prog 66 #[vI c,vI n] w fun e w'=>e=vR (vI r)/\w'=w:=by
 have zb:∀x:Int,0<=x->∃r:Nat,r<n/\(x.tmod n)=r:=fun x a=>by
  refine⟨(x.tmod n).toNat,?_,?_⟩
  ·have l:=Int.tmod_lt_of_pos x (b:=(n:Int)) o_;have g:=Int.tmod_nonneg (n:Int) a
   omega
  ·have g:=Int.tmod_nonneg (n:Int) a
   omega
 have d:∀x:Int,0<=x->∃r:Nat,r<n/\(x % n)=r:=fun x a=>by
  obtain⟨r,h,e⟩:=zb x a
  exact⟨r,h,by rw[<-e,Int.tmod_eq_emod_of_nonneg a]⟩
 have i:0<(n:Int):=o_
 by_cases k:c<0
 ·obtain⟨r,h,e⟩:=zb (-(c+1)) o_
  refine⟨r,h,fun w=>?_⟩
  have f:Hid ((-(c+1)).tmod n=r):=e;clear e zb d
  go_enter func66,ntmps66
  go_wp2
  go_ret
  exact⟨ZF (by rw[<-f.out,Int.neg_tmod]),rfl⟩
 ·obtain⟨r,h,e⟩:=d c o_
  refine⟨r,h,fun w=>?_⟩
  have f:Hid (c % n=r):=e;clear e zb d
  go_enter func66,ntmps66
  go_wp2
  go_ret
  exact⟨ZF f.out,rfl⟩
theorem rY{l:Nat}{τ : Nat->yd}{W:World}{bw:Nat}{j:List Tw}{K:Nat}(Pa:K<=1999999)(h:St l τ W bw j (200*K))(ma:∀y∈j,US K y)(I:0<j.length)(ja:j.length<=100000000)(s s2:ByteArray)(Ra:s.size<=2000000)(Ha:s2.size<=2000000)(z:Int)(T a0 a1 c0 c1 nm:Int)
  (la : -9223372036854775808<=T) (qa:T<=9223372036854775807) (m C:Nat) (g:Nat->Array Value) (pa:(z=2/\m=27/\C=67/\g=fun b=>#[vP b,vG s,.agg #[vI c0,vI c1]])\/(z=3/\m=26/\C=69/\g=fun b=>#[vP b,vG s,.agg #[vI a0,vI a1],.agg #[vI c0,vI c1]])\/(z=6/\m=28/\C=71/\g=fun b=>#[vP b,vI nm])\/(z=8/\m=31/\C=72/\g=fun b=>#[vP b,vG s])\/(z=9/\m=30/\C=73/\g=fun b=>#[vP b,vG s,vG s2])\/(z=10/\m=29/\C=74/\g=fun b=>#[vP b,vG s,.agg #[vI a0,vI a1],.agg #[vI c0,vI c1]])) (Y:∀(t:Nat) (x:Tw),j[t]?=some x->Yp l τ W bw j.length K m (g x.bt) C (g x.br) xn) :
  Calls prog 36 #[vP bw,.agg #[vI z,vI T,vG s,vG s2,vI a0,vI a1,vI c0,vI c1,vI nm]] W (VI l τ W bw j.length (K+1)):=by
 obtain⟨i,ha,ia,ba,ra,Wa,L,S⟩:=h.ZK I;obtain⟨r,aa,H⟩:=Y4 T j.length la qa I o_;obtain⟨x,N⟩:∃x,j[r]?=some x:=⟨_,Ur aa⟩;obtain⟨zm,er,n,M1,M2,F,G,w⟩:=Y r x N;obtain⟨P,Q⟩:=S r x N;obtain⟨k,Z⟩:∃k,k=j.length:=⟨_,rfl⟩;rw[<-Z]at I ja ra L w aa H ⊢;have w:∀a c a2 c2 f B,M2 a c a2 c2 f->Bw f B->Calls prog 68 #[vP bw,.slice a n c,vI er,.slice a2 n c2,vI er] B fun e w'=>e=vR (.bool true)/\VI l τ W bw k (K+1) (vR (.bool true)) w':=fun a c a2 c2 f B na hb=>(w a c a2 c2 f B na hb).mono (fun e w' M=>⟨M.1,by rw[<-M.1];exact M⟩)
 generalize VI l τ W bw k (K+1)=X at w ⊢;clear h ma Z S N;simp only[xn]at F G;clear Y;generalize x.bt=bt at F P;generalize x.br=br at G Q;have La:(r:Int)<k:=o_;have Ia:(0:Int)<=r:=o_;have Ma:((k:Int) == 0)=false:=by simp;omega
 obtain⟨o,v⟩:∃o:Array Value,o=#[vI z,vI T,vG s,vG s2,vI a0,vI a1,vI c0,vI c1,vI nm]:=⟨_,rfl⟩;have b3:zg (W.alloc (.cells o 87)) W.heap.size 87 o:=zg.new W 87 _;have u:Bw W (W.alloc (.cells o 87)):=(Below.refl _ _).alloc (Nat.le_refl _) _;have d1:(W.alloc (.cells o 87)).cell? (vA W.heap.size 1)=some (vI T):=(b3.cell 1).trans (by rw[v];rfl);obtain⟨d,E⟩:∃d,d=W.alloc (.cells o 87):=⟨_,rfl⟩;rw[<-E]at b3 u d1;rw[v]at E;have ea:Hid (o=#[vI z,vI T,vG s,vG s2,vI a0,vI a1,vI c0,vI c1,vI nm]):=v;clear v
 rcases pa with ⟨rfl,rfl,rfl,rfl⟩|⟨rfl,rfl,rfl,rfl⟩|⟨rfl,rfl,rfl,rfl⟩|⟨rfl,rfl,rfl,rfl⟩|⟨rfl,rfl,rfl,rfl⟩|⟨rfl,rfl,rfl,rfl⟩
 all_goals
  simp only at F G
  go_enter func36,ntmps36
  go_upto_region 7 with fail
  rw[<-E];clear E;have Ja:=u.size;have Ea:=b3.lt;have d0:=(u.cell (p:=vA bw 0) ia).trans L;have Aa:=(u.cell (p:=vA i (r*2)) ba).trans P;have Ba:=(u.cell (p:=vA i (r*2+1)) ba).trans Q;clear L P Q;have n1:¬(bw=d.heap.size):=o_;have n2:¬(i=d.heap.size):=o_;have Sa:¬(W.heap.size=d.heap.size):=o_;have Va:bw<d.heap.size:=o_;have Xa:i<d.heap.size:=o_
  go_cut [6] from 62 to 75 (fun q R=>∃D,q=vP D/\Bw W R/\zg R D 128 #[vP bt,vP br]/\zg R W.heap.size 87 o/\W.heap.size<D)
  case first =>
   go_region_held3 (fun w'=>w'.cell? (vA bw 0)=some (vS i k ha)/\w'.cell? (vA W.heap.size 1)=some (vI T)/\w'.cell? (vA i (r*2))=some (vP bt)/\w'.cell? (vA i (r*2+1))=some (vP br)) (go_keep)
    (first
    |(go_at_call 66;refine(H _).mono ?_;rintro e A ⟨rfl,ga⟩;subst ga))
   all_goals go_wp2_with fail
   all_goals go_meet
   all_goals exact⟨_,rfl,cl,(by first|(with_reducible exact zg.new' s_)|(with_reducible exact zg.drew (zg.new' s_))),s6,Ea⟩
  case rest =>
   obtain⟨D,rfl,U,O,ca,Ta⟩:=hcut;have v:=ea.out;subst v;clear H Aa Ba d0 d1 b3 u;have Za:=U.size;have Ca:=O.cell 0;have Da:=O.cell 1;have Ka:=ca.cell;simp only[s7]at Ca Da
   go_wp2_with (first
    |((first|go_at_call 27|go_at_call 26|go_at_call 28|go_at_call 31|go_at_call 30|go_at_call 29);refine(F _ U).mono ?_;rintro e A ⟨Qa,Fa,rfl,V,ta⟩;have ka:=O.zf V o_;have sa:=ca.zf V o_;have da:=ka.cell 1;have Na:=sa.cell;simp only[s7]at da)
    |((first|go_at_call 67|go_at_call 69|go_at_call 71|go_at_call 72|go_at_call 73|go_at_call 74);refine(G _ _ _ _ ta cl).mono ?_;rintro e J ⟨Oa,Ua,rfl,Ga,ua⟩)
    |(go_at_call 68;refine(w _ _ _ _ _ _ ua cl).mono ?_;rintro e Ya ⟨rfl,oa⟩))
   all_goals exact oa
theorem oG{l:Nat}{τ : Nat->yd}{W:World}{bw:Nat}{j:List Tw}{K:Nat}(Fa:K<=1999999)(h:St l τ W bw j (200*K))(N:∀y∈j,US K y)(v:0<j.length)(Z:j.length<=100000000)(s s2:ByteArray)(ea:s.size<=2000000)(sa:s2.size<=2000000)(T a0 a1 c0 c1 nm:Int)
  (ba : -9223372036854775808<=T) (ga:T<=9223372036854775807) :
  Calls prog 36 #[vP bw,.agg #[vI 5,vI T,vG s,vG s2,vI a0,vI a1,vI c0,vI c1,vI nm]] W (VI l τ W bw j.length (K+1)):=by
 obtain⟨b,V,Y,Q,ha,La,w,I⟩:=h.ZK v;obtain⟨r,P,u⟩:=Y4 T j.length ba ga v o_;obtain⟨x,B⟩:∃x,j[r]?=some x:=⟨_,Ur P⟩;obtain⟨zm,er,n,M1,M2,F,G,i⟩:=nN o_ h N (t:=r) (x:=x) B s ea a0 a1;obtain⟨D,E⟩:=I r x B;obtain⟨k,O⟩:∃k,k=j.length:=⟨_,rfl⟩;rw[<-O]at v Z ha w i P u ⊢;have i:∀a c a2 c2 f m,M2 a c a2 c2 f->Bw f m->Calls prog 68 #[vP bw,.slice a n c,vI er,.slice a2 n c2,vI er] m fun e w'=>e=vR (.bool true)/\VI l τ W bw k (K+1) (vR (.bool true)) w':=fun a c a2 c2 f m ca hb=>(i a c a2 c2 f m ca hb).mono (fun e w' z=>⟨z.1,by rw[<-z.1];exact z⟩)
 generalize VI l τ W bw k (K+1)=X at i ⊢;clear h N O I B;simp only[mkk3]at F G;generalize x.bt=bt at F D;generalize x.br=br at G E;have Ba:(r:Int)<k:=o_;have ta:(0:Int)<=r:=o_;have Ca:((k:Int) == 0)=false:=by simp;omega
 have b3:zg (W.alloc (.cells #[vI 5,vI T,vG s,vG s2,vI a0,vI a1,vI c0,vI c1,vI nm] 87)) W.heap.size 87 #[vI 5,vI T,vG s,vG s2,vI a0,vI a1,vI c0,vI c1,vI nm]:=zg.new W 87 _;have g:Bw W (W.alloc (.cells #[vI 5,vI T,vG s,vG s2,vI a0,vI a1,vI c0,vI c1,vI nm] 87)):=(Below.refl _ _).alloc (Nat.le_refl _) _
 go_enter func36,ntmps36
 go_upto_region 7 with fail
 generalize W.alloc (.cells #[vI 5,vI T,vG s,vG s2,vI a0,vI a1,vI c0,vI c1,vI nm] 87)=d at b3 g ⊢;have ua:=g.size;have pa:=b3.lt;have d0:=(g.cell (p:=vA bw 0) Y).trans w;have d1:=b3.cell 1;have la:=(g.cell (p:=vA b (r*2)) Q).trans D;have ma:=(g.cell (p:=vA b (r*2+1)) Q).trans E;simp only[s7]at d1;clear w D E;have n1:¬(bw=d.heap.size):=o_;have n2:¬(b=d.heap.size):=o_;have Ha:¬(W.heap.size=d.heap.size):=o_;have Ka:bw<d.heap.size:=o_;have Ma:b<d.heap.size:=o_
 go_cut [6] from 62 to 75 (fun q H=>∃o,q=vP o/\Bw W H/\zg H o 128 #[vP bt,vP br]/\zg H W.heap.size 87 #[vI 5,vI T,vG s,vG s2,vI a0,vI a1,vI c0,vI c1,vI nm]/\W.heap.size<o)
 case first =>
  go_region_held3 (fun w'=>w'.cell? (vA bw 0)=some (vS b k V)/\w'.cell? (vA W.heap.size 1)=some (vI T)/\w'.cell? (vA b (r*2))=some (vP bt)/\w'.cell? (vA b (r*2+1))=some (vP br)) (go_keep)
   (first
   |(go_at_call 66;refine(u _).mono ?_;rintro e A ⟨rfl,U⟩;subst U))
  all_goals go_wp2_with fail
  all_goals go_meet
  all_goals exact⟨_,rfl,cl,(by first|(with_reducible exact zg.new' s_)|(with_reducible exact zg.drew (zg.new' s_))),s6,pa⟩
 case rest =>
  obtain⟨o,rfl,L,C,R,Ia⟩:=hcut;clear u la ma d0 d1 b3 g;have Oa:=L.size;have na:=C.cell 0;have oa:=C.cell 1;have Aa:=R.cell;simp only[s7]at na oa
  go_wp2_with (first
   |(go_at_call 32;refine(F _ L).mono ?_;rintro e A ⟨Ga,qa,rfl,M,ja⟩;have aa:=C.zf M o_;have ia:=R.zf M o_;have S:=aa.cell 1;have Da:=ia.cell;simp only[s7]at S)
   |(go_at_call 70;refine(G _ _ _ _ ja cl).mono ?_;rintro e J ⟨Ea,Ja,rfl,ra,ka⟩)
   |(go_at_call 68;refine(i _ _ _ _ _ _ ka cl).mono ?_;rintro e Na ⟨rfl,da⟩))
  all_goals exact da
theorem bC(l:List Wk):WJ l=(l.map (·.zm)).map fun m=>vI m:=by unfold WJ;rw[List.map_map];rfl
def eZ (W:World)(bt br:Nat)(s:ByteArray):Prop :=
 ∃(d:ByteArray) (lf:Bool) (i0 i1 i2 i3 i4 i5 er:Int) (l:List Int),l.length<=24 /\
  (∀f,Bw W f->Calls prog 34 #[vP bt,vG s] f fun e w'=>∃a c,e=vR (.tuple #[.agg #[vG d,.bool lf,vI i0,vI i1,vI i2,vI i3,vI i4,vI i5,.slice a l.length c],vI er])/\Bw f w'/\w'.ownsRow 0 3 1 (.slice a l.length c) l.length (l.map fun m=>vI m)/\(∀b,(Value.slice a l.length c).ownBlock=some b->f.heap.size<=b)) /\
  (∀f,Bw W f->Calls prog 124 #[vP br,vG s] f fun e w'=>∃a c,e=vR (.tuple #[.agg #[vG d,.bool lf,vI i0,vI i1,vI i2,vI i3,vI i4,vI i5,.slice a l.length c],vI er])/\Bw f w'/\w'.ownsRow 0 3 1 (.slice a l.length c) l.length (l.map fun m=>vI m)/\(∀b,(Value.slice a l.length c).ownBlock=some b->f.heap.size<=b))
theorem p4{τ : Nat->yd}{W:World}{t K:Nat}{x:Tw}(p:TwS τ W t x)(A:US K x)(s:ByteArray)(w:s.size<=2000000):eZ W x.bt x.br s:=by
 have l:=A.com.tree;have u:=p.P.pr.WY;obtain⟨r,D,H⟩:=p.P.bk;obtain⟨E,B⟩:=Ww l D;have hp:=fun f (hb:Bw W f)=>oz l u (H.below hb) E B s w
 have hq:=fun f (hb:Bw W f)=>rJ (p.R.below hb) A.ents A.inv.yh.yh A.uj s w
 rw[A.L]at hq;have k:UW (x.za.map zc.zq) (s4 (bl s))=(zp x.za (s4 (bl s))).map zc.zq:=WN _ _;have m:∀w':World,w'.ownsRow 0 3 1 v0_ 0 []:=fun w'=>Vx _ _ _ _
 cases i:UB (bl s) with
 |false =>
  refine⟨⟨#[]⟩,false,0,0,0,0,0,0,1,[],s_,fun f hb=>(hp f hb).mono fun e w' h=>?_,fun f hb=>(hq f hb).mono fun e w' h=>?_⟩
  ·unfold QueR at h;rw[if_pos i]at h
   exact⟨none,0,h.1,h.2,m _,fun b hb=>by cases hb⟩
  ·obtain⟨g,d⟩:=h
   rcases d with ⟨_,d⟩|⟨d,_⟩|⟨d,_⟩
   ·exact⟨none,0,d,g,m _,fun b hb=>by cases hb⟩
   ·rw[i]at d;cases d
   ·rw[i]at d;cases d
 |true =>
  cases j:zp x.za (s4 (bl s)) with
  |none =>
   rw[j]at k
   refine⟨⟨#[]⟩,false,0,0,0,0,0,0,3,[],s_,fun f hb=>(hp f hb).mono fun e w' h=>?_,fun f hb=>(hq f hb).mono fun e w' h=>?_⟩
   ·unfold QueR at h;rw[if_neg (by simp[i])]at h;simp only[j]at h
    exact⟨none,0,h.1,h.2,m _,fun b hb=>by cases hb⟩
   ·obtain⟨g,d⟩:=h
    rcases d with ⟨d,_⟩|⟨_,_,d⟩|⟨_,y,F,d,_⟩
    ·rw[i]at d;cases d
    ·exact⟨none,0,d,g,m _,fun b hb=>by cases hb⟩
    ·rw[k]at d;cases d
  |some n =>
   obtain⟨v,I⟩:=VZ j;rw[j]at k;have q:=A.com.rel.iN l u v;have C:=A.com.rel.told l A.inv.yh.yh v;have z:(UR x.Ws n.zb x.Ws.length).length<=24:=by
    have g:(UR x.Ws n.zb x.Ws.length).length<=x.Ws.length:=by
     unfold UR;rw[List.take_length];exact Wt _ _
    have d:x.Ws.length<=24:=A.inv.yh.yh.len
    omega
   refine⟨sb (kN n.zq.zb),n.zq.zj,xj (Uz (x.za.map zc.zq) (kN n.zq.zb)),xi (Uz (x.za.map zc.zq) (kN n.zq.zb)),n.zq.b0,n.zq.b1,yf (Ut x.Ws (kN n.zq.zb)),yg (Ut x.Ws (kN n.zq.zb)),0,(UR x.Ws n.zb x.Ws.length).map (·.zm),by simpa using z,fun f hb=>(hp f hb).mono fun e w' h=>?_,fun f hb=>(hq f hb).mono fun e w' h=>?_⟩
   ·unfold QueR at h;rw[if_neg (by simp[i])]at h;simp only[j]at h;obtain⟨J,rfl,g,d,h3⟩:=h;rw[q.1,q.2,bC]at g;rw[C];have o:(UR x.Ws n.zb x.Ws.length).length=((UR x.Ws n.zb x.Ws.length).map (·.zm)).length:=s_;rw[o]at g;obtain⟨a,c,rfl⟩:=Xs g
    exact⟨a,c,rfl,d,g,h3⟩
   ·obtain⟨g,d⟩:=h
    rcases d with ⟨d,_⟩|⟨_,d,_⟩|⟨_,y,F,d,rfl,h3,G⟩
    ·rw[i]at d;cases d
    ·rw[k]at d;cases d
    ·rw[k]at d;simp only[Option.map_some,Option.some.injEq]at d;subst d;rw[bC]at h3;have o:(UR x.Ws n.zq.zb x.Ws.length).length=((UR x.Ws n.zb x.Ws.length).map (·.zm)).length:=by simp;rfl
     rw[o]at h3;obtain⟨a,c,rfl⟩:=Xs h3
     exact⟨a,c,rfl,g,h3,G⟩
theorem Yv(hb:Bw A J)(h:A.ownsRow 0 e c v n xs):J.ownsRow 0 e c v n xs:=s8 (T:=fun _=>False) h (zd.new hb) (fun _ _ h=>h)
def AskR (τ : Nat->yd)(W:World)(bw:Nat)(u:Value)(N:Nat)(e:Ending)(w':World):Prop :=
 ∃o f,(∀b,o=some b->W.heap.size<=b)/\Bw W f/\ax (Vq τ W.heap.size) f o bw u N e w'
theorem o6{τ : Nat->yd}{W:World}{bw:Nat}(h:Xp τ W bw u F H D G ns B ms I)(N:Nat)(Da:N<=900000000)(Ja:ns.length<=N)(Ea:B.length<=N)
  {br:Nat} (s s2:ByteArray) (ma:eZ W bt br s) (T a0 a1 c0 c1 nm:Int) :
  Calls prog 75 #[vP bw,.agg #[vP bt,vP br],.agg #[vI 4,vI T,vG s,vG s2,vI a0,vI a1,vI c0,vI c1,vI nm]] W (AskR τ W bw u (N+4)):=by
 obtain⟨p,lf,i0,i1,i2,i3,i4,i5,er,l,Aa,qa,sa⟩:=ma;have ka:∀f,Bw W f->Calls prog 37 #[vP bw] f fun e w'=>e=vR (.bool true)/\Bw f w':=fun f hb=>by
  have r:=h.below hb
  exact bo r.ze r.N r.E o_ o_
 have y:∀f a c,Bw W f->f.ownsRow 0 3 1 (.slice a l.length c) l.length (l.map fun m=>vI m)->(∀b,(Value.slice a l.length c).ownBlock=some b->W.heap.size<=b)->Calls prog 126 #[vP bw,.slice a l.length c] f fun e w'=>e=vT #[]/\AskR τ W bw u (N+4) (vR (.bool true)) w':=fun f a c hb pa L=>by
  refine(gx (h.below hb) o_ pa o_ (fun b Z=>XJ (L b Z))).mono ?_
  rintro e w' ⟨rfl,τ',Ga,Fa,La,Oa,na,hI,Ba⟩
  exact⟨rfl,_,f,L,hb,rfl,τ',_,_,_,_,_,_,_,_,na,hI,o_,o_⟩
 have la:=fun w aA aB cA cB (M:World.ownsRow w 0 3 1 (.slice aA l.length cA) l.length (l.map fun m=>vI m)) (O:World.ownsRow w 0 3 1 (.slice aB l.length cB) l.length (l.map fun m=>vI m))=>fN (w:=w) (aA:=aA) (aB:=aB) (cA:=cA) (cB:=cB) (l:=l) rfl o_ (ZA M) (ZA O) (bB M) (bB O) p lf i0 i1 i2 i3 i4 i5
 generalize AskR τ W bw u (N+4)=X at y ⊢;clear h;generalize (l.map fun m=>vI m)=Ka at *;generalize l.length=n at *;have aa:zg ((W.alloc (.cells #[vP bt,vP br] 128)).alloc (.cells #[vI 4,vI T,vG s,vG s2,vI a0,vI a1,vI c0,vI c1,vI nm] 87)) W.heap.size 128 #[vP bt,vP br]:=(zg.new W 128 _).alloc _;have ba:zg ((W.alloc (.cells #[vP bt,vP br] 128)).alloc (.cells #[vI 4,vI T,vG s,vG s2,vI a0,vI a1,vI c0,vI c1,vI nm] 87)) (W.heap.size+1) 87 #[vI 4,vI T,vG s,vG s2,vI a0,vI a1,vI c0,vI c1,vI nm]:=zg.new' s_
 go_enter func75,ntmps75
 go_wp2_with (first
  |(go_at_call 34;refine(qa _ ?_).mono ?_;(focus exact cl);rintro e A ⟨P,Q,rfl,i,ja,ga⟩;have x:Bw W A:=s5 cl i;have C:=aa.below i u_;have K:=ba.below i u_;have ha:=C.cell 1;have ia:=K.cell 2;have ca:=x.size;have Ha:=K.lt;have l4:=C.lt;simp only[s7]at ha ia)
  |(go_at_call 124;refine(sa _ ?_).mono ?_;(focus exact cl);rintro e J ⟨Ma,Na,rfl,j,ra,Ca⟩;have z:Bw W J:=s5 (x.alloc ca _) j;have t:=Yv j (ja.alloc (.cells #[vG p,.bool lf,vI i0,vI i1,vI i2,vI i3,vI i4,vI i5,.slice P n Q] 37));have q:=(zg.new A 37 #[vG p,.bool lf,vI i0,vI i1,vI i2,vI i3,vI i4,vI i5,.slice P n Q]).below j s_;have da:=z.size;have Ia:=q.lt;have o:=q.cell)
  |(go_at_call 125;refine(la _ _ _ _ _ (t.alloc _) (ra.alloc _)).mono ?_;rintro e ta ⟨rfl,k⟩;have v:Bw W ta:=s5 (z.alloc da _) k;have U:=Yv k (t.alloc _);have d:=(q.alloc _).below k t_;clear o;have o:=d.cell 8;simp only[s7]at o)
  |(go_at_call 37;refine(ka _ v).mono ?_;rintro e ua ⟨rfl,g⟩;have ea:Bw W ua:=s5 v g;have V:=Yv g U;have S:=d.below g d.lt;have Y:=S.cell 8;simp only[s7]at Y)
  |(go_at_call 126;refine(y _ _ _ ea V (fun b hb=>by have:=ga b hb;simp at this;omega)).mono ?_;rintro e Pa ⟨rfl,oa⟩)
  |(go_at_call 112;refine(dU _ _).mono ?_;rintro e Qa ⟨rfl,R⟩;subst R))
 all_goals exact oa
theorem oB{l:Nat}{τ : Nat->yd}{W:World}{bw:Nat}{j:List Tw}{K:Nat}{t:Nat}{x:Tw}(ia:K<=2000000)(h:St l τ W bw j (200*K))(r:∀y∈j,US K y)(w:j[t]?=some x)(s s2:ByteArray)(E:s.size<=2000000)(T a0 a1 c0 c1 nm:Int)(f:World)(hb:Bw W f):
  Calls prog 75 #[vP bw,.agg #[vP x.bt,vP x.br],.agg #[vI 4,vI T,vG s,vG s2,vI a0,vI a1,vI c0,vI c1,vI nm]] f (VI l τ W bw j.length (K+1)):=by
 have q:=h.below hb;obtain⟨u,F,H,D,G,ns,B,ms,I,c⟩:=id q;have C:=c.tw t x w;have A:=r x (Uq w)
 refine(o6 c.law (200*K) o_ c.n1 c.n2 s s2 (p4 C A s E) T a0 a1 c0 c1 nm).mono ?_
 rintro e w' ⟨o,ga,k,i,v⟩
 obtain⟨z,Z,Y,aa,ba,ea,X,da,ca,p⟩:=q.below i;have m:=v;obtain⟨ha,τ3,ma,na,oa,r4,r5,pa,qa,ra,ka,ja,_⟩:=v;have la:=hb.size
 have:z=u:=by
  have n:=c.law.ze.below i c.law.ze.lt;have g:=p.law.ze;unfold zg at n g;rw[n]at g
  simp at g
  exact g.1.symm
 subst this;obtain⟨τ2,N,V,M,P,L,O,R,Q,U,S,a⟩:=St.told p (fun b d=>⟨XJ (k b d),by have:=k b d;have:=c.le;omega⟩) m
 refine⟨m.1,τ2,j,((Vo.below hb).trans (Vo.below i)).own N (fun b d=>by have:=k b d;omega),⟨V,M,P,L,O,R,Q,U,S,a.law,by have:=a.n1;omega,by have:=a.n2;omega,a.row,a.tT,a.tw,a.lo,a.le⟩,fun y J=>(r y J).mono o_,Nat.le_refl _,Nat.le_succ _⟩
theorem qj{l:Nat}{τ : Nat->yd}{W:World}{bw:Nat}{j:List Tw}{K:Nat}(ja:K<=1999999)(h:St l τ W bw j (200*K))(D:∀y∈j,US K y)(m:0<j.length)(M:j.length<=100000000)(s s2:ByteArray)(Q:s.size<=2000000)(ca:s2.size<=2000000)(T a0 a1 c0 c1 nm:Int)
  (N : -9223372036854775808<=T) (R:T<=9223372036854775807) :
  Calls prog 36 #[vP bw,.agg #[vI 4,vI T,vG s,vG s2,vI a0,vI a1,vI c0,vI c1,vI nm]] W (VI l τ W bw j.length (K+1)):=by
 obtain⟨a,J,L,H,S,na,n,B⟩:=h.ZK m;obtain⟨r,F,i⟩:=Y4 T j.length N R m o_;obtain⟨x,u⟩:∃x,j[r]?=some x:=⟨_,Ur F⟩;have b:=fun f hb=>oB o_ h D (t:=r) (x:=x) u s s2 Q T a0 a1 c0 c1 nm f hb
 obtain⟨v,w⟩:=B r x u;obtain⟨k,E⟩:∃k,k=j.length:=⟨_,rfl⟩;rw[<-E]at m M S n b F i ⊢;have b:∀f,Bw W f->Calls prog 75 #[vP bw,.agg #[vP x.bt,vP x.br],.agg #[vI 4,vI T,vG s,vG s2,vI a0,vI a1,vI c0,vI c1,vI nm]] f fun e w'=>e=vR (.bool true)/\VI l τ W bw k (K+1) (vR (.bool true)) w':=fun f O=>(b f O).mono (fun e w' o=>⟨o.1,by rw[<-o.1];exact o⟩)
 generalize VI l τ W bw k (K+1)=X at b ⊢;clear h D E B u;generalize x.bt=bt at b v;generalize x.br=br at b w;have ha:(r:Int)<k:=o_;have da:(0:Int)<=r:=o_;have ia:((k:Int) == 0)=false:=by simp;omega
 have b3:zg (W.alloc (.cells #[vI 4,vI T,vG s,vG s2,vI a0,vI a1,vI c0,vI c1,vI nm] 87)) W.heap.size 87 #[vI 4,vI T,vG s,vG s2,vI a0,vI a1,vI c0,vI c1,vI nm]:=zg.new W 87 _;have c:Bw W (W.alloc (.cells #[vI 4,vI T,vG s,vG s2,vI a0,vI a1,vI c0,vI c1,vI nm] 87)):=(Below.refl _ _).alloc (Nat.le_refl _) _
 go_enter func36,ntmps36
 go_upto_region 7 with fail
 generalize W.alloc (.cells #[vI 4,vI T,vG s,vG s2,vI a0,vI a1,vI c0,vI c1,vI nm] 87)=d at b3 c ⊢;have ea:=c.size;have ba:=b3.lt;have d0:=(c.cell (p:=vA bw 0) L).trans n;have d1:=b3.cell 1;have U:=(c.cell (p:=vA a (r*2)) H).trans v;have V:=(c.cell (p:=vA a (r*2+1)) H).trans w;simp only[s7]at d1;clear n v w;have n1:¬(bw=d.heap.size):=o_;have n2:¬(a=d.heap.size):=o_;have ka:¬(W.heap.size=d.heap.size):=o_;have ma:bw<d.heap.size:=o_;have oa:a<d.heap.size:=o_
 go_cut [6] from 62 to 75 (fun q z=>∃g,q=vP g/\Bw W z/\zg z g 128 #[vP bt,vP br]/\zg z W.heap.size 87 #[vI 4,vI T,vG s,vG s2,vI a0,vI a1,vI c0,vI c1,vI nm]/\W.heap.size<g)
 case first =>
  go_region_held3 (fun w'=>w'.cell? (vA bw 0)=some (vS a k J)/\w'.cell? (vA W.heap.size 1)=some (vI T)/\w'.cell? (vA a (r*2))=some (vP bt)/\w'.cell? (vA a (r*2+1))=some (vP br)) (go_keep)
   (first
   |(go_at_call 66;refine(i _).mono ?_;rintro e A ⟨rfl,I⟩;subst I))
  all_goals go_wp2_with fail
  all_goals go_meet
  all_goals exact⟨_,rfl,cl,(by first|(with_reducible exact zg.new' s_)|(with_reducible exact zg.drew (zg.new' s_))),s6,ba⟩
 case rest =>
  obtain⟨g,rfl,C,G,Y,la⟩:=hcut;clear i U V d0 d1 b3 c;have pa:=C.size;have Z:=G.cell 0;have aa:=G.cell 1;have ga:=Y.cell;simp only[s7]at Z aa
  go_wp2_with (go_at_call 75;refine(b _ C).mono ?_;rintro e A ⟨rfl,P⟩)
  all_goals exact P
theorem eq52(d:Nat)(p:ByteArray)(a b:Int)(c:Bool)(w:World):(Op.equalIn (d+3) 52 (.agg #[vG p,vI a,vI b,.bool c]) (.agg #[vG p,vI a,vI b,.bool c])).run prog w=.ok true w:=by
 have f:=underlying52;have l:=underlying35;have n:=underlying9;have m:=underlying4;have g:=sizeOf35;have e:=isAgg35;have k:=sizeOf9;have i:=isAgg9;have j:=sizeOf4;have h:=isAgg4;unfold Op.equalIn;simp only[Sem.run_bind,run_underlying f,Result.andThen_ok]
 simp[go_sem,g,e,k,i,j,h,List.range',Std.Legacy.Range.forIn_eq_forIn_range',part,eq35]
theorem kM(p:ByteArray)(a b:Int)(c:Bool)(w:World):(Op.equalIn 10000 52 (.agg #[vG p,vI a,vI b,.bool c]) (.agg #[vG p,vI a,vI b,.bool c])).run prog w=.ok true w:=by
 rw[show(10000:Nat)=9997+3 from rfl,eq52]
def e1 (W:World)(bt br:Nat)(nm:Int):Prop :=
 ∃(a:ByteArray) (d0 d1:Int) (ad:Bool) (er:Int),
  (∀f,Bw W f->Calls prog 22 #[vP bt,vI nm] f fun e w'=>e=vR (.tuple #[.agg #[vG a,vI d0,vI d1,.bool ad],vI er])/\Bw f w') /\
  (∀f,Bw W f->Calls prog 127 #[vP br,vI nm] f fun e w'=>e=vR (.tuple #[.agg #[vG a,vI d0,vI d1,.bool ad],vI er])/\Bw f w')
theorem sk{τ : Nat->yd}{W:World}{t K:Nat}{x:Tw}(j:TwS τ W t x)(A:US K x)(nm:Int):e1 W x.bt x.br nm:=by
 have o:=A.com.tree;obtain⟨r,u,s⟩:=j.P.bk;have hp:=fun f (hb:Bw W f)=>qt o (s.below hb) nm
 have hq:=fun f (hb:Bw W f)=>kp (j.R.below hb) A.inv.yh.yh nm
 have zb:∀a,cq x.Ws nm a->∃(d:ByteArray) (d0 d1:Int) (ad:Bool) (er:Int),a=vR (.tuple #[.agg #[vG d,vI d0,vI d1,.bool ad],vI er]):=fun a h=>by
  rcases h with ⟨y,_,_,rfl⟩|⟨_,rfl⟩
  ·exact⟨_,_,_,_,_,rfl⟩
  ·exact⟨_,_,_,_,_,rfl⟩
 have n:∃a,cq x.Ws nm a:=by
  by_cases h:∃y∈x.Ws,y.zm=nm
  ·obtain⟨y,b,c⟩:=h
   exact⟨_,.inl ⟨y,b,c,rfl⟩⟩
  ·exact⟨_,.inr ⟨fun y b e=>h ⟨y,b,e⟩,rfl⟩⟩
 obtain⟨a,i⟩:=n;obtain⟨d,d0,d1,ad,er,rfl⟩:=zb a i
 refine⟨d,d0,d1,ad,er,fun f hb=>(hp f hb).mono fun e w' h=>A.com.rel.work A.inv.yh h i,fun f hb=>(hq f hb).mono fun e w' h=>⟨?_,h.2⟩⟩
 obtain⟨q,_⟩:=h
 rcases q with ⟨y,b,c,rfl⟩|⟨p,rfl⟩<;>rcases i with ⟨z,l,k,g⟩|⟨m,g⟩
 ·have:y=z:=YL A.inv.yh.nums b l (c.trans k.symm)
  subst this
  exact g.symm
 ·exact absurd c (m y b)
 ·exact absurd k (p z l)
 ·exact g.symm
theorem qE{W:World}{bw br:Nat}(s s2:ByteArray)(T a0 a1 c0 c1 nm:Int)(p:e1 W bt br nm):
  Calls prog 75 #[vP bw,.agg #[vP bt,vP br],.agg #[vI 7,vI T,vG s,vG s2,vI a0,vI a1,vI c0,vI c1,vI nm]] W fun e w'=>e=vR (.bool true)/\Bw W w':=by
 obtain⟨m,d0,d1,ad,er,q,r⟩:=p;have v:=kM;have j:zg ((W.alloc (.cells #[vP bt,vP br] 128)).alloc (.cells #[vI 7,vI T,vG s,vG s2,vI a0,vI a1,vI c0,vI c1,vI nm] 87)) W.heap.size 128 #[vP bt,vP br]:=(zg.new W 128 _).alloc _;have k:zg ((W.alloc (.cells #[vP bt,vP br] 128)).alloc (.cells #[vI 7,vI T,vG s,vG s2,vI a0,vI a1,vI c0,vI c1,vI nm] 87)) (W.heap.size+1) 87 #[vI 7,vI T,vG s,vG s2,vI a0,vI a1,vI c0,vI c1,vI nm]:=zg.new' s_
 go_enter func75,ntmps75
 go_wp2_with (first
  |(go_at_call 22;refine(q _ ?_).mono ?_;(focus exact cl);rintro e A ⟨rfl,a⟩;have c:Bw W A:=s5 cl a;have d:=j.below a u_;have f:=k.below a u_;have n:=d.cell 1;have o:=f.cell 8;have l:=c.size;have w:=f.lt;have l4:=d.lt;simp only[s7]at n o)
  |(go_at_call 127;refine(r _ ?_).mono ?_;(focus exact cl);rintro e J ⟨rfl,b⟩;have i:Bw W J:=s5 (c.alloc l _) b;have g:=(zg.new A 52 #[vG m,vI d0,vI d1,.bool ad]).below b s_;have u:=i.size;have x:=g.lt;have t:=g.cell)
  |(go_at_call 112;refine(dU _ _).mono ?_;rintro e y ⟨rfl,h⟩;subst h))
 all_goals go_ret
 all_goals exact⟨rfl,cl⟩
theorem qu{l:Nat}{τ : Nat->yd}{W:World}{bw:Nat}{j:List Tw}{K:Nat}{t:Nat}{x:Tw}(n:K<=2000000)(h:St l τ W bw j (200*K))(d:∀y∈j,US K y)(g:j[t]?=some x)(s s2:ByteArray)(T a0 a1 c0 c1 nm:Int)(f:World)(hb:Bw W f):
  Calls prog 75 #[vP bw,.agg #[vP x.bt,vP x.br],.agg #[vI 7,vI T,vG s,vG s2,vI a0,vI a1,vI c0,vI c1,vI nm]] f (VI l τ W bw j.length (K+1)):=by
 have c:=h.below hb;obtain⟨u,F,H,D,G,ns,B,ms,I,i⟩:=id c;have k:=i.tw t x g;have A:=d x (Uq g)
 refine(qE s s2 T a0 a1 c0 c1 nm (sk k A nm)).mono ?_
 rintro e w' ⟨rfl,b⟩
 obtain⟨u,F,H,D,G,ns,B,ms,I,a⟩:=c.below b
 exact⟨rfl,_,j,(Vo.below hb).trans (Vo.below b),⟨u,F,H,D,G,ns,B,ms,I,a.law,by have:=a.n1;omega,by have:=a.n2;omega,a.row,a.tT,a.tw,a.lo,a.le⟩,fun y m=>(d y m).mono o_,Nat.le_refl _,Nat.le_succ _⟩
theorem rZ{l:Nat}{τ : Nat->yd}{W:World}{bw:Nat}{j:List Tw}{K:Nat}(ia:K<=1999999)(h:St l τ W bw j (200*K))(D:∀y∈j,US K y)(m:0<j.length)(M:j.length<=100000000)(s s2:ByteArray)(ja:s.size<=2000000)(ba:s2.size<=2000000)(T a0 a1 c0 c1 nm:Int)
  (N : -9223372036854775808<=T) (Q:T<=9223372036854775807) :
  Calls prog 36 #[vP bw,.agg #[vI 7,vI T,vG s,vG s2,vI a0,vI a1,vI c0,vI c1,vI nm]] W (VI l τ W bw j.length (K+1)):=by
 obtain⟨a,J,L,H,R,na,n,B⟩:=h.ZK m;obtain⟨r,F,i⟩:=Y4 T j.length N Q m o_;obtain⟨x,u⟩:∃x,j[r]?=some x:=⟨_,Ur F⟩;have b:=fun f hb=>qu o_ h D (t:=r) (x:=x) u s s2 T a0 a1 c0 c1 nm f hb
 obtain⟨v,w⟩:=B r x u;obtain⟨k,E⟩:∃k,k=j.length:=⟨_,rfl⟩;rw[<-E]at m M R n b F i ⊢;have b:∀f,Bw W f->Calls prog 75 #[vP bw,.agg #[vP x.bt,vP x.br],.agg #[vI 7,vI T,vG s,vG s2,vI a0,vI a1,vI c0,vI c1,vI nm]] f fun e w'=>e=vR (.bool true)/\VI l τ W bw k (K+1) (vR (.bool true)) w':=fun f O=>(b f O).mono (fun e w' o=>⟨o.1,by rw[<-o.1];exact o⟩)
 generalize VI l τ W bw k (K+1)=X at b ⊢;clear h D E B u;generalize x.bt=bt at b v;generalize x.br=br at b w;have ga:(r:Int)<k:=o_;have ca:(0:Int)<=r:=o_;have ha:((k:Int) == 0)=false:=by simp;omega
 have b3:zg (W.alloc (.cells #[vI 7,vI T,vG s,vG s2,vI a0,vI a1,vI c0,vI c1,vI nm] 87)) W.heap.size 87 #[vI 7,vI T,vG s,vG s2,vI a0,vI a1,vI c0,vI c1,vI nm]:=zg.new W 87 _;have c:Bw W (W.alloc (.cells #[vI 7,vI T,vG s,vG s2,vI a0,vI a1,vI c0,vI c1,vI nm] 87)):=(Below.refl _ _).alloc (Nat.le_refl _) _
 go_enter func36,ntmps36
 go_upto_region 7 with fail
 generalize W.alloc (.cells #[vI 7,vI T,vG s,vG s2,vI a0,vI a1,vI c0,vI c1,vI nm] 87)=d at b3 c ⊢;have da:=c.size;have aa:=b3.lt;have d0:=(c.cell (p:=vA bw 0) L).trans n;have d1:=b3.cell 1;have S:=(c.cell (p:=vA a (r*2)) H).trans v;have U:=(c.cell (p:=vA a (r*2+1)) H).trans w;simp only[s7]at d1;clear n v w;have n1:¬(bw=d.heap.size):=o_;have n2:¬(a=d.heap.size):=o_;have ka:¬(W.heap.size=d.heap.size):=o_;have ma:bw<d.heap.size:=o_;have oa:a<d.heap.size:=o_
 go_cut [6] from 62 to 75 (fun q z=>∃g,q=vP g/\Bw W z/\zg z g 128 #[vP bt,vP br]/\zg z W.heap.size 87 #[vI 7,vI T,vG s,vG s2,vI a0,vI a1,vI c0,vI c1,vI nm]/\W.heap.size<g)
 case first =>
  go_region_held3 (fun w'=>w'.cell? (vA bw 0)=some (vS a k J)/\w'.cell? (vA W.heap.size 1)=some (vI T)/\w'.cell? (vA a (r*2))=some (vP bt)/\w'.cell? (vA a (r*2+1))=some (vP br)) (go_keep)
   (first
   |(go_at_call 66;refine(i _).mono ?_;rintro e A ⟨rfl,I⟩;subst I))
  all_goals go_wp2_with fail
  all_goals go_meet
  all_goals exact⟨_,rfl,cl,(by first|(with_reducible exact zg.new' s_)|(with_reducible exact zg.drew (zg.new' s_))),s6,aa⟩
 case rest =>
  obtain⟨g,rfl,C,G,V,la⟩:=hcut;clear i S U d0 d1 b3 c;have pa:=C.size;have Y:=G.cell 0;have Z:=G.cell 1;have ea:=V.cell;simp only[s7]at Y Z
  go_wp2_with (go_at_call 75;refine(b _ C).mono ?_;rintro e A ⟨rfl,P⟩)
  all_goals exact P
theorem qi{l:Nat}{τ : Nat->yd}{W:World}{bw:Nat}{j:List Tw}{K:Nat}(sa:K<=1999999)(h:St l τ W bw j (200*K))(J:∀y∈j,US K y)(m:0<j.length)(V:j.length<=100000000)(s s2:ByteArray)(ta:s.size<=2000000)(ma:s2.size<=2000000)(z:Int)(T a0 a1 c0 c1 nm:Int)
  (Y : -9223372036854775808<=T) (ba:T<=9223372036854775807) (aa:z<=0\/11<z) :
  Calls prog 36 #[vP bw,.agg #[vI z,vI T,vG s,vG s2,vI a0,vI a1,vI c0,vI c1,vI nm]] W (VI l τ W bw j.length (K+1)):=by
 obtain⟨b,R,S,P,ca,Ca,n,E⟩:=h.ZK m;obtain⟨r,M,i⟩:=Y4 T j.length Y ba m o_;obtain⟨x,N⟩:∃x,j[r]?=some x:=⟨_,Ur M⟩;obtain⟨o,t⟩:=E r x N;obtain⟨k,L⟩:∃k,k=j.length:=⟨_,rfl⟩;rw[<-L]at m V ca n M i ⊢;have C:∀f,Bw W f->VI l τ W bw k (K+1) (vR (.bool true)) f:=fun f hb=>by
  obtain⟨u,F,H,D,G,ns,B,ms,I,a⟩:=h.below hb
  exact⟨rfl,_,j,Vo.below hb,⟨u,F,H,D,G,ns,B,ms,I,⟨a.law,by have:=a.n1;omega,by have:=a.n2;omega,a.row,a.tT,a.tw,a.lo,a.le⟩⟩,fun y Z=>(J y Z).mono o_,o_,o_⟩
 have w:Hid (∀f,Bw W f->VI l τ W bw k (K+1) (vR (.bool true)) f):=C;clear C;generalize VI l τ W bw k (K+1)=X at w ⊢;clear h J L E N;generalize x.bt=bt at o;generalize x.br=br at t;have Fa:(z == 1)=false:=by simp;omega
 have Ga:(z == 2)=false:=by simp;omega
 have Ha:(z == 3)=false:=by simp;omega
 have Ia:(z == 4)=false:=by simp;omega
 have Ja:(z == 5)=false:=by simp;omega
 have Ka:(z == 6)=false:=by simp;omega
 have La:(z == 7)=false:=by simp;omega
 have Ma:(z == 8)=false:=by simp;omega
 have Na:(z == 9)=false:=by simp;omega
 have ka:(z == 10)=false:=by simp;omega
 have la:(z == 11)=false:=by simp;omega
 clear aa;have qa:(r:Int)<k:=o_;have na:(0:Int)<=r:=o_;have ra:((k:Int) == 0)=false:=by simp;omega
 have b3:zg (W.alloc (.cells #[vI z,vI T,vG s,vG s2,vI a0,vI a1,vI c0,vI c1,vI nm] 87)) W.heap.size 87 #[vI z,vI T,vG s,vG s2,vI a0,vI a1,vI c0,vI c1,vI nm]:=zg.new W 87 _;have c:Bw W (W.alloc (.cells #[vI z,vI T,vG s,vG s2,vI a0,vI a1,vI c0,vI c1,vI nm] 87)):=(Below.refl _ _).alloc (Nat.le_refl _) _
 go_enter func36,ntmps36
 go_upto_region 7 with fail
 generalize W.alloc (.cells #[vI z,vI T,vG s,vG s2,vI a0,vI a1,vI c0,vI c1,vI nm] 87)=d at b3 c ⊢;have oa:=c.size;have ja:=b3.lt;have d0:=(c.cell (p:=vA bw 0) S).trans n;have d1:=b3.cell 1;have da:=(c.cell (p:=vA b (r*2)) P).trans o;have ea:=(c.cell (p:=vA b (r*2+1)) P).trans t;simp only[s7]at d1;clear n o t;have n1:¬(bw=d.heap.size):=o_;have n2:¬(b=d.heap.size):=o_;have ua:¬(W.heap.size=d.heap.size):=o_;have Ba:bw<d.heap.size:=o_;have Da:b<d.heap.size:=o_
 go_cut [6] from 62 to 75 (fun q v=>∃g,q=vP g/\Bw W v/\zg v g 128 #[vP bt,vP br]/\zg v W.heap.size 87 #[vI z,vI T,vG s,vG s2,vI a0,vI a1,vI c0,vI c1,vI nm]/\W.heap.size<g)
 case first =>
  go_region_held3 (fun w'=>w'.cell? (vA bw 0)=some (vS b k R)/\w'.cell? (vA W.heap.size 1)=some (vI T)/\w'.cell? (vA b (r*2))=some (vP bt)/\w'.cell? (vA b (r*2+1))=some (vP br)) (go_keep)
   (first
   |(go_at_call 66;refine(i _).mono ?_;rintro e A ⟨rfl,Q⟩;subst Q))
  all_goals go_wp2_with fail
  all_goals go_meet
  all_goals exact⟨_,rfl,cl,(by first|(with_reducible exact zg.new' s_)|(with_reducible exact zg.drew (zg.new' s_))),s6,ja⟩
 case rest =>
  obtain⟨g,rfl,U,O,ga,Aa⟩:=hcut;clear i da ea d0 d1 b3 c;have Ea:=U.size;have ha:=O.cell 0;have ia:=O.cell 1;have pa:=ga.cell;simp only[s7]at ha ia
  go_wp2
  all_goals exact w.out _ cl
theorem yl.keys{za:List zc}{Ws:List Wk}(R:yl za Ws ws zh)(f:∀x∈Ws,0<=x.st)(k:List Bs):(∃y∈Ws,y.zb=k)↔(∃z∈ws++zh,z.x.zb=k):=by
 obtain⟨d,a1,a2,_⟩:=R.a
 constructor
 ·rintro⟨y,c,rfl⟩
  have i:=f y c
  by_cases h:y.st=0
  ·have:y∈ws.map (·.x):=by rw[R.w];exact Vu.2 ⟨c,by simp[h]⟩
   obtain⟨z,b,e⟩:=UC.1 this
   exact⟨z,UM _ b,by rw[e]⟩
  ·have:y∈d:=a2.symm.subset (Vu.2 ⟨c,by simp;omega⟩)
   have:y.yi 0∈zh.map (·.x):=by rw[a1];exact VF this
   obtain⟨z,b,e⟩:=UC.1 this
   exact⟨z,U8 _ b,by rw[e];rfl⟩
 ·rintro⟨z,b,rfl⟩
  rcases UU.1 b with h|h
  ·have:z.x∈ws.map (·.x):=VF h
   rw[R.w]at this
   exact⟨z.x,(Vu.1 this).1,rfl⟩
  ·have:z.x∈zh.map (·.x):=VF h
   rw[a1]at this;obtain⟨v,g,e⟩:=UC.1 this
   exact⟨v,(Vu.1 (a2.subset g)).1,by rw[<-e];rfl⟩
theorem o8{za:List zc}(T:zr za)(r:U_ za){Ws:List Wk}(R:yl za Ws ws zh)(B:∀x∈Ws,0<=x.st)(C:xm Ws){q:zc}(hq:q∈za){s:Bs}(A:q.zb=s4 s):
  WD (za.map zc.zq) Ws s=(!(q.zv.length == 0)||(ws++zh).any (fun p=>p.q == q.ze)):=by
 have d:s=kN q.zb:=by rw[A,Wi]
 have g:=(T.ok q hq).1;obtain⟨u,g1,g2,_⟩:=T.zv q hq;unfold WD
 congr 1
 ·rw[Bool.eq_iff_iff,W7];simp only[Bool.not_eq_true',beq_eq_false_iff_ne,ne_eq]
  constructor
  ·rintro⟨e,D,b⟩
   obtain⟨n,t,rfl⟩:=UC.1 D;have v:=(T.ok n t).1;unfold kidE at b;rw[d]at b;simp only[Bool.and_eq_true,Bool.not_eq_true',decide_eq_false_iff_not]at b;obtain⟨a,h⟩:=b;obtain⟨tl,j⟩:=(ZI v g).1 a;have j:q.zb++tl=n.zb:=j
   cases tl with
   |nil=>exact absurd (show kN n.zb=kN q.zb by rw[<-j,List.append_nil]) h
   |cons y tl =>
    obtain⟨m,E,w⟩:=T.pre tl (q.zb++[y]) n t (by rw[<-j];simp)
    have:m∈u:=(g2 m).2 ⟨E,y,w⟩
    intro c;rw[g1]at c
    simp at c
    rw[c]at this
    cases this
  ·intro c;rw[g1]at c
   cases u with
   |nil=>simp at c
   |cons k l =>
    obtain⟨a,y,h⟩:=(g2 k).1 s_
    refine⟨k.zq,VF a,?_⟩
    have o:=(T.ok k a).1;unfold kidE;simp only[Bool.and_eq_true,Bool.not_eq_true',decide_eq_false_iff_not]
    refine⟨?_,?_⟩
    ·rw[d];exact(ZI o g).2 ⟨[y],h.symm⟩
    ·rw[d];intro e;have e:kN k.zb=kN q.zb:=e
     have:=Y0 o g e
     rw[h]at this
     have:=congrArg List.length this
     simp at this
 ·rw[Bool.eq_iff_iff,W7,W7];have b:=R.keys B q.zb
  constructor
  ·rintro⟨y,i,a⟩
   unfold atW at a;have a:=of_decide_eq_true a;rw[d]at a
   have:=Y0 (C.ok y i).1 g a
   obtain⟨z,f,e⟩:=b.1 ⟨y,i,this⟩
   exact⟨z,f,by rw[R.aD T r hq f,e];simp⟩
  ·rintro⟨z,f,a⟩
   rw[R.aD T r hq f]at a;obtain⟨y,i,e⟩:=b.2 ⟨z,f,of_decide_eq_true a⟩
   exact⟨y,i,by unfold atW;rw[e,d];simp⟩
theorem nn{za:List zc}(T:zr za)(d:U_ za){Ws:List Wk}(R:yl za Ws ws zh)(e:∀x∈Ws,0<=x.st)(f:xm Ws)(s:Bs):
  (if yv (za.map zc.zq) s≠0 then yv (za.map zc.zq) s else if WD (za.map zc.zq) Ws s=true then 9 else 0)=hZ za (ws++zh) s:=by
 unfold hZ yv;rw[WN]
 by_cases a:UB s=false
 ·simp[a]
 ·by_cases b:s=[]
  ·rw[if_neg a,if_pos b,if_neg a,if_pos b];rfl
  ·cases h3:zp za (s4 s) with
   |none=>simp[a,b]
   |some n =>
    obtain⟨g,c⟩:=VZ h3;rw[o8 T d R e f g c]
    simp[a,b]
def X6 (x:Tw)(s:Bs):Out :=
 match zp x.za (s4 s) with
 |none=>x.same (hZ x.za (x.ws++x.zh) s)
 |some q=>if hZ x.za (x.ws++x.zh) s≠0 then x.same (hZ x.za (x.ws++x.zh) s) else if xo (xa x.L q.zb) x.Ws≠0 then x.same (xo (xa x.L q.zb) x.Ws)
  else Wg (xa x.L q.zb) x.zo (UH (xa x.L q.zb) ⟨x.Ws,x.st,[]⟩)
theorem c4{W:World}(s:ByteArray){M:World->Prop}{F:Value->World->Prop}
  (b:Calls prog 58 #[vP bt,vG s] W fun e w'=>e=vR (vI er)/\M w')
  (a:∀f,M f->Calls prog 51 #[vP bt,vI er] f fun e w'=>∃ev,e=vT #[ev,vI er]/\F ev w') :
  Calls prog 31 #[vP bt,vG s] W fun e w'=>∃ev,e=vT #[ev,vI er]/\F ev w':=by
 go_enter func31,ntmps31
 go_wp2_with (first
  |(go_at_call 58;refine b.mono ?_;rintro e A ⟨rfl,d⟩)
  |(go_at_call 51;refine(a _ d).mono ?_;rintro e J ⟨ev,rfl,c⟩))
 exact Us (v:=.tuple #[ev,vI er]) (by simp[results,results31,go_sem]) rfl ⟨ev,rfl,c⟩
theorem rI{τ : Nat->yd}{t K:Nat}{W:World}{x:Tw}(A:US K x){p:zc}{sl:Value}(g:yw τ t W x.bt (vl x.za p sl) x.zn x.vw x.va x.ws x.zh w')(err:Int):vm τ t W x.bt (x.same err) v0_ w':=by
 obtain⟨τ',m1,i,d,j⟩:=g;have a:=fun z=>dp p sl z
 refine⟨τ',vl x.za p sl,x.vw,x.va,x.ws,x.zh,m1,i,?_,?_,?_,Vx _ _ _ _,(fun b hb=>by cases hb),j⟩
 ·show UJ τ' t w' x.bt _ x.zo x.vw x.va x.ws x.zh
  rw[A.zo];exact d
 ·show _=x.L
  rw[j5,A.L]
 ·refine⟨d.pr.tree,A.com.rel.b8 (fun n c=>⟨_,VF c,(a n).ze,(a n).zb⟩),A.com.inv,⟨fun y h=>?_,A.com.wkl.zm⟩,A.com.cnt0⟩
  obtain⟨n,c,e,f⟩:=A.com.wkl.zj y h
  exact⟨_,VF c,(a n).zb.trans e,(a n).zj.trans f⟩
theorem tG{τ : Nat->yd}{t K:Nat}{W:World}{x:Tw}(j:UJ τ t W x.bt x.za x.zn x.vw x.va x.ws x.zh)(A:US K x)(s:ByteArray)(v:s.size<=2000000):
  Calls prog 31 #[vP x.bt,vG s] W fun e w'=>∃ev,e=vR (.tuple #[ev,vI (X6 x (bl s)).err])/\vm τ t W x.bt (X6 x (bl s)) ev w':=by
 have T:=j.pr.tree;have H:=j.pr.WY;have C:∀y∈x.Ws,0<=y.st:=fun y k=>(A.inv.yh.st y k).1
 by_cases d:hZ x.za (x.ws++x.zh) (bl s)=0
 ·obtain⟨R,O,q,o,P,D⟩:=cY d;obtain⟨hq,Q⟩:=VZ o;have m:=rL j A.com.rel A.inv.yh.yh s v d o;rw[<-A.L]at m;have g:X6 x (bl s)=if xo (xa x.L q.zb) x.Ws≠0 then x.same (xo (xa x.L q.zb) x.Ws) else Wg (xa x.L q.zb) x.zo (UH (xa x.L q.zb) ⟨x.Ws,x.st,[]⟩):=by
   unfold X6;simp only[o];rw[if_neg (j_ d)]
  by_cases c:xo (xa x.L q.zb) x.Ws=0
  ·rw[if_neg (j_ c)]at g;rw[g]
   refine c4 (M:=fun w'=>∃p∈x.za,∃i sl,yw τ t W x.bt (xu x.za q p i sl) x.zn x.vw x.va x.ws x.zh w') s (m.mono fun e w' h=>?_) (fun f b=>?_)
   ·obtain⟨h3,G,_⟩:=h;rw[c]at h3
    exact⟨h3,G c⟩
   ·obtain⟨p,hp,i,sl,b⟩:=b;obtain⟨τ1,_,_,g3,_⟩:=id b;obtain⟨S,_,E⟩:=g3.bk;have J:yl (xu x.za q p i sl) x.Ws x.ws x.zh:=⟨A.com.rel.w,A.com.rel.a,E.lf⟩;have I:ue (xu x.za q p i sl) x.Ws x.zn:=by
     refine⟨fun y k=>?_,by rw[<-A.zo];exact A.com.wkl.zm⟩
     obtain⟨n,u,l,r⟩:=A.com.wkl.zj y k;obtain⟨z,B,F⟩:=(A.com.rel.keys C y.zb).1 ⟨y,k,rfl⟩;have N:n.zb≠q.zb:=fun e=>D z B (by have:=A.com.rel.aD T H hq B;rw[F,<- l,e]at this;simpa using this)
     refine⟨_,(dP x.za q p i sl _).2 ⟨n,u,N,rfl⟩,?_⟩
     by_cases e:n.zb=p.zb
     ·have:n=p:=T.inj n u p hp e
      subst this;rw[if_pos rfl];exact⟨l,r⟩
     ·rw[if_neg e];exact⟨l,r⟩
    have:=dg b J A.inv I (by rw[<-A.zo];exact A.com.cnt0)
    rw[<-A.zo,js T hp,<- A.L]at this
    exact this
  ·rw[if_pos c]at g;rw[g]
   refine c4 (M:=fun w'=>∃p∈x.za,∃sl,yw τ t W x.bt (vl x.za p sl) x.zn x.vw x.va x.ws x.zh w') s (m.mono fun e w' h=>⟨h.1,h.2.2 c⟩) (fun f b=>?_)
   obtain⟨p,hp,sl,b⟩:=b
   refine(XX (w:=f) (bt:=x.bt) c).mono ?_
   rintro e w' ⟨rfl,rfl⟩
   exact⟨_,rfl,rI A b _⟩
 ·have g:X6 x (bl s)=x.same (hZ x.za (x.ws++x.zh) (bl s)):=by
   unfold X6
   cases zp x.za (s4 (bl s)) with
   |none=>rfl
   |some n=>simp only[ne_eq,d,not_false_eq_true,if_true]
  rw[g]
  refine c4 (M:=fun w'=>Bw W w') s (rK j s v rfl d) (fun f b=>?_)
  refine(XX (w:=f) (bt:=x.bt) d).mono ?_
  rintro e w' ⟨rfl,rfl⟩
  exact⟨_,rfl,Zw j A b _⟩
section
variable {l:Nat}{τ : Nat->yd}{W:World}{bw:Nat}{j:List Tw}{K t:Nat}{x:Tw}
theorem nL(D:K<=2000000)(h:St l τ W bw j (200*K))(v:∀y∈j,US K y)(m:j[t]?=some x)(s:ByteArray)(G:s.size<=2000000):
  Yp l τ W bw j.length K 31 #[vP x.bt,vG s] 72 #[vP x.br,vG s] xn:=by
 have A:=v x (Uq m);have Q:x.st<=900000000:=by have:=A.stK;omega
 have O:∀y∈x.Ws,0<=y.st:=fun y Z=>(A.inv.yh.st y Z).1
 have T:=A.com.tree;have hp:=fun τ1 f (U:UJ τ1 t f x.bt x.za x.zn x.vw x.va x.ws x.zh)=>tG U A s G
 have i:∀J:U_ x.za,(if yv x.L (bl s)≠0 then yv x.L (bl s) else if WD x.L x.Ws (bl s)=true then 9 else 0)=hZ x.za (x.ws++x.zh) (bl s):=fun J=>by rw[A.L];exact nn T J A.com.rel O A.inv.yh.yh (bl s)
 have N:U_ x.za:=by
  obtain⟨_,_,_,_,_,_,_,_,_,V⟩:=h
  exact(V.tw t x m).P.pr.WY
 have i:=i N
 by_cases a:hZ x.za (x.ws++x.zh) (bl s)=0
 ·obtain⟨Y,I,q,w,da,ca⟩:=cY a;obtain⟨hq,R⟩:=VZ w;have M:yv x.L (bl s)=0:=by unfold yv;rw[A.L,WN,w];simp[Y,I]
  have aa:WD x.L x.Ws (bl s)=false:=by
   rw[a,if_neg (j_ M)]at i
   cases hb:WD x.L x.Ws (bl s)
   ·rfl
   ·rw[hb]at i;simp at i
  have ba:UW x.L (s4 (bl s))=some q.zq:=by rw[A.L,WN,w];rfl
  have H:ym (xa x.L (s4 (bl s)))/\wb (xa x.L (s4 (bl s))):=by
   have E:=A.ents;have B:=A.bors;have z:∀e∈xa x.L (s4 (bl s)),e∈x.L:=fun e a=>(Vu.1 a).1
   refine⟨⟨fun e a=>E.ok e (z e a),fun e a=>E.zm e (z e a),Nat.le_trans (Wt _ _) E.len,?_⟩,fun e a=>B e (z e a)⟩
   obtain⟨r,S,b,_⟩:=T.root;have X:r.zq∈xa x.L (s4 (bl s)):=Vu.2 ⟨by rw[A.L];exact VF (Uq S),by
    have e:¬(r.zq.zb=s4 (bl s)):=fun e=>I (YC (by rw[<-e];exact b))
    simp[e]⟩
   exact List.length_pos_of_mem X
  have k:=fun f (c:zy f x.br x.g x.cap x.L x.ao x.cW x.Ws x.zo x.st)=>mX c A.ents A.nodup A.uj A.inv Q s G M ba aa H.1 H.2
  have F:X6 x (bl s)=if VU (xa x.L q.zb) x.Ws=true then x.same 11 else Wg (xa x.L q.zb) x.zo (UH (xa x.L q.zb) ⟨x.Ws,x.st,[]⟩):=by
   unfold X6 xo;simp only[w];rw[if_neg (j_ a)]
   cases VU (xa x.L q.zb) x.Ws<;>simp
  rw[<-R]at k;rw[F]at hp;generalize xa x.L q.zb=L' at *
  cases u:VU L' x.Ws
  ·rw[u]at hp;simp only[Bool.false_eq_true,if_false]at hp;obtain⟨l1,l2,p⟩:=YG A L' A.inv (zo:=x.zo) (h_ A.cntK)
   refine WM D h v m (o:=Wg L' x.zo (UH L' ⟨x.Ws,x.st,[]⟩)) l1 l2 p xn 0 hp (fun f c=>(k f c).mono fun e w' d=>?_)
   rcases d with ⟨b,_⟩|⟨_,sl,b,C⟩
   ·rw[u]at b;cases b
   ·exact⟨sl,b,C⟩
  ·rw[u]at hp;simp only[if_true]at hp;obtain⟨l1,l2,p⟩:=XO A 11
   refine WM D h v m (o:=x.same 11) l1 l2 p xn 0 hp (fun f c=>(k f c).mono fun e w' d=>?_)
   rcases d with ⟨_,b,C⟩|⟨b,_⟩
   ·exact⟨_,b,C⟩
   ·rw[u]at b;cases b
 ·have F:X6 x (bl s)=x.same (hZ x.za (x.ws++x.zh) (bl s)):=by
   unfold X6
   cases zp x.za (s4 (bl s)) with
   |none=>rfl
   |some n=>simp only[ne_eq,a,not_false_eq_true,if_true]
  rw[F]at hp;have k:=fun f (c:zy f x.br x.g x.cap x.L x.ao x.cW x.Ws x.zo x.st)=>mW c A.ents A.inv.yh.yh A.uj s G i a
  generalize hZ x.za (x.ws++x.zh) (bl s)=err at *;obtain⟨l1,l2,p⟩:=XO A err
  exact WM D h v m (o:=x.same err) l1 l2 p xn 0 hp (fun f c=>(k f c).mono fun e w' d=>⟨_,d.1,YE c d.2 err⟩)
end
section
variable {za:List zc}{q p a:zc}{nm:Bs}{ks kt:List zc}{i zl:Nat}
theorem Mv.wkl(M:Mv za q p a nm ks i kt zl)(b c:Value){Ws:List Wk}{zo:Int}(H:ue za Ws zo):ue (za.map (gM q p a nm i b zl c)) (Ws.map (we q.zb (a.zb++[nm]))) zo:=by
 refine⟨fun y f=>?_,fun y f=>?_⟩<;>obtain⟨x,e,rfl⟩:=UC.1 f
 ·obtain⟨n,d,h,j⟩:=H.zj x e;obtain⟨g1,g2,g3,_⟩:=M.gmv b c n d
  exact⟨_,VF d,by rw[g1,h];rfl,g3.trans j⟩
 ·exact H.zm x e
theorem Mv.sinv(M:Mv za q p a nm ks i kt zl){Ws:List Wk}{zo st:Int}(H:ue za Ws zo)(I:ye ⟨Ws,st,[]⟩):ye ⟨Ws.map (we q.zb (a.zb++[nm])),st,[]⟩:=by
 have d:=M.wkl v0_ v0_ H;have T':=M.tree v0_ v0_
 refine⟨⟨⟨fun y b=>?_,fun y b=>?_,by simpa using I.yh.yh.len⟩,?_,fun y b=>?_,?_⟩,I.st0,d.wy T'⟩
 ·obtain⟨n,f,e,_⟩:=d.zj y b;rw[<-e];exact T'.ok n f
 ·obtain⟨x,c,rfl⟩:=UC.1 b
  exact I.yh.yh.zm x c
 ·show((Ws.map (we q.zb (a.zb++[nm]))).map (·.zm)).Nodup
  rw[List.map_map];exact I.yh.nums
 ·obtain⟨x,c,rfl⟩:=UC.1 b
  exact I.yh.st x c
 ·show(((Ws.map (we q.zb (a.zb++[nm]))).filter fun x=>decide (0<x.st)).map (·.st)).Nodup
  rw[List.filter_map,List.map_map];exact I.yh.sts
end
def tJ (x:Tw)(s s2:Bs):Out :=
 match zp x.za (s4 s),zp x.za (s4 s2) with
 |some q,some a=>if tj x.za s s2≠0 then x.same (tj x.za s s2)
  else if xo (x.L.map (wg q.zb (a.zb++[mN q.zb]))) (x.Ws.map (we q.zb (a.zb++[mN q.zb])))≠0 then x.same (xo (x.L.map (wg q.zb (a.zb++[mN q.zb]))) (x.Ws.map (we q.zb (a.zb++[mN q.zb]))))
  else Wg (x.L.map (wg q.zb (a.zb++[mN q.zb]))) x.zo (UH (x.L.map (wg q.zb (a.zb++[mN q.zb]))) ⟨x.Ws.map (we q.zb (a.zb++[mN q.zb])),x.st,[]⟩)
 |_,_=>x.same (tj x.za s s2)
theorem ig{x:Tw}{s:Bs}(h:tj x.za s s2≠0):tJ x s s2=x.same (tj x.za s s2):=by
 unfold tJ
 split
 ·rw[if_pos h]
 ·rfl
theorem dz{W:World}(s s2:ByteArray){M:World->Prop}{F:Value->World->Prop}
  (b:Calls prog 57 #[vP bt,vG s,vG s2] W fun e w'=>e=vR (vI er)/\M w')
  (a:∀f,M f->Calls prog 51 #[vP bt,vI er] f fun e w'=>∃ev,e=vT #[ev,vI er]/\F ev w') :
  Calls prog 30 #[vP bt,vG s,vG s2] W fun e w'=>∃ev,e=vT #[ev,vI er]/\F ev w':=by
 go_enter func30,ntmps30
 go_wp2_with (first
  |(go_at_call 57;refine b.mono ?_;rintro e A ⟨rfl,d⟩)
  |(go_at_call 51;refine(a _ d).mono ?_;rintro e J ⟨ev,rfl,c⟩))
 exact Us (v:=.tuple #[ev,vI er]) (by simp[results,results30,go_sem]) rfl ⟨ev,rfl,c⟩
theorem rH{τ : Nat->yd}{t K:Nat}{W:World}{x:Tw}(A:US K x){c:List zc}(l:c.map zc.zq=x.za.map zc.zq)(g:∀n∈x.za,∃a∈c,a.ze=n.ze/\a.zb=n.zb/\a.zj=n.zj)(m:yw τ t W x.bt c x.zn x.vw x.va x.ws x.zh w')(err:Int):vm τ t W x.bt (x.same err) v0_ w':=by
 obtain⟨τ',m1,p,h,q⟩:=m
 refine⟨τ',c,x.vw,x.va,x.ws,x.zh,m1,p,?_,?_,?_,Vx _ _ _ _,(fun b hb=>by cases hb),q⟩
 ·show UJ τ' t w' x.bt _ x.zo x.vw x.va x.ws x.zh
  rw[A.zo];exact h
 ·show _=x.L
  rw[l,A.L]
 ·refine⟨h.pr.tree,A.com.rel.b8 (fun n e=>by obtain⟨a,d,f,h3,_⟩:=g n e;exact⟨a,d,f,h3⟩),A.com.inv,⟨fun y o=>?_,A.com.wkl.zm⟩,A.com.cnt0⟩
  obtain⟨n,e,i,j⟩:=A.com.wkl.zj y o;obtain⟨a,d,f,h3,k⟩:=g n e
  exact⟨a,d,h3.trans i,k.trans j⟩
theorem mi{τ : Nat->yd}{t K:Nat}{W:World}{x:Tw}(j:UJ τ t W x.bt x.za x.zn x.vw x.va x.ws x.zh)(A:US K x)(s s2:ByteArray)(E:s.size<=2000000)(C:s2.size<=2000000):
  Calls prog 30 #[vP x.bt,vG s,vG s2] W fun e w'=>∃ev,e=vR (.tuple #[ev,vI (tJ x (bl s) (bl s2)).err])/\vm τ t W x.bt (tJ x (bl s) (bl s2)) ev w':=by
 have T:=j.pr.tree
 by_cases d:tj x.za (bl s) (bl s2)=0
 ·obtain⟨Y,I,q,a,v,z,P,Q,h3,R⟩:=gr d;obtain⟨hq,O⟩:=VZ v;obtain⟨ht,Z⟩:=VZ z;have X:q.zb≠[]:=by rw[O];intro e;exact I (YC e)
  obtain⟨p,ks,i,kt,zl,M⟩:=Mv.of T hq ht X P Q h3 R;have B:=M.sinv A.com.wkl A.inv;have u:=ku j A.com.rel s s2 E C d v z M B.yh.yh rfl;rw[<-A.L]at u;have l:tJ x (bl s) (bl s2)=if xo (x.L.map (wg q.zb (a.zb++[mN q.zb]))) (x.Ws.map (we q.zb (a.zb++[mN q.zb])))≠0 then x.same (xo (x.L.map (wg q.zb (a.zb++[mN q.zb]))) (x.Ws.map (we q.zb (a.zb++[mN q.zb])))) else Wg (x.L.map (wg q.zb (a.zb++[mN q.zb]))) x.zo (UH (x.L.map (wg q.zb (a.zb++[mN q.zb]))) ⟨x.Ws.map (we q.zb (a.zb++[mN q.zb])),x.st,[]⟩):=by
   unfold tJ;simp only[v,z];rw[if_neg (j_ d)]
  by_cases c:xo (x.L.map (wg q.zb (a.zb++[mN q.zb]))) (x.Ws.map (we q.zb (a.zb++[mN q.zb])))=0
  ·rw[if_neg (j_ c)]at l;rw[l]
   refine dz (M:=fun w'=>∃m o,yw τ t W x.bt (x.za.map (gM q p a (mN q.zb) i m zl o)) x.zn x.vw x.va (x.ws.map (mvP q.zb (a.zb++[mN q.zb]))) (x.zh.map (mvP q.zb (a.zb++[mN q.zb]))) w') s s2 (u.mono fun e w' h=>?_) (fun f b=>?_)
   ·obtain⟨g,S,_⟩:=h;rw[c]at g
    exact⟨g,S c⟩
   ·obtain⟨m,o,b⟩:=b;obtain⟨τ1,_,_,g3,_⟩:=id b;obtain⟨aa,_,F⟩:=g3.bk;have U:=A.com.rel.Zh q.zb (a.zb++[mN q.zb]) F.lf;have D:=M.wkl m o A.com.wkl;rw[A.zo]at D
    have:=dg b U B D (by rw[<-A.zo];exact A.com.cnt0)
    rw[<-A.zo,M.ents,<- A.L]at this
    exact this
  ·rw[if_pos c]at l;rw[l]
   refine dz (M:=fun w'=>∃k,k.map zc.zq=x.za.map zc.zq/\(∀n∈x.za,∃y∈k,y.ze=n.ze/\y.zb=n.zb/\y.zj=n.zj)/\yw τ t W x.bt k x.zn x.vw x.va x.ws x.zh w') s s2 (u.mono fun e w' h=>⟨h.1,by have g:=h.2.2 c;rw[A.L]at g;exact g⟩) (fun f b=>?_)
   obtain⟨k,J,N,b⟩:=b
   refine(XX (w:=f) (bt:=x.bt) c).mono ?_
   rintro e w' ⟨rfl,rfl⟩
   exact⟨_,rfl,rH A J N b _⟩
 ·rw[ig d];obtain⟨r,H,hb⟩:=j.bk;obtain⟨V,G⟩:=Ww T H
  refine dz (M:=fun w'=>Bw W w') s s2 (tq s s2 d (fw T j.pr.WY hb V G s s2 E C)) (fun f b=>?_)
  refine(XX (w:=f) (bt:=x.bt) d).mono ?_
  rintro e w' ⟨rfl,rfl⟩
  exact⟨_,rfl,Zw j A b _⟩
theorem n6{za:List zc}(T:zr za)(s s2:Bs):ay (za.map zc.zq) s s2=tj za s s2:=by
 unfold ay tj yv xg
 cases b:UB s
 ·simp[b]
 cases d:UB s2
 ·simp[b,d]
 by_cases h3:s=[]
 ·subst h3;simp[b,d]
 rw[WN,WN]
 cases k:zp za (s4 s) with
 |none=>simp[b,d,h3]
 |some q =>
  cases l:zp za (s4 s2) with
  |none=>simp[b,d,h3]
  |some a =>
   obtain⟨hq,f⟩:=VZ k;obtain⟨ht,g⟩:=VZ l;have h:=(T.ok q hq).1;have o:=(T.ok a ht).1;have i:xc s2 s=q.zb.isPrefixOf a.zb:=by
    rw[show s2=kN a.zb by rw[g,Wi],show s=kN q.zb by rw[f,Wi],Bool.eq_iff_iff,ZI o h,WK]
   have j:((za.map zc.zq).any fun e=>decide (4<(xz q.zb (a.zb++[mN q.zb]) e.zb).length))=YR za q a:=by
    unfold YR;rw[List.any_map,List.all_filter,List.not_all_eq_any_not,Bool.eq_iff_iff,W7,W7]
    refine exists_congr fun n=>and_congr_right fun m=>?_
    have p:=(T.ok n m).2;simp only[Function.comp,okD]
    show decide (4<(xz q.zb (a.zb++[mN q.zb]) n.zb).length)=true↔_
    by_cases c:q.zb <+: n.zb
    ·have c2:=c.length_le;rw[WC c,WK.2 c]
     simp
     omega
    ·rw[V7 c,Bool.eq_false_iff.2 (fun e=>c (WK.1 e))]
     simp
     omega
   rw[<-f,<- g,i,WN,j]
   have:a.zq.zj=a.zj:=rfl
   simp[b,d,h3,this]
theorem qX{L:List zx}{s:Bs}(h:yv L s=0):UB s=true/\s≠[]/\∃x,UW L (s4 s)=some x:=by
 unfold yv at h
 by_cases a:UB s=false
 ·rw[if_pos a]at h;cases h
 ·rw[if_neg a]at h
  by_cases b:s=[]
  ·rw[if_pos b]at h;cases h
  ·rw[if_neg b]at h
   cases h3:UW L (s4 s) with
   |none=>rw[h3]at h;cases h
   |some x=>exact⟨by simpa using a,b,x,rfl⟩
section
variable {w:World}{br g cap:Nat}{L:List zx}{ao:Option Addr}{cW:Nat}{Ws:List Wk}{zo st:Int}
theorem rA(h:zy w br g cap L ao cW Ws zo st)(E:ym L)(j:∀a∈L,∀b∈L,a.zb=b.zb->a=b)(I:ye ⟨Ws,st,[]⟩)(v:st<=900000000)(s s2:ByteArray)(f:s.size<=2000000)(d:s2.size<=2000000)(c:ay L (bl s) (bl s2)=er)(u:er≠0):
  Calls prog 73 #[vP br,vG s,vG s2] w fun e w'=>e=vT #[v0_,vI er]/\Bw w w':=by
 unfold ay at c
 by_cases c1:(UB (bl s)&&UB (bl s2))=false
 ·rw[if_pos c1]at c;subst c;exact sW s s2 f d c1
 rw[if_neg c1]at c;have t:(UB (bl s)&&UB (bl s2))=true:=by simpa using c1
 obtain⟨o,n⟩:UB (bl s)=true/\UB (bl s2)=true:=by simpa using t
 by_cases c2:yv L (bl s)=0
 ·rw[if_neg (j_ c2)]at c;obtain⟨_,_,x,p⟩:=qX c2
  cases i:UW L (s4 (bl s2)) with
  |none=>rw[i]at c;simp only at c;subst c;exact sX h E j s s2 f d o n c2 p i
  |some y =>
   rw[i]at c
   simp only at c
   by_cases k:y.zj=true
   ·rw[if_pos k]at c;subst c;exact sZ h E j s s2 f d o n c2 p i k
   rw[if_neg k]at c
   by_cases m:xc (bl s2) (bl s)=true
   ·rw[if_pos m]at c;subst c;exact rz h E j s s2 f d o n c2 p i (j_ k) m
   rw[if_neg m]at c
   cases r:UW L (s4 (bl s2)++[mN (s4 (bl s))]) with
   |some z =>
    rw[r]at c;simp only[Option.isSome_some,if_true]at c;subst c
    exact sY h E j s s2 f d o n c2 p i (j_ k) (j_ m) r
   |none =>
    rw[r]at c;simp only[Option.isSome_none,Bool.false_eq_true,if_false]at c
    by_cases l:(L.any fun e=>decide (4<(xz (s4 (bl s)) (s4 (bl s2)++[mN (s4 (bl s))]) e.zb).length))=true
    ·rw[if_pos l]at c;subst c;have l:Xf L (s4 (bl s)) (s4 (bl s2)++[mN (s4 (bl s))])=true:=l
     refine(ih h E j s s2 f d o n c2 p i (j_ k) (j_ m) r I v (fun e=>by rw[l]at e;cases e)).mono ?_
     rintro e w' (⟨_,q,A⟩|⟨q,_⟩)
     ·exact⟨q,A⟩
     ·rw[l]at q;cases q
    ·rw[if_neg l]at c;exact absurd c.symm u
 ·rw[if_pos c2]at c
  exact sq h E j s s2 f d t c u
end
section
variable {l:Nat}{τ : Nat->yd}{W:World}{bw:Nat}{j:List Tw}{K t:Nat}{x:Tw}
theorem pW(E:K<=2000000)(h:St l τ W bw j (200*K))(w:∀y∈j,US K y)(C:j[t]?=some x)(s s2:ByteArray)(F:s.size<=2000000)(D:s2.size<=2000000):
  Yp l τ W bw j.length K 30 #[vP x.bt,vG s,vG s2] 73 #[vP x.br,vG s,vG s2] xn:=by
 have A:=w x (Uq C);have J:x.st<=900000000:=by have:=A.stK;omega
 have T:=A.com.tree;have hp:=fun τ1 f (Y:UJ τ1 t f x.bt x.za x.zn x.vw x.va x.ws x.zh)=>mi Y A s s2 F D
 have aa:ay x.L (bl s) (bl s2)=tj x.za (bl s) (bl s2):=by rw[A.L];exact n6 T _ _
 by_cases z:tj x.za (bl s) (bl s2)=0
 ·obtain⟨O,N,q,a,B,G,b,d,h3,V⟩:=gr z;obtain⟨hq,m⟩:=VZ B;obtain⟨ht,u⟩:=VZ G;have ca:q.zb≠[]:=by rw[m];intro e;exact N (YC e)
  obtain⟨p,ks,i,kt,zl,M⟩:=Mv.of T hq ht ca b d h3 V;have H:=M.sinv A.com.wkl A.inv;have U:UB (bl s2)=true:=by rw[VY,<- u];exact(T.ok a ht).1
  have X:yv x.L (bl s)=0:=by unfold yv;rw[A.L,WN,B];simp[O,N]
  have ba:UW x.L (s4 (bl s))=some q.zq:=by rw[A.L,WN,B];rfl
  have R:UW x.L (s4 (bl s2))=some a.zq:=by rw[A.L,WN,G];rfl
  have P:UW x.L (s4 (bl s2)++[mN (s4 (bl s))])=none:=by rw[A.L,WN,<- m,<- u,h3];rfl
  have S:xc (bl s2) (bl s)=false:=by
   rw[show bl s2=kN a.zb by rw[u,Wi],show bl s=kN q.zb by rw[m,Wi],eO (T.ok a ht).1 (T.ok q hq).1];exact d
  have I:x.L.map (wg q.zb (a.zb++[mN q.zb]))=(x.za.map (gM q p a (mN q.zb) i v0_ zl v0_)).map zc.zq:=by rw[M.ents,A.L]
  have T':=M.tree v0_ v0_;have ea:Xf x.L q.zb (a.zb++[mN q.zb])=false:=by
   unfold Xf;rw[List.any_eq_false];intro e da
   have:=T'.ents.ok (wg q.zb (a.zb++[mN q.zb]) e) (by rw[<-I];exact VF da)
   have:=this.2
   simp only[wg]at this
   simp;omega
  have Q:Xf x.L q.zb (a.zb++[mN q.zb])=false->ym (x.L.map (wg q.zb (a.zb++[mN q.zb])))/\wb (x.L.map (wg q.zb (a.zb++[mN q.zb])))/\ye ⟨x.Ws.map (we q.zb (a.zb++[mN q.zb])),x.st,[]⟩:=fun _=>by
   rw[I];exact⟨T'.ents,T'.bors,H⟩
  have n:=fun f (c:zy f x.br x.g x.cap x.L x.ao x.cW x.Ws x.zo x.st)=>ih c A.ents A.uj s s2 F D O U X ba R b S P A.inv J (by rw[<-m,<- u];exact Q)
  rw[<-m,<- u,ea]at n;have Z:tJ x (bl s) (bl s2)=if VU (x.L.map (wg q.zb (a.zb++[mN q.zb]))) (x.Ws.map (we q.zb (a.zb++[mN q.zb])))=true then x.same 11 else Wg (x.L.map (wg q.zb (a.zb++[mN q.zb]))) x.zo (UH (x.L.map (wg q.zb (a.zb++[mN q.zb]))) ⟨x.Ws.map (we q.zb (a.zb++[mN q.zb])),x.st,[]⟩):=by
   unfold tJ xo;simp only[B,G];rw[if_neg (j_ z)]
   cases VU (x.L.map (wg q.zb (a.zb++[mN q.zb]))) (x.Ws.map (we q.zb (a.zb++[mN q.zb])))<;>simp
  rw[Z]at hp;generalize x.L.map (wg q.zb (a.zb++[mN q.zb]))=L' at *;generalize x.Ws.map (we q.zb (a.zb++[mN q.zb]))=Ws' at *
  cases v:VU L' Ws'
  ·rw[v]at hp;simp only[Bool.false_eq_true,if_false]at hp;obtain⟨l1,l2,r⟩:=YG A L' H (zo:=x.zo) (h_ A.cntK)
   refine WM E h w C (o:=Wg L' x.zo (UH L' ⟨Ws',x.st,[]⟩)) l1 l2 r xn 0 hp (fun f c=>(n f c).mono fun e w' k=>?_)
   rcases k with ⟨b,_⟩|⟨_,⟨b,_⟩|⟨_,sl,b,d⟩⟩
   ·cases b
   ·rw[v]at b;cases b
   ·exact⟨sl,b,d⟩
  ·rw[v]at hp;simp only[if_true]at hp;obtain⟨l1,l2,r⟩:=XO A 11
   refine WM E h w C (o:=x.same 11) l1 l2 r xn 0 hp (fun f c=>(n f c).mono fun e w' k=>?_)
   rcases k with ⟨b,_⟩|⟨_,⟨_,b,d⟩|⟨b,_⟩⟩
   ·cases b
   ·exact⟨_,b,d⟩
   ·rw[v]at b;cases b
 ·rw[ig z]at hp;have n:=fun f (c:zy f x.br x.g x.cap x.L x.ao x.cW x.Ws x.zo x.st)=>rA c A.ents A.uj A.inv J s s2 F D aa z
  generalize tj x.za (bl s) (bl s2)=err at *;obtain⟨l1,l2,r⟩:=XO A err
  exact WM E h w C (o:=x.same err) l1 l2 r xn 0 hp (fun f c=>(n f c).mono fun e w' k=>⟨_,k.1,YE c k.2 err⟩)
end
theorem qF:ey 10:=by
 intro d w k D h z T s s2 a0 a1 c0 c1 nm E i l q r B A;obtain⟨τ,j,a,b,h3,n,o⟩:=h;have p:=fun z m C g u v=>(rY o_ a b h3 o_ s s2 i l z T a0 a1 c0 c1 nm q r m C g u v).mono fun e w' c=>At.next a h3 n o c
 have y:z<=0\/z=1\/z=2\/z=3\/z=4\/z=5\/z=6\/z=7\/z=8\/z=9\/z=10:=o_
 rcases y with u|rfl|rfl|rfl|rfl|rfl|rfl|rfl|rfl|rfl|rfl
 ·exact(qi o_ a b h3 o_ s s2 i l z T a0 a1 c0 c1 nm q r (.inl u)).mono fun e w' c=>At.next a h3 n o c
 ·exact(jx a b o_ s s2 T a0 a1 c0 c1 nm).mono fun e w' c=>At.next a h3 n o c.1
 ·exact p 2 27 67 _ (.inl ⟨rfl,rfl,rfl,rfl⟩) (fun t x f=>nk o_ a b f s i c0 c1)
 ·exact p 3 26 69 _ (.inr (.inl ⟨rfl,rfl,rfl,rfl⟩)) (fun t x f=>oX o_ a b f s i a0 a1 c0 c1)
 ·exact(qj o_ a b h3 o_ s s2 i l T a0 a1 c0 c1 nm q r).mono fun e w' c=>At.next a h3 n o c
 ·exact(oG o_ a b h3 o_ s s2 i l T a0 a1 c0 c1 nm q r).mono fun e w' c=>At.next a h3 n o c
 ·exact p 6 28 71 _ (.inr (.inr (.inl ⟨rfl,rfl,rfl,rfl⟩))) (fun t x f=>nt o_ a b f nm)
 ·exact(rZ o_ a b h3 o_ s s2 i l T a0 a1 c0 c1 nm q r).mono fun e w' c=>At.next a h3 n o c
 ·exact p 8 31 72 _ (.inr (.inr (.inr (.inl ⟨rfl,rfl,rfl,rfl⟩)))) (fun t x f=>nL o_ a b f s i)
 ·exact p 9 30 73 _ (.inr (.inr (.inr (.inr (.inl ⟨rfl,rfl,rfl,rfl⟩))))) (fun t x f=>pW o_ a b f s s2 i l)
 ·exact p 10 29 74 _ (.inr (.inr (.inr (.inr (.inr ⟨rfl,rfl,rfl,rfl⟩))))) (fun t x f=>oC o_ a b f s i a0 a1 c0 c1)
def cw (l:Nat)(τ : Nat->yd)(W:World)(bw:Nat)(k K N:Nat)(e:Ending)(w':World):Prop :=
 e=vR (.bool true)/\∃τ' a,Vo τ W τ' w'/\St l τ' w' bw a N/\(∀x∈a,US K x)/\a.length=k
section
variable {l:Nat}{τ : Nat->yd}{W:World}{bw:Nat}{j:List Tw}{N:Nat}{t:Nat}{x:Tw}{o:Out}
theorem pU(h:St l τ W bw j N)(hb:Bw W f)(g:j[t]?=some x)(d:vm (Vq τ W.heap.size) t f x.bt o ev w'):
  zd (fun b=>b<W.heap.size /\ τ b≠.free) f w'/\Mid l τ W bw j t x N o ev w':=by
 refine⟨?_,(h9 h hb g d).2⟩
 obtain⟨τ',p,k,n,q,m,m1,r,s,u,v,w,y,i⟩:=d
 refine i.mono (fun b c=>?_)
 rcases Nat.lt_or_ge b W.heap.size with a|a
 ·refine⟨a,fun e=>?_⟩
  have:=c.2
  rw[VK a,e]at this
  exact this
 ·have:=c.2;rw[XJ a]at this;exact this.elim
theorem nQ{sl:Value}{K:Nat}(n:j[t]?=some x)(i:∀y∈j,US K y)(a:TwS τ W t x)(h:Mid l τ W bw j t x N o ev f)(k:o.zo<=K+1)(m:o.st<=48*(K+1))
  (c:V_ f x.br x.g x.wv.ownBlock o.L o.zo ⟨o.Ws,o.st,o.zt⟩ sl w'):zd (fun b=>b<W.heap.size /\ τ b≠.free) f w'/\ve l τ W bw j.length N (K+1) o.zt ev sl w':=by
 refine⟨c.zf.mono (fun b d=>?_),(g9 n i a.R.lts h k m c).2⟩
 obtain⟨l1,l2,p⟩:=a.R.lts
 rcases d with rfl|rfl|e
 ·exact⟨l1,by rw[a.tr];intro e;cases e⟩
 ·exact⟨l2,by rw[a.tg];intro e;cases e⟩
 ·exact⟨p b e,by rw[a.tw b e];intro e;cases e⟩
theorem qN{k K:Nat}{a:Option Addr}(o:n=zt.length)(x:N<=900000000)(w:n<=990)(y:l<=W.heap.size)(h:ve l τ W bw k N (K+1) zt (.slice a n c) (.slice a2 n c2) f)(er:Int):
  Calls prog 68 #[vP bw,.slice a n c,vI er,.slice a2 n c2,vI er] f (fun e w'=>cw l τ W bw k (K+1) (N+4) e w'/\zd (fun b=>W.heap.size<=b \/ τ b≠.free) f w'):=by
 obtain⟨τ',r,m1,⟨u,F,H,D,G,ns,B,ms,I,i⟩,v,rfl,q,j,d⟩:=h;rw[<-o]at q j
 refine(jz i.law N x i.n1 i.n2 o w q j (fun b hb=>(d b hb).2) er).mono ?_
 intro e w' m;obtain⟨τ2,p,t⟩:=St.told i (fun b hb=>⟨(d b hb).2,by have:=(d b hb).1;omega⟩) m
 refine⟨⟨m.1,τ2,r,m1.own p (fun b hb=>(d b hb).1),t,v,rfl⟩,p.zf.mono (fun b hb=>?_)⟩
 rcases Nat.lt_or_ge b W.heap.size with g|g
 ·right
  rcases hb.2 with e|e
  ·intro s;rw[m1.old b g,s]at e;exact e
  ·exact absurd g (Nat.not_lt.2 (d b e).1)
 ·exact .inl g
theorem pJ{K:Nat}(ca:N<=900000000)(h:St l τ W bw j N)(O:∀y∈j,US K y)(p:j[t]?=some x)(q:n=o.zt.length)(ba:n<=990)(V:o.zo<=K+1)(Y:o.st<=48*(K+1))
  {mk1 mk2:Value->Value}
  (hp:∀τ1 f,UJ τ1 t f x.bt x.za x.zn x.vw x.va x.ws x.zh->Calls prog m r f fun e w'=>∃ev,e=vR (mk1 ev)/\vm τ1 t f x.bt o ev w')
  (X:∀f,zy f x.br x.g x.cap x.L x.ao x.cW x.Ws x.zo x.st->Calls prog C s f fun e w'=>∃sl,e=vR (mk2 sl)/\V_ f x.br x.g x.wv.ownBlock o.L o.zo ⟨o.Ws,o.st,o.zt⟩ sl w') :
  ∃(M1:Option Addr->Nat->World->Prop) (M2:Option Addr->Nat->Option Addr->Nat->World->Prop),
   (∀f,Bw W f->Calls prog m r f fun e w'=>∃a c,e=vR (mk1 (.slice a n c))/\zd (fun b=>b<W.heap.size /\ τ b≠.free) f w'/\M1 a c w') /\
   (∀a c f d,M1 a c f->Bw f d->Calls prog C s d fun e w'=>∃a2 c2,e=vR (mk2 (.slice a2 n c2))/\zd (fun b=>b<W.heap.size /\ τ b≠.free) d w'/\M2 a c a2 c2 w') /\
   (∀a c a2 c2 f d,M2 a c a2 c2 f->Bw f d->Calls prog 68 #[vP bw,.slice a n c,vI o.err,.slice a2 n c2,vI o.err] d (fun e w'=>cw l τ W bw j.length (K+1) (N+4) e w'/\zd (fun b=>W.heap.size<=b \/ τ b≠.free) d w')):=by
 obtain⟨u,F,H,D,G,ns,B,ms,I,w⟩:=id h;have z:=w.tw t x p
 refine⟨fun a c=>Mid l τ W bw j t x N o (.slice a n c),fun a c a2 c2=>ve l τ W bw j.length N (K+1) o.zt (.slice a n c) (.slice a2 n c2),fun f hb=>?_,fun a c f d i hb=>?_,fun a c a2 c2 f d i hb=>qN q ca ba w.le (i.below hb) _⟩
 ·have Q:=z.P.zf (τ':=Vq τ W.heap.size) (T:=fun _=>False) (zd.new hb) (fun _ _ h=>h.elim) (fun b hb=>VK hb)
  refine(hp _ f Q).mono ?_
  rintro e w' ⟨ev,rfl,i⟩
  obtain⟨a,c,rfl⟩:∃a c,ev=.slice a n c:=by
   obtain⟨_,_,_,_,_,_,_,_,_,_,_,k,_⟩:=i;rw[<-q]at k
   exact Xs k
  exact⟨a,c,rfl,pU h hb p i⟩
 ·have E:=(Uy.1 p).1;have A:=i.below hb;obtain⟨τ1,M,aa,U,yg,Z,ia,⟨oa,ea,ha,da,ga,la,ka,na,ma,J⟩,ja⟩:=id A;have S:=(J.tw t {x with za:=M,zn:=o.zo,vw:=aa,va:=U,ws:=yg,zh:=Z} (by rw[List.getElem?_set_self E])).R
  refine(X d S).mono ?_
  rintro e w' ⟨sl,rfl,v⟩
  obtain⟨a2,c2,rfl⟩:∃a2 c2,sl=.slice a2 n c2:=by
   have k:=v.row;rw[<-q]at k
   exact Xs k
  exact⟨a2,c2,rfl,nQ p O z A V Y v⟩
end
def eU (l:Nat)(τ : Nat->yd)(W:World)(bw k K N:Nat)(m:Nat)(r:Array Value)(C:Nat)(s:Array Value)(mk:Int->Int->Value->Value):Prop :=
 ∃(zm er:Int) (n:Nat) (M1:Option Addr->Nat->World->Prop) (M2:Option Addr->Nat->Option Addr->Nat->World->Prop),
   (∀f,Bw W f->Calls prog m r f fun e w'=>∃a c,e=vR (mk zm er (.slice a n c))/\zd (fun b=>b<W.heap.size /\ τ b≠.free) f w'/\M1 a c w') /\
   (∀a c f d,M1 a c f->Bw f d->Calls prog C s d fun e w'=>∃a2 c2,e=vR (mk zm er (.slice a2 n c2))/\zd (fun b=>b<W.heap.size /\ τ b≠.free) d w'/\M2 a c a2 c2 w') /\
   (∀a c a2 c2 f d,M2 a c a2 c2 f->Bw f d->Calls prog 68 #[vP bw,.slice a n c,vI er,.slice a2 n c2,vI er] d (fun e w'=>cw l τ W bw k (K+1) (N+4) e w'/\zd (fun b=>W.heap.size<=b \/ τ b≠.free) d w'))
section
variable {l:Nat}{τ : Nat->yd}{W:World}{bw:Nat}{j:List Tw}{K t:Nat}{x:Tw}
theorem hV{N:Nat}{o:Out}(q:N<=900000000)(h:St l τ W bw j N)(c:∀y∈j,US K y)(n:j[t]?=some x)(p:o.zt.length<=990)(d:o.zo<=K+1)(k:o.st<=48*(K+1))
  (mk:Int->Int->Value->Value) (zm:Int)
  (hp:∀τ1 f,UJ τ1 t f x.bt x.za x.zn x.vw x.va x.ws x.zh->Calls prog m r f fun e w'=>∃ev,e=vR (mk zm o.err ev)/\vm τ1 t f x.bt o ev w')
  (i:∀f,zy f x.br x.g x.cap x.L x.ao x.cW x.Ws x.zo x.st->Calls prog C s f fun e w'=>∃sl,e=vR (mk zm o.err sl)/\V_ f x.br x.g x.wv.ownBlock o.L o.zo ⟨o.Ws,o.st,o.zt⟩ sl w') :
  eU l τ W bw j.length K N m r C s mk:=by
 obtain⟨M1,M2,a,b,h3⟩:=pJ (mk1:=mk zm o.err) (mk2:=mk zm o.err) q h c n (o:=o) rfl p d k hp i
 exact⟨zm,o.err,_,M1,M2,a,b,h3⟩
theorem oq{N:Nat}(F:K<=2000000)(B:N<=900000000)(h:St l τ W bw j N)(u:∀y∈j,US K y)(v:j[t]?=some x)(s:ByteArray)(z:s.size<=2000000)(a b c d:Int):
  eU l τ W bw j.length K N 26 #[vP x.bt,vG s,.agg #[vI a,vI b],.agg #[vI c,vI d]] 69 #[vP x.br,vG s,.agg #[vI a,vI b],.agg #[vI c,vI d]] xn:=by
 have A:=u x (Uq v);have C:x.st<=900000000:=by have:=A.stK;omega
 have E:UX [(a,b),(c,d)]=(Uu a b&&Uu c d):=by simp[UX]
 have D:vy x.L (bl s) (Uu a b&&Uu c d)=VC x.za (bl s) (UX [(a,b),(c,d)]):=by rw[E,A.L];exact dI _ _ _
 have hp:=fun τ1 f (k:UJ τ1 t f x.bt x.za x.zn x.vw x.va x.ws x.zh)=>(fh k A.com.rel A.inv s z a b c d).mono (fun e w' p=>dn A k p)
 have r:=fun f (m:zy f x.br x.g x.cap x.L x.ao x.cW x.Ws x.zo x.st)=>iX m A.ents A.uj A.inv C s z a b c d (fun q=>dT A q (fun h=>by simpa using h))
 rw[D]at r;generalize VC x.za (bl s) (UX [(a,b),(c,d)])=err at hp r
 by_cases q:err=0
 ·subst q;obtain⟨l1,l2,w⟩:=YG A (x.L++[⟨s4 (bl s),true,a,b,c,d⟩]) A.inv (zo:=x.zo) (h_ A.cntK);unfold Yn at r;generalize UH (x.L++[⟨s4 (bl s),true,a,b,c,d⟩]) ⟨x.Ws,x.st,[]⟩=fin at *
  refine hV B h u v (o:=Wg (x.L++[⟨s4 (bl s),true,a,b,c,d⟩]) x.zo fin) l1 l2 w xn 0 (fun τ1 f k=>(hp τ1 f k).mono fun e w' ⟨ev,i,_,h3⟩=>⟨ev,i,h3 rfl⟩) (fun f m=>(r f m).mono fun e w' p=>?_)
  rcases p with ⟨i,_⟩|⟨_,sl,i,n⟩
  ·exact absurd rfl i
  ·exact⟨sl,i,n⟩
 ·obtain⟨l1,l2,w⟩:=XO A err
  refine hV B h u v (o:=x.same err) l1 l2 w xn 0 (fun τ1 f k=>(hp τ1 f k).mono fun e w' ⟨ev,i,n,_⟩=>⟨ev,i,n q⟩) (fun f m=>(r f m).mono fun e w' p=>?_)
  rcases p with ⟨_,i,n⟩|⟨i,_⟩
  ·exact⟨_,i,YE m n err⟩
  ·exact absurd i q
end
end
section
open Go.RowKit Go.Shelf
variable {W:World}{N bt bx:Nat}
attribute [local go_sem] Oper.semAt_some
structure QC where
 p:ByteArray
 lf:Bool
 i0:Int
 i1:Int
 i2:Int
 i3:Int
 i4:Int
 i5:Int
 a:Option Addr
 m:Nat
 c:Nat
def QC.vals(q:QC):Array Value:=#[vG q.p,.bool q.lf,vI q.i0,vI q.i1,vI q.i2,vI q.i3,vI q.i4,vI q.i5,.slice q.a q.m q.c]
structure IS where
 a:Option Addr
 c:Nat
 q:Nat->QC
 j:Nat
def IS.next(s:IS):IS:={s with j:=s.j+1}
theorem lJ(pa:N<=1000)(ca:W.cell? (vA bx 0)=some (vP bt)){Start:IS->World->Prop}
  (E:Calls prog 61 #[vP bt] W fun e w'=>∃a c q,e=vR (.slice a N c)/\N<=c/\c<=maxLen/\Start ⟨a,c,q,0⟩ w'/\Bw W w')
  (k K:Nat) (J x:IS->World->Prop) (ea:∀s A B,J s A->Bw A B->J s B) (G:∀s A,Start s A->Bw W A->J s A)
  (F:∀s A,J s A->s.j<N->∃g,s.a=some (vA g 0)/\g<A.heap.size/\∀i u,(s.q s.j).vals[i]?=some u->A.cell? (vA g (s.j*9+i))=some u)
  (H:∀m s A,J s A->s.j<N->YieldAt Fence.wide m prog K #[.agg (s.q s.j).vals] A fun e W'=>(e=vR (.bool true)/\J s.next W')\/(e=vR (.bool false)/\x s.next W')) :
  CallsIn Fence.wide k prog 60 (#[.func (.yield K) #[] #[]] ++ #[vP bx]) W fun e W'=>(∃v,e=vR v)/\((∃s,s.j=N/\J s W')\/(∃s,s.j<=N/\x s W')):=by
 have D:∀k:Nat,Fence.wide.depth.isSome=true->1<=k:=fun k h=>by simp[Fence.wide]at h
 refine callsIn_of_wp func60 rfl trivial ?_ rfl
 simp only[ntmps60,zC,Nat.reduceAdd,Nat.reduceSub]
 gi_wp2_with ((first|refine⟨trivial,D _,?_⟩|refine⟨trivial,?_⟩);gi_at_call 61;refine(UK.2 E).mono ?_;rintro e ta ⟨a,c,q,rfl,oa,sa,C,V⟩)
 have y:=G _ _ C V;clear C E ca G
 gi_loopg [8] N (fun r v wr=>∃j:Nat,v=vI j/\j<=N/\N-j<=r/\J ⟨a,c,q,j⟩ wr)
 case atStart=>exact⟨0,rfl,Nat.zero_le _,o_,y⟩
 case round =>
  obtain⟨j,rfl,qa,ra,n⟩:=hrel
  by_cases z:j<N
  ·obtain⟨g,I,na,d⟩:=F _ _ n z
   simp only at I d
   subst I;have l:=H (k-1) ⟨some (vA g 0),c,q,j⟩
   simp only at l
   have L:wr.cell? (vA g (j*9))=some (vG (q j).p):=d 0 _ rfl;have M:wr.cell? (vA g (j*9+1))=some (.bool (q j).lf):=d 1 _ rfl;have q2:wr.cell? (vA g (j*9+2))=some (vI (q j).i0):=d 2 _ rfl;have O:wr.cell? (vA g (j*9+3))=some (vI (q j).i1):=d 3 _ rfl;have P:wr.cell? (vA g (j*9+4))=some (vI (q j).i2):=d 4 _ rfl;have Q:wr.cell? (vA g (j*9+5))=some (vI (q j).i3):=d 5 _ rfl;have R:wr.cell? (vA g (j*9+6))=some (vI (q j).i4):=d 6 _ rfl;have S:wr.cell? (vA g (j*9+7))=some (vI (q j).i5):=d 7 _ rfl;have T:wr.cell? (vA g (j*9+8))=some (.slice (q j).a (q j).m (q j).c):=d 8 _ rfl;unfold QC.vals at l;have t:=fun B da=>l B (ea _ _ _ n da) z
   clear H l d F y n;have ka:(j:Int)<N:=o_;have ja:(0:Int)<=j:=o_;obtain⟨b,w⟩:∃b,b=q j:=⟨_,rfl⟩;rw[<-w]at L M q2 O P Q R S T t;clear w;have U:¬(g=wr.heap.size):=o_
   gi_upto_region 3 with fail
   have f:zg (wr.alloc (.cells #[vG b.p,.bool b.lf,vI b.i0,vI b.i1,vI b.i2,vI b.i3,vI b.i4,vI b.i5,.slice b.a b.m b.c] 37)) wr.heap.size 37 #[vG b.p,.bool b.lf,vI b.i0,vI b.i1,vI b.i2,vI b.i3,vI b.i4,vI b.i5,.slice b.a b.m b.c]:=zg.new wr 37 _;obtain⟨fn,tmps,assign,body,ga,o⟩:=t (wr.alloc (.cells #[vG b.p,.bool b.lf,vI b.i0,vI b.i1,vI b.i2,vI b.i3,vI b.i4,vI b.i5,.slice b.a b.m b.c] 37)) cl;generalize wr.alloc (.cells #[vG b.p,.bool b.lf,vI b.i0,vI b.i1,vI b.i2,vI b.i3,vI b.i4,vI b.i5,.slice b.a b.m b.c] 37)=ma at f ga o ⊢;generalize wr.heap.size=bq at f ⊢;clear t L M q2 O P Q R S T U;have b0:=f.cell 0;have b1:=f.cell 1;have b2:=f.cell 2;have b3:=f.cell 3;have X:=f.cell 4;have Y:=f.cell 5;have Z:=f.cell 6;have aa:=f.cell 7;have ba:=f.cell 8;simp only[s7]at b0 b1 b2 b3 X Y Z aa ba
   gi_wp2_with (refine⟨D _,?_⟩;refine o.mono ?_;clear o;rintro e la (⟨rfl,ia⟩|⟨rfl,ha⟩))
   ·gi_roundg (N-(j+1))
    case measure=>omega
    case rel=>exact⟨j+1,by go_num,o_,Nat.le_refl _,ia⟩
   ·refine Us (results_none rfl _ _ _) rfl ?_
    exact⟨⟨_,rfl⟩,.inr ⟨_,by show j+1<=N;omega,ha⟩⟩
  ·gi_wp2
   go_end0
   exact⟨⟨_,rfl⟩,.inl ⟨_,by show j=N;omega,n⟩⟩
end
end Go.Proofs.YtphclnolomgjoaaGreatDoor
