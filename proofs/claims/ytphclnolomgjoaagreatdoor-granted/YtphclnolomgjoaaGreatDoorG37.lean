import Derived.Test.YtphclnolomgjoaaGreatDoorG36
set_option linter.unusedVariables false
set_option linter.unusedSimpArgs false
set_option maxRecDepth 100000
set_option maxHeartbeats 4000000
namespace Go.Proofs.YtphclnolomgjoaaGreatDoor
open Tryz
open Go.RowKit
variable {a c cnt d st:Int}{L:List Ent}{leaf:Bool}{nodes:List Node}{Wx w w2 wr:World}{bt cap cp gp i j:Nat}{ev:Value}{aq:Option Addr}
section
variable {F:Nat->Prop}{W w':World}{rb:Nat}{R R':KR}
theorem qsy(h:qay F W rb R){k b:Int}(hk:I64 k)(ha:I64 a)(gJ:4<=pkN k 8/\pkN k 8<6)(ia:0<R.works.length)(jK:R.works.length<=24)(hs:∀(G:Nat->Prop) (Wx:World),qay G Wx rb R->Calls prog 42 #[.pointer (some ⟨rb,0,none⟩),.int .i64 (pkN a R.works.length)] Wx fun e w'=>e=.returned (.bool true)/\qay G w' rb R'/\Keep (fun b=>¬G b) Wx w'):
  Calls prog 17 #[.pointer (some ⟨rb,0,none⟩),.agg #[.int .i64 k,.int .i64 a,.int .i64 b,.int .i64 c]] W fun e w'=>e=.returned (.bool true)/\qay F w' rb R'/\Keep (fun b=>¬F b) W w':=by
 have AP:=h.boxed hs (t:=32) (vs:=#[.int .i64 k,.int .i64 a,.int .i64 b,.int .i64 c]);obtain⟨P,bt,vp,vw,vl,h⟩:=h;obtain⟨aw,cw,cO,gE,kM⟩:=qbg h.wrow;have c2:=h.at_.cell 2;simp only[xq0,xq1,xq2]at c2;rw[cO]at c2;have l2:=h.at_.lt;have m2:=World.new_ne W _ c2;have p1:=qe2 k 8 hk (by omega) (by omega);have p2:=qe2 a R.works.length ha ia (by omega);have cd:¬((pkN k 8:Int)<4):=by omega
 have aY:(pkN k 8:Int)<6:=by omega
 have zm:(0:Int)<R.works.length:=by omega
 have b0:Blk (W.alloc (.cells #[.int .i64 k,.int .i64 a,.int .i64 b,.int .i64 c] 32)) W.heap.size 32 #[.int .i64 k,.int .i64 a,.int .i64 b,.int .i64 c]:=Blk.new W 32 _;generalize (pkN k 8:Int)=kk at *;generalize (pkN a R.works.length:Int)=xa at *;generalize R.works.length=n at *;clear h hs cO
 go_enter func17,ntmps17
 go_upto_region 5 with (go_at_call 23;refine(p1 _).mono ?_;clear p1;rintro e w1 ⟨rfl,cg⟩;subst cg)
 go_region_with (first
  |(go_at_call 23;refine(p2 _).mono ?_;rintro e w2 ⟨rfl,eG⟩;subst eG)
  |(go_at_call 42;refine(AP _ ?_ ?_).mono ?_;(focus exact bel2);(focus exact blk2);rintro e w4 ⟨rfl,bm,aV⟩))
 all_goals go_wp2_with fail
 all_goals go_ret
 all_goals exact⟨rfl,aV.out⟩
theorem qqu(h:qay F W rb R){k b:Int}(hk:I64 k)(gJ:4<=pkN k 8/\pkN k 8<6)(ia:R.works.length=0):
  Calls prog 17 #[.pointer (some ⟨rb,0,none⟩),.agg #[.int .i64 k,.int .i64 a,.int .i64 b,.int .i64 c]] W fun e w'=>e=.returned (.bool true)/\qay F w' rb R/\Keep (fun b=>¬F b) W w':=by
 have HR:Hid (qay F W rb R):=h;obtain⟨P,bt,vp,vw,vl,h⟩:=h;obtain⟨aw,cw,cO,gE,kM⟩:=qbg h.wrow;rw[ia]at cO;have c2:=h.at_.cell 2;simp only[xq0,xq1,xq2]at c2;rw[cO]at c2;have l2:=h.at_.lt;have m2:=World.new_ne W _ c2;have p1:=qe2 k 8 hk (by omega) (by omega);have cd:¬((pkN k 8:Int)<4):=by omega
 have aY:(pkN k 8:Int)<6:=by omega
 have bW:¬((pkN k 8:Int)=6):=by omega
 have gK:¬((pkN k 8:Int)=7):=by omega
 have b0:Blk (W.alloc (.cells #[.int .i64 k,.int .i64 a,.int .i64 b,.int .i64 c] 32)) W.heap.size 32 #[.int .i64 k,.int .i64 a,.int .i64 b,.int .i64 c]:=Blk.new W 32 _;generalize (pkN k 8:Int)=kk at *;clear h cO
 go_enter func17,ntmps17
 go_wp2_with (go_at_call 23;refine(p1 _).mono ?_;clear p1;rintro e w1 ⟨rfl,cg⟩;subst cg)
 go_ret
 have hB:Below W.heap.size W (W.alloc (.cells #[.int .i64 k,.int .i64 a,.int .i64 b,.int .i64 c] 32)):=by exact bel2
 exact⟨rfl,HR.out.below hB,Keep.new hB⟩
end
section
variable {F:Nat->Prop}{W w':World}{rb:Nat}{R R':KR}
theorem qsz(h:qay F W rb R){k b:Int}(hk:I64 k)(ha:I64 a)(gJ:pkN k 8=6)(ia:R.paths.length=8)(hs:∀(G:Nat->Prop) (Wx:World),qay G Wx rb R->Calls prog 43 #[.pointer (some ⟨rb,0,none⟩),.int .i64 (pkN a 8),.agg #[.int .i64 k,.int .i64 a,.int .i64 b,.int .i64 c]] Wx fun e w'=>e=.returned (.bool true)/\qay G w' rb R'/\Keep (fun b=>¬G b) Wx w'):
  Calls prog 17 #[.pointer (some ⟨rb,0,none⟩),.agg #[.int .i64 k,.int .i64 a,.int .i64 b,.int .i64 c]] W fun e w'=>e=.returned (.bool true)/\qay F w' rb R'/\Keep (fun b=>¬F b) W w':=by
 have AQ:=h.boxed hs (t:=32) (vs:=#[.int .i64 k,.int .i64 a,.int .i64 b,.int .i64 c]);obtain⟨P,bt,vp,vw,vl,h⟩:=h;obtain⟨ap,cp,cN,cM,dy⟩:=qbg h.prow;rw[ia]at cN;have c1:=h.at_.cell 1;simp only[xq0,xq1,xq2]at c1;rw[cN]at c1;have l2:=h.at_.lt;have m1:=World.new_ne W _ c1;have p1:=qe2 k 8 hk (by omega) (by omega);have p2:=qe2 a 8 ha (by omega) (by omega);have cd:¬((pkN k 8:Int)<4):=by omega
 have aY:¬((pkN k 8:Int)<6):=by omega
 have bW:(pkN k 8:Int)=6:=by omega
 have b0:Blk (W.alloc (.cells #[.int .i64 k,.int .i64 a,.int .i64 b,.int .i64 c] 32)) W.heap.size 32 #[.int .i64 k,.int .i64 a,.int .i64 b,.int .i64 c]:=Blk.new W 32 _;rw[bW]at p1;generalize (pkN a 8:Int)=xa at *;clear h hs cN cd aY bW
 go_enter func17,ntmps17
 go_upto_region 7 with (go_at_call 23;refine(p1 _).mono ?_;clear p1;rintro e w1 ⟨rfl,cg⟩;subst cg)
 go_region_with (first
  |(go_at_call 23;refine(p2 _).mono ?_;rintro e w2 ⟨rfl,eG⟩;subst eG)
  |(go_at_call 43;refine(AQ _ ?_ ?_).mono ?_;(focus exact bel2);(focus exact blk2);rintro e w4 ⟨rfl,bm,aV⟩))
 all_goals go_wp2_with fail
 all_goals go_ret
 all_goals exact⟨rfl,aV.out⟩
end
section
variable {F:Nat->Prop}{W w':World}{rb:Nat}{R R':KR}
theorem qqs(h:qay F W rb R){k b:Int}(hk:I64 k)(ha:I64 a)(hb:I64 b)(gJ:pkN k 8=7)(bm:3<=pkN b 4)(ia:R.paths.length=8)(hs:∀(G:Nat->Prop) (Wx:World),qay G Wx rb R->Calls prog 44 #[.pointer (some ⟨rb,0,none⟩),.int .i64 (pkN a 8),.string ⟨#[]⟩] Wx fun e w'=>e=.returned (.bool true)/\qay G w' rb R'/\Keep (fun b=>¬G b) Wx w'):
  Calls prog 17 #[.pointer (some ⟨rb,0,none⟩),.agg #[.int .i64 k,.int .i64 a,.int .i64 b,.int .i64 c]] W fun e w'=>e=.returned (.bool true)/\qay F w' rb R'/\Keep (fun b=>¬F b) W w':=by
 have uO:=h.boxed hs (t:=32) (vs:=#[.int .i64 k,.int .i64 a,.int .i64 b,.int .i64 c]);obtain⟨P,bt,vp,vw,vl,h⟩:=h;obtain⟨ap,cp,cN,cM,dy⟩:=qbg h.prow;rw[ia]at cN;have c1:=h.at_.cell 1;simp only[xq0,xq1,xq2]at c1;rw[cN]at c1;have l2:=h.at_.lt;have m1:=World.new_ne W _ c1;have p1:=qe2 k 8 hk (by omega) (by omega);have p2:=qe2 a 8 ha (by omega) (by omega);have p3:=qe2 b 4 hb (by omega) (by omega);have bW:(pkN k 8:Int)=7:=by omega
 have aM:¬((pkN b 4:Int)<3):=by omega
 have b0:Blk (W.alloc (.cells #[.int .i64 k,.int .i64 a,.int .i64 b,.int .i64 c] 32)) W.heap.size 32 #[.int .i64 k,.int .i64 a,.int .i64 b,.int .i64 c]:=Blk.new W 32 _;rw[bW]at p1;generalize (pkN a 8:Int)=xa at *;generalize (pkN b 4:Int)=xb at *;clear h hs cN bW
 go_enter func17,ntmps17
 go_upto_region 12 with (first
  |(go_at_call 23;refine(p1 _).mono ?_;clear p1;rintro e w1 ⟨rfl,cg⟩;subst cg)
  |(go_at_call 23;refine(p3 _).mono ?_;clear p3;rintro e w1 ⟨rfl,cg⟩;subst cg))
 go_region_with (first
  |(go_at_call 23;refine(p2 _).mono ?_;rintro e w2 ⟨rfl,eG⟩;subst eG)
  |(go_at_call 44;refine(uO _ ?_ ?_).mono ?_;(focus exact bel2);(focus exact blk2);rintro e w4 ⟨rfl,bm,aV⟩))
 all_goals go_wp2_with fail
 all_goals go_ret
 all_goals exact⟨rfl,aV.out⟩
theorem qqt(h:qay F W rb R){k b:Int}(hk:I64 k)(ha:I64 a)(hb:I64 b)(gJ:pkN k 8=7)(bm:pkN b 4<3)(ia:R.paths.length=8){tk:List Bs}(cZ:R.paths[5+pkN b 3]?=some tk)(hs:∀(G:Nat->Prop) (Wx:World),qay G Wx rb R->Calls prog 44 #[.pointer (some ⟨rb,0,none⟩),.int .i64 (pkN a 8),.string (sb (qaa tk))] Wx fun e w'=>e=.returned (.bool true)/\qay G w' rb R'/\Keep (fun b=>¬G b) Wx w'):
  Calls prog 17 #[.pointer (some ⟨rb,0,none⟩),.agg #[.int .i64 k,.int .i64 a,.int .i64 b,.int .i64 c]] W fun e w'=>e=.returned (.bool true)/\qay F w' rb R'/\Keep (fun b=>¬F b) W w':=by
 have uO:=h.boxed hs (t:=32) (vs:=#[.int .i64 k,.int .i64 a,.int .i64 b,.int .i64 c]);obtain⟨P,bt,vp,vw,vl,h⟩:=h;obtain⟨gp,cp,cN,bK,eU,cM,dy,q0⟩:=h.path cZ;rw[ia]at cN cM;have c1:=h.at_.cell 1;simp only[xq0,xq1,xq2]at c1;rw[cN]at c1;have l2:=h.at_.lt;have m1:=World.new_ne W _ c1;have m2:=World.new_ne W _ q0;have p1:=qe2 k 8 hk (by omega) (by omega);have p2:=qe2 a 8 ha (by omega) (by omega);have p3:=qe2 b 4 hb (by omega) (by omega);have p4:=qe2 b 3 hb (by omega) (by omega);have ud:=qdk b (n:=3) (by omega);have bW:(pkN k 8:Int)=7:=by omega
 have aM:(pkN b 4:Int)<3:=by omega
 have b0:Blk (W.alloc (.cells #[.int .i64 k,.int .i64 a,.int .i64 b,.int .i64 c] 32)) W.heap.size 32 #[.int .i64 k,.int .i64 a,.int .i64 b,.int .i64 c]:=Blk.new W 32 _;rw[bW]at p1;generalize (pkN a 8:Int)=xa at *;generalize (pkN b 4:Int)=xb at *;generalize pkN b 3=xc at *;have z1:(0:Int)<=5+(xc:Int):=by omega
 have z2:5+(xc:Int)<8:=by omega
 have z3:IntKind.i64.wrap (5+(xc:Int))=5+(xc:Int):=by rw[IntKind.wrap_i64];omega
 have z4:(5+(xc:Int)).toNat=5+xc:=by omega
 clear h hs cN bW cZ
 go_enter func17,ntmps17
 go_upto_region 11 with (first
  |(go_at_call 23;refine(p1 _).mono ?_;clear p1;rintro e w1 ⟨rfl,cg⟩;subst cg)
  |(go_at_call 23;refine(p3 _).mono ?_;clear p3;rintro e w1 ⟨rfl,cg⟩;subst cg))
 go_region_with (first
  |(go_at_call 23;refine(p4 _).mono ?_;rintro e w2 ⟨rfl,eG⟩;subst eG))
 all_goals go_upto_region 12 with fail
 all_goals go_region_with (first
  |(go_at_call 23;refine(p2 _).mono ?_;rintro e w2 ⟨rfl,eG⟩;subst eG)
  |(go_at_call 44;refine(uO _ ?_ ?_).mono ?_;(focus exact bel2);(focus exact blk2);rintro e w4 ⟨rfl,bm,aV⟩))
 all_goals go_wp2_with fail
 all_goals go_ret
 all_goals exact⟨rfl,aV.out⟩
end
def qya (R:KR)(k a b c:Int)(R':KR):Prop :=
 (pkN k 8<4/\R.works.length<24/\∃(p:List Bs) (aj:List KW),R.paths[pkN a 5]?=some p/\qdo (R.works++[⟨R.k.cnt+1,pkN a 5,pkN b 16,pkN c 16,false,0⟩],R.qav) (R.k.qbh (qaa p) (pkN b 16) (pkN c 16)).evs=some (aj,(R.k.qbh (qaa p) (pkN b 16) (pkN c 16)).st) /\
  R'=⟨(R.k.qbh (qaa p) (pkN b 16) (pkN c 16)).ks,R.paths,aj,(R.k.qbh (qaa p) (pkN b 16) (pkN c 16)).st,(R.k.qbh (qaa p) (pkN b 16) (pkN c 16)).evs⟩) \/
 (4<=pkN k 8/\∃(i:Nat) (x:KW) (aj:List KW),R.works[i]?=some x/\qdo (R.works.take i++R.works.drop (i+1),R.qav) (R.k.finish x.num).evs=some (aj,(R.k.finish x.num).st)/\R'=⟨(R.k.finish x.num).ks,R.paths,aj,(R.k.finish x.num).st,(R.k.finish x.num).evs⟩) \/
 (4<=pkN k 8/\∃(i:Nat) (p:List Bs) (x0 x1 x2 x3:Int) (aj:List KW) (bU:Int),R.paths[i]?=some p/\qdo (R.works,R.qav) (R.k.qbb (qaa p) x0 x1 x2 x3).evs=some (aj,bU)/\R'=⟨(R.k.qbb (qaa p) x0 x1 x2 x3).ks,R.paths,aj,bU,(R.k.qbb (qaa p) x0 x1 x2 x3).evs⟩) \/
 (4<=pkN k 8/\∃(i:Nat) (p tk:List Bs) (aj:List KW),R.paths[i]?=some p/\qbx tk=true/\(R.k.move (qaa p) (qaa tk)).err=0/\qdo (R.works,R.qav) (R.k.move (qaa p) (qaa tk)).evs=some (aj,(R.k.move (qaa p) (qaa tk)).st)/\R'=⟨(R.k.move (qaa p) (qaa tk)).ks,R.paths.map (mvK p (tk++[qad p])),aj,(R.k.move (qaa p) (qaa tk)).st,(R.k.move (qaa p) (qaa tk)).evs⟩) \/
 (R'=R/\(pkN k 8<4->R.works.length=24))
section
variable {F:Nat->Prop}{W w':World}{rb:Nat}{R:KR}{n:Nat}
theorem qla{x y:Nat}(hx:x<=1000)(hy:y<=1000):qao x y=true:=by
 unfold qao;simp only[decide_eq_true_eq]
 omega
theorem q0f(h:qay F W rb R)(I:RunI n R)(hn:n<=100){k b:Int}(hk:I64 k)(ha:I64 a)(hb:I64 b)(hc:I64 c):
  ∃R',qya R k a b c R'/\RunI (n+1) R'/\Calls prog 17 #[.pointer (some ⟨rb,0,none⟩),.agg #[.int .i64 k,.int .i64 a,.int .i64 b,.int .i64 c]] W fun e w'=>e=.returned (.bool true)/\qay F w' rb R'/\Keep (fun b=>¬F b) W w':=by
 obtain⟨nodes,K⟩:=h.kinv;have Ca:=qdk k (n:=8) (by omega);have hw:=I.wlen;have lE:R.works.length<=24:=by rw[hw];exact K.inv.wks.wks.len
 have d_:0<=R.k.cnt/\R.k.cnt<=1999999:=⟨K.cnt0,by have:=I.cnt;omega⟩;have cH:0<=R.qav/\R.qav<=1000000:=by rw[I.qav];exact⟨K.inv.st0,by have:=I.st;omega⟩
 have h8:=I.len;have pg:∀i,i<8->∃p,R.paths[i]?=some p:=fun i hi=>⟨_,xr1 (by omega)⟩
 have cf:∀q∈R.paths,qbx q=true/\q≠[]/\(sb (qaa q)).size<=2000000:=fun q hq=>by
  obtain⟨i,hi,e⟩:=List.getElem_of_mem hq;have hp:R.paths[i]?=some q:=by rw[xr1 hi,e]
  obtain⟨h1,h2,_⟩:=I.path K hp
  exact⟨h1,h2,I.small K hp⟩
 by_cases c1:pkN k 8<4
 ·have yP:=qdk a (n:=5) (by omega);obtain⟨p,hp⟩:=pg (pkN a 5) (by omega);have Bp:=qdk b (n:=16) (by omega);have B9:=qdk c (n:=16) (by omega);have hf:qao (pkN b 16) (pkN c 16)=true:=qla (by omega) (by omega)
  by_cases hl:R.works.length<24
  ·obtain⟨e1,aj,e2,e3,e4,_⟩:=I.qbh K yP hp hf hl
   refine⟨_,Or.inl ⟨c1,hl,p,aj,hp,e2,rfl⟩,e3,qmu h hk ha hb hc c1 (fun G Wx hR=>?_)⟩
   exact qs0 hR hp (I.small K hp) (by omega) _ _ e1 hl d_ cH rfl e4 e2
  ·have me:R.works.length=24:=by omega
   refine⟨R,Or.inr (Or.inr (Or.inr (Or.inr ⟨rfl,fun _=>me⟩))),I.mono (by omega),qmu h hk ha hb hc c1 (fun G Wx hR=>?_)⟩
   exact qmv hR hp (I.small K hp) (by omega) _ _ (I.full K yP hp hf me) me d_.2
 ·by_cases c2:pkN k 8<6
  ·by_cases hz:R.works.length=0
   ·exact⟨R,Or.inr (Or.inr (Or.inr (Or.inr ⟨rfl,fun e=>absurd e c1⟩))),I.mono (by omega),qqu h hk ⟨by omega,c2⟩ hz⟩
   ·have an:=qdk a (n:=R.works.length) (by omega);obtain⟨x,hx⟩:∃x,R.works[pkN a R.works.length]?=some x:=⟨_,xr1 an⟩;obtain⟨e1,aj,e2,e3,e4,_⟩:=I.finish K hx
    refine⟨_,Or.inr (Or.inl ⟨by omega,_,x,aj,hx,e2,rfl⟩),e3,qsy h hk ha ⟨by omega,c2⟩ (by omega) lE (fun G Wx hR=>?_)⟩
    exact qxl hR hx lE cH rfl e1 e4 e2
  ·have Bn:=qdk a (n:=8) (by omega);obtain⟨p,hp⟩:=pg (pkN a 8) Bn
   by_cases c3:pkN k 8=6
   ·have Br:=qdk b (n:=30) (by omega);have BB:=qdk c (n:=30) (by omega);have Bq:=qdk b (n:=25) (by omega);have BA:=qdk c (n:=25) (by omega);have gZ:qao (qA0 (pkN a 8) b c) (qA1 (pkN a 8) b c)=true:=by
     unfold qA0 qA1
     split
     ·rfl
     ·exact qla (by omega) (by omega)
    have gI:qao (pkN c 25) (pkN b 25)=true:=qla (by omega) (by omega);obtain⟨e1,aj,bU,e2,e3,e4,_⟩:=I.qbb K hp gZ gI (fun h5=>⟨by unfold qA0;rw[if_pos h5],by unfold qA1;rw[if_pos h5]⟩)
    refine⟨_,Or.inr (Or.inr (Or.inl ⟨by omega,_,p,_,_,_,_,aj,bU,hp,e2,rfl⟩)),e3,qsz h hk ha c3 h8 (fun G Wx hR=>?_)⟩
    exact qza hR hp (I.small K hp) (by omega) lE cH k a b c hb hc rfl e1 e4 e2
   ·have c4:pkN k 8=7:=by omega
    have gO:∀tk,qbx tk=true->(sb (qaa tk)).size<=2000000->∃R',qya R k a b c R'/\RunI (n+1) R'/\∀(G:Nat->Prop) (Wx:World),qay G Wx rb R->Calls prog 44 #[.pointer (some ⟨rb,0,none⟩),.int .i64 (pkN a 8),.string (sb (qaa tk))] Wx fun e w'=>e=.returned (.bool true)/\qay G w' rb R'/\Keep (fun b=>¬G b) Wx w':=fun tk cZ qa=>by
     rcases I.move K hp cZ with ⟨e1,e2,e3⟩|⟨e1,aj,e2,e3,e4,_⟩
     ·exact⟨R,Or.inr (Or.inr (Or.inr (Or.inr ⟨rfl,fun e=>absurd e c1⟩))),I.mono (by omega),fun G Wx hR=>qvc hR hp (I.small K hp) (by omega) (sb (qaa tk)) qa (by rw[qb2]) e1 e2 e3⟩
     ·exact⟨_,Or.inr (Or.inr (Or.inr (Or.inl ⟨by omega,_,p,tk,aj,hp,cZ,e1,e2,rfl⟩))),e3,fun G Wx hR=>qvd hR hp cf (by omega) cZ qa lE cH rfl e1 e4 e2⟩
    by_cases c5:pkN b 4<3
    ·have aM:=qdk b (n:=3) (by omega);obtain⟨tk,cZ⟩:=pg (5+pkN b 3) (by omega);obtain⟨g1,g2,g3⟩:=cf tk (xr2 cZ);obtain⟨R',r1,r2,r3⟩:=gO tk g1 g3
     exact⟨R',r1,r2,qqt h hk ha hb c4 c5 h8 cZ r3⟩
    ·obtain⟨R',r1,r2,r3⟩:=gO [] rfl (by decide)
     exact⟨R',r1,r2,qqs h hk ha hb c4 (by omega) h8 r3⟩
end
abbrev kbx:ByteArray:=⟨#[120]⟩
abbrev kbxa:ByteArray:=⟨#[120,47,97]⟩
abbrev kbxb:ByteArray:=⟨#[120,47,98]⟩
abbrev kbc:ByteArray:=⟨#[99]⟩
def kb0:KS:=⟨[⟨[],false,0,0,0,0⟩],[],0,0⟩
def kb1:KS:=(kb0.make (bl kbx) false 0 0 5 5).ks
def kb2:KS:=(kb1.make (bl kbxa) true 10 10 0 0).ks
def kb3:KS:=(kb2.make (bl kbxb) true 10 10 20 20).ks
def kb4:KS:=(kb3.make (bl kbc) true 10 10 10 10).ks
def kb5:KS:=(kb4.qbh (bl kbxb) 15 5).ks
def kb6:KS:=(kb5.qbh (bl kbxb) 8 1).ks
def kb7:KS:=(kb6.qbh (bl kbxa) 10 0).ks
def KS.out(k:KS)(err:Int)(evs:List (Int×Int)):Out:=⟨err,k.L,k.Ws,k.cnt,k.st,evs⟩
theorem KS.qd1(k:KS)(err:Int)(evs:List (Int×Int)):(k.out err evs).ks=k:=rfl
theorem qyr:kb0.make (bl kbx) false 0 0 5 5=kb1.out 0 []:=by kernel_rfl
theorem qys:kb1.make (bl kbxa) true 10 10 0 0=kb2.out 0 []:=by kernel_rfl
theorem qyt:kb2.make (bl kbxb) true 10 10 20 20=kb3.out 0 []:=by kernel_rfl
theorem qyv:kb3.make (bl kbc) true 10 10 10 10=kb4.out 0 []:=by kernel_rfl
theorem qyx:kb4.qbh (bl kbxb) 15 5=kb5.out 0 [(1,1)]:=by kernel_rfl
theorem qyz:kb5.qbh (bl kbxb) 8 1=kb6.out 0 [(1,2)]:=by kernel_rfl
theorem qy0:kb6.qbh (bl kbxa) 10 0=kb7.out 0 [(2,2),(1,3)]:=by kernel_rfl
theorem qz4:errS kb4.L kb4.Ws (bl kbxb) (qao 15 5)=0:=by decide +kernel
theorem qz5:errS kb5.L kb5.Ws (bl kbxb) (qao 8 1)=0:=by decide +kernel
theorem qz6:errS kb6.L kb6.Ws (bl kbxa) (qao 10 0)=0:=by decide +kernel
theorem qyu:kb4.cnt=0:=by decide +kernel
theorem qyw:kb5.cnt=1:=by decide +kernel
theorem qyy:kb6.cnt=2:=by decide +kernel
def kbq:Ent:=⟨[[120],[98]],true,10,10,20,20⟩
theorem qz8:qas (bl kbxb)=true:=by decide +kernel
theorem qz7:qf0 kb7.L (qab (bl kbxb))=some kbq:=by kernel_rfl
theorem qva(v:Value):kb7.told kbq v=#[.string kbxb,.bool true,.int .i64 10,.int .i64 10,.int .i64 20,.int .i64 20,.int .i64 15,.int .i64 5,v]:=by
 have h1:sb (qaa kbq.key)=kbxb:=by kernel_rfl
 have h2:es0 (qai kb7.L (qaa kbq.key))=10:=by decide +kernel
 have h3:es1 (qai kb7.L (qaa kbq.key))=10:=by decide +kernel
 have h4:ws0 (qah kb7.Ws (qaa kbq.key))=15:=by decide +kernel
 have h5:ws1 (qah kb7.Ws (qaa kbq.key))=5:=by decide +kernel
 unfold KS.told;rw[h1,h2,h3,h4,h5]
 rfl
theorem qz9:(kb7.waits kbq).length=1:=by decide +kernel
theorem qp1(w:World):Calls prog 39 #[] w fun e w'=>e=.returned (.bool true)/\Below w.heap.size w w':=by
 have Co:=quv;have Cn:=quu
 go_enter func39,ntmps39
 go_upto_region 16 with (first
  |(go_at_call 38;refine(qzm w _ (by exact bel2)).mono ?_;rintro e w0 ⟨bt,rfl,k0⟩)
  |(go_at_call 27;refine(qpr k0 kbx (by decide) 5 5 qyr).mono ?_;rintro e w1 ⟨g1,rfl,k1,r1,_⟩;rw[KS.qd1]at k1;have e1:(kb1.out 0 []).err=0:=rfl;rw[e1];clear e1 r1 k0)
  |(go_at_call 26;refine(qps k1 kbxa (by decide) 10 10 0 0 qys).mono ?_;rintro e w2 ⟨g2,rfl,k2,r2,_⟩;rw[KS.qd1]at k2;have e1:(kb2.out 0 []).err=0:=rfl;rw[e1];clear e1 r2 k1)
  |(go_at_call 26;refine(qps k2 kbxb (by decide) 10 10 20 20 qyt).mono ?_;rintro e w3 ⟨g3,rfl,k3,r3,_⟩;rw[KS.qd1]at k3;have e1:(kb3.out 0 []).err=0:=rfl;rw[e1];clear e1 r3 k2)
  |(go_at_call 26;refine(qps k3 kbc (by decide) 10 10 10 10 qyv).mono ?_;rintro e w4 ⟨g4,rfl,k4,r4,_⟩;rw[KS.qd1]at k4;have e1:(kb4.out 0 []).err=0:=rfl;rw[e1];clear e1 r4 k3)
  |(go_at_call 32;refine(qip k4 (by rw[qyu];decide) kbxb (by decide) 15 5 qyx qz4).mono ?_;rw[qyu];rintro e w5 ⟨g5,rfl,k5,r5,_⟩;rw[KS.qd1]at k5;have e2:(kb5.out 0 [(1,1)]).evs.length=1:=rfl;rw[e2]at r5;clear e2;obtain⟨a5,c5,rfl,_,_⟩:=qa7 r5;clear k4 r5)
  |(go_at_call 32;refine(qip k5 (by rw[qyw];decide) kbxb (by decide) 8 1 qyz qz5).mono ?_;rw[qyw];rintro e w6 ⟨g6,rfl,k6,r6,_⟩;rw[KS.qd1]at k6;have e2:(kb6.out 0 [(1,2)]).evs.length=1:=rfl;rw[e2]at r6;clear e2;obtain⟨a6,c6,rfl,_,_⟩:=qa7 r6;clear k5 r6)
  |(go_at_call 32;refine(qip k6 (by rw[qyy];decide) kbxa (by decide) 10 0 qy0 qz6).mono ?_;rw[qyy];rintro e w7 ⟨g7,rfl,k7,r7,_⟩;rw[KS.qd1]at k7;have e2:(kb7.out 0 [(2,2),(1,3)]).evs.length=2:=rfl;have e3:(kb7.out 0 [(2,2),(1,3)]).evs=[(2,2),(1,3)]:=rfl;rw[e2,e3]at r7;clear e2 e3;obtain⟨a7,c7,rfl,d7,f7⟩:=qa7 r7;clear k6)
  |(go_at_call 34;refine(qx0 k7 kbxb (by decide) qz8 qz7).mono ?_;rintro e w8 ⟨g8,rfl,k8,r8,q8⟩;rw[qva];rw[qz9]at r8;obtain⟨a8,c8,rfl,_,_⟩:=qa7 r8))
 have ef:=qo7 r7;obtain⟨g,hg,bK,p0,p1⟩:=ef 0 (2,2) rfl;obtain⟨g',bY,_,p2,p3⟩:=ef 1 (1,3) rfl;rw[hg]at bY;injection bY with bY;injection bY with bY;subst bY;subst hg;have q0:=(q8.cell (p:=⟨g,0*2,none⟩) bK).trans p0;have q1:=(q8.cell (p:=⟨g,0*2+1,none⟩) bK).trans p1;have q2:=(q8.cell (p:=⟨g,1*2,none⟩) bK).trans p2;have q3:=(q8.cell (p:=⟨g,1*2+1,none⟩) bK).trans p3;simp only[Nat.zero_mul,Nat.zero_add,Nat.one_mul,Nat.reduceAdd]at q0 q1 q2 q3;have tv:=k8.1;have tJ:g<w8.heap.size:=by have:=q8.size;omega
 have hA:=fun o=>Below.alloc (Below.refl w8.heap.size w8) (Nat.le_refl _) o
 obtain⟨o9,pU⟩:∃o9,o9=Obj.cells #[Value.string kbxb,.bool true,.int .i64 10,.int .i64 10,.int .i64 20,.int .i64 20,.int .i64 15,.int .i64 5,.slice a8 1 c8] 37:=⟨_,rfl⟩;have t0:=((hA o9).cell (p:=⟨g,0,none⟩) tJ).trans q0;have t1:=((hA o9).cell (p:=⟨g,1,none⟩) tJ).trans q1;have t2:=((hA o9).cell (p:=⟨g,2,none⟩) tJ).trans q2;have t3:=((hA o9).cell (p:=⟨g,3,none⟩) tJ).trans q3;have gD:Blk (w8.alloc o9) w8.heap.size 37 #[Value.string kbxb,.bool true,.int .i64 10,.int .i64 10,.int .i64 20,.int .i64 20,.int .i64 15,.int .i64 5,.slice a8 1 c8]:=by rw[pU];exact Blk.new w8 37 _
 have ob:Below w.heap.size w (w8.alloc o9):=qac tv (hA o9);rw[<-pU];generalize w8.alloc o9=W9 at t0 t1 t2 t3 gD ob ⊢;have z6:=gD.cell 6;have z7:=gD.cell 7;have z8:=gD.cell 8;simp only[xq0,xq1,xq2]at z6 z7 z8;clear ef p0 p1 p2 p3 r7 r8 k7 k8 gD hA pU q0 q1 q2 q3
 go_wp2_with fail
 go_ret
 exact⟨rfl,ob⟩
abbrev kbxc:ByteArray:=⟨#[120,47,99]⟩
def kc1:KS:=(kb0.make (bl kbx) false 0 0 0 0).ks
def kc2:KS:=(kc1.make (bl kbc) true 3 3 0 0).ks
def kc3:KS:=(kc2.qbh (bl kbc) 3 0).ks
def kc4:KS:=(kc3.move (bl kbc) (bl kbx)).ks
def kc5:KS:=(kc4.qbb (bl kbxc) 3 0 0 0).ks
def kc6:KS:=(kc5.finish 1).ks
def kc7:KS:=(kc6.remove (bl kbxc)).ks
theorem qy1:kb0.make (bl kbx) false 0 0 0 0=kc1.out 0 []:=by kernel_rfl
theorem qy3:kc1.make (bl kbc) true 3 3 0 0=kc2.out 0 []:=by kernel_rfl
theorem qy4:kc2.qbh (bl kbc) 3 0=kc3.out 0 [(1,1)]:=by kernel_rfl
theorem q0c:errS kc2.L kc2.Ws (bl kbc) (qao 3 0)=0:=by decide +kernel
theorem qy2:kc2.cnt=0:=by decide +kernel
theorem q0d:kc3.qbb (bl kbc) 2 9 0 0=kc3.out 11 []:=by kernel_rfl
theorem qy5:kc3.move (bl kbc) (bl kbx)=kc4.out 0 []:=by kernel_rfl
theorem qy6:kc4.qbb (bl kbxc) 3 0 0 0=kc5.out 0 []:=by kernel_rfl
theorem qy7:kc5.finish 1=kc6.out 0 []:=by kernel_rfl
theorem qy8:kc6.remove (bl kbxc)=kc7.out 0 []:=by kernel_rfl
theorem ql9(w:World):Calls prog 15 #[] w fun e w'=>e=.returned (.bool true)/\Below w.heap.size w w':=by
 go_enter func15,ntmps15
 go_wp2_with (first
  |(go_at_call 38;refine(qzm w _ (by exact bel2)).mono ?_;rintro e w0 ⟨bt,rfl,j0⟩)
  |(go_at_call 39;refine(qp1 _).mono ?_;rintro e wb ⟨rfl,hb⟩;have k0:=j0.below hb;clear j0)
  |(go_at_call 27;refine(qpr k0 kbx (by decide) 0 0 qy1).mono ?_;rintro e w1 ⟨g1,rfl,k1,r1,_⟩;rw[KS.qd1]at k1;have e1:(kc1.out 0 []).err=0:=rfl;rw[e1];clear e1 r1 k0)
  |(go_at_call 26;refine(qps k1 kbc (by decide) 3 3 0 0 qy3).mono ?_;rintro e w2 ⟨g2,rfl,k2,r2,_⟩;rw[KS.qd1]at k2;have e1:(kc2.out 0 []).err=0:=rfl;rw[e1];clear e1 r2 k1)
  |(go_at_call 32;refine(qip k2 (by rw[qy2];decide) kbc (by decide) 3 0 qy4 q0c).mono ?_;rw[qy2];rintro e w3 ⟨g3,rfl,k3,r3,_⟩;rw[KS.qd1]at k3;clear k2 r3)
  |(go_at_call 29;refine(qt9 k3 kbc (by decide) 2 9 0 0 q0d).mono ?_;rintro e w4 ⟨g4,rfl,k4,r4,_⟩;rw[KS.qd1]at k4;have e1:(kc3.out 11 []).err=11:=rfl;rw[e1];clear e1 r4 k3)
  |(go_at_call 30;refine(qzl k4 kbc kbx (by decide) (by decide) qy5).mono ?_;rintro e w5 ⟨g5,rfl,k5,r5,_⟩;rw[KS.qd1]at k5;have e1:(kc4.out 0 []).err=0:=rfl;rw[e1];clear e1 r5 k4)
  |(go_at_call 29;refine(qt9 k5 kbxc (by decide) 3 0 0 0 qy6).mono ?_;rintro e w6 ⟨g6,rfl,k6,r6,_⟩;rw[KS.qd1]at k6;have e1:(kc5.out 0 []).err=0:=rfl;rw[e1];clear e1 k5;obtain⟨a6,c6,rfl,_,_⟩:=qa7 r6;have e2:(kc5.out 0 []).evs.length=0:=rfl;rw[e2])
  |(go_at_call 28;refine(qv6 k6 1 qy7).mono ?_;rintro e w7 ⟨g7,rfl,k7,r7,_⟩;rw[KS.qd1]at k7;have e1:(kc6.out 0 []).err=0:=rfl;rw[e1];clear e1 r7 k6)
  |(go_at_call 31;refine(qv7 k7 kbxc (by decide) qy8).mono ?_;rintro e w8 ⟨g8,rfl,k8,r8,_⟩;rw[KS.qd1]at k8;have e1:(kc7.out 0 []).err=0:=rfl;rw[e1];clear e1 r8 k7))
 go_ret
 exact⟨rfl,k8.1⟩
def qb8:List (List Bs):=[[[97]],[[120],[98]],[[120],[99]],[[120],[122],[100]],[[121],[101]],[[120]],[[121]],[[120],[122]]]
def frL (len:Nat)(q:Nat->Int):List Ent :=
 [⟨[],false,0,0,0,0⟩,⟨[[120]],false,0,0,raw0 len q 0,raw1 len q 0⟩,⟨[[121]],false,0,0,raw0 len q 1,raw1 len q 1⟩,⟨[[120],[122]],false,0,0,raw0 len q 2,raw1 len q 2⟩,
  ⟨[[97]],true,raw0 len q 3,raw1 len q 3,raw0 len q 8,raw1 len q 8⟩,⟨[[120],[98]],true,raw0 len q 4,raw1 len q 4,raw0 len q 9,raw1 len q 9⟩,⟨[[120],[99]],true,raw0 len q 5,raw1 len q 5,raw0 len q 10,raw1 len q 10⟩,
  ⟨[[120],[122],[100]],true,raw0 len q 6,raw1 len q 6,raw0 len q 11,raw1 len q 11⟩,⟨[[121],[101]],true,raw0 len q 7,raw1 len q 7,raw0 len q 12,raw1 len q 12⟩]
def frK (len:Nat)(q:Nat->Int)(i:Nat):KS:=⟨(frL len q).take (i+1),[],0,0⟩
def frR (len:Nat)(q:Nat->Int)(i:Nat):KR:=⟨frK len q i,qb8,[],0,[]⟩
theorem qfl{s:Bs}{b:Int}(hE:errE L s true=0)(h1:qao a b=true)(h2:qao c d=true):KS.make ⟨L,[],cnt,st⟩ s leaf a b c d=⟨0,L++[⟨qab s,leaf,a,b,c,d⟩],[],cnt,st,[]⟩:=by
 unfold KS.make;rw[h1,h2];simp only[Bool.and_self,hE];rw[if_neg (by simp)]
 rfl
theorem qcl(len:Nat)(q:Nat->Int)(i:Nat):qao (raw0 len q i) (raw1 len q i)=true:=by
 have:=qzg len q i
 unfold qao;simp only[decide_eq_true_eq]
 omega
theorem qsi(len:Nat)(q:Nat->Int):∀i,i<3->∃p,qb8[5+i]?=some p/\(frK len q i).make (qaa p) false 0 0 (raw0 len q i) (raw1 len q i)=(frK len q (i+1)).out 0 []
 |0,_=>⟨_,rfl,(qfl (by kernel_rfl) rfl (qcl _ _ _)).trans (by kernel_rfl)⟩
 |1,_=>⟨_,rfl,(qfl (by kernel_rfl) rfl (qcl _ _ _)).trans (by kernel_rfl)⟩
 |2,_=>⟨_,rfl,(qfl (by kernel_rfl) rfl (qcl _ _ _)).trans (by kernel_rfl)⟩
 |n+3,h=>absurd h (by omega)
theorem qxb(len:Nat)(q:Nat->Int):∀i,i<5->∃p,qb8[i]?=some p/\(frK len q (3+i)).make (qaa p) true (raw0 len q (3+i)) (raw1 len q (3+i)) (raw0 len q (8+i)) (raw1 len q (8+i))=(frK len q (3+(i+1))).out 0 []
 |0,_=>⟨_,rfl,(qfl (by kernel_rfl) (qcl _ _ _) (qcl _ _ _)).trans (by kernel_rfl)⟩
 |1,_=>⟨_,rfl,(qfl (by kernel_rfl) (qcl _ _ _) (qcl _ _ _)).trans (by kernel_rfl)⟩
 |2,_=>⟨_,rfl,(qfl (by kernel_rfl) (qcl _ _ _) (qcl _ _ _)).trans (by kernel_rfl)⟩
 |3,_=>⟨_,rfl,(qfl (by kernel_rfl) (qcl _ _ _) (qcl _ _ _)).trans (by kernel_rfl)⟩
 |4,_=>⟨_,rfl,(qfl (by kernel_rfl) (qcl _ _ _) (qcl _ _ _)).trans (by kernel_rfl)⟩
 |n+5,h=>absurd h (by omega)
theorem qsj(len:Nat)(q:Nat->Int):∀i p,qb8[i]?=some p->∃e∈frL len q,e.key=p/\e.leaf=decide (i<5)
 |0,p,h=>⟨_,xr2 (i:=4) rfl,by simpa [qb8] using h,rfl⟩
 |1,p,h=>⟨_,xr2 (i:=5) rfl,by simpa [qb8] using h,rfl⟩
 |2,p,h=>⟨_,xr2 (i:=6) rfl,by simpa [qb8] using h,rfl⟩
 |3,p,h=>⟨_,xr2 (i:=7) rfl,by simpa [qb8] using h,rfl⟩
 |4,p,h=>⟨_,xr2 (i:=8) rfl,by simpa [qb8] using h,rfl⟩
 |5,p,h=>⟨_,xr2 (i:=1) rfl,by simpa [qb8] using h,rfl⟩
 |6,p,h=>⟨_,xr2 (i:=2) rfl,by simpa [qb8] using h,rfl⟩
 |7,p,h=>⟨_,xr2 (i:=3) rfl,by simpa [qb8] using h,rfl⟩
 |n+8,p,h=>by simp[qb8]at h
theorem qyl{len:Nat}{q:Nat->Int}(K:KInv nodes (frK len q 8)):RunI 0 (frR len q 8):=by
 have kV:((frL len q).map (·.key))=[[],[[120]],[[121]],[[120],[122]],[[97]],[[120],[98]],[[120],[99]],[[120],[122],[100]],[[121],[101]]]:=rfl;have hL:(frK len q 8).L=frL len q:=rfl
 refine⟨rfl,?_,?_,List.Perm.refl _,fun w hw=>(by cases hw),fun w hw=>(by cases hw),rfl,fun e he=>?_,fun y hy=>(by cases hy),fun y hy=>(by cases hy),by simp[frR,frK],by simp[frR,frK]⟩
 ·show((frK len q 8).L.map (·.key)).Perm ([]::qb8)
  rw[hL,kV]
  decide
 ·intro i p hp
  exact qsj len q i p hp
 ·have lZ:e∈nodes.map Node.ent:=by rw[K.L];exact he
  obtain⟨m,hm,rfl⟩:=xrq.1 lZ;have h1:=K.tree.num m hm;have h2:=qiz K.tree.ents (qaa m.key);rw[K.L]at h2;have e1:ws0 (qah ([]:List Wk) (qaa m.ent.key))=0:=rfl;have e2:ws1 (qah ([]:List Wk) (qaa m.ent.key))=0:=rfl
  show ws0 (qah ([]:List Wk) (qaa m.ent.key))<=es0 (qai (frK len q 8).L (qaa m.ent.key))+m.ent.b0/\ws1 (qah ([]:List Wk) (qaa m.ent.key))<=es1 (qai (frK len q 8).L (qaa m.ent.key))+m.ent.b1
  rw[e1,e2];have e3:m.ent.key=m.key:=rfl;have e4:m.ent.b0=m.b0:=rfl;have e5:m.ent.b1=m.b1:=rfl;rw[e3,e4,e5]
  omega
theorem qo9{p:List Bs}(hp:p∈qb8):(sb (qaa p)).size<=2000000:=by
 have h:∀p∈qb8,(qaa p).length<=100:=by decide
 rw[qcp]
 have:=h p hp
 omega
theorem qsk{F:Nat->Prop}{rb:Nat}{len:Nat}{q:Nat->Int}{P:Nat->Prop}{p:List Bs}(h:RunM F wr rb (frR len q i) P bt (.slice (some ⟨gp,0,none⟩) 8 cp) (.slice none 0 0) (.slice none 0 0))(hb:Below wr.heap.size wr Wx)(hO:KOut P Wx bt ((frK len q (i+1)).out 0 []) ev w2)(hp:qb8[j]?=some p):
  Blk w2 rb 50 #[.pointer (some ⟨bt,0,none⟩),.slice (some ⟨gp,0,none⟩) 8 cp,.slice none 0 0,.int .i64 0,.slice none 0 0]/\w2.cell? ⟨gp,j,none⟩=some (.string (sb (qaa p)))/\Hid (∃P',RunM F w2 rb (frR len q (i+1)) P' bt (.slice (some ⟨gp,0,none⟩) 8 cp) (.slice none 0 0) (.slice none 0 0))/\Keep (fun b=>¬F b) wr w2:=by
 obtain⟨P1,g1,g2,g3,g4⟩:=(h.below hb).called hO;obtain⟨g',_,e1,_,_,_,_,q1⟩:=g1.path (i:=j) (p:=p) hp;injection e1 with e2;injection e2 with e2;injection e2 with e2;subst e2
 exact⟨g1.at_,q1,⟨P1,g1⟩,(Keep.new hb).trans g4⟩
theorem qqm{len:Nat}{q:Nat->Int}(hq:QIn w aq len q)(hl:len<=cap)(hm:cap<=maxLen):
  Calls prog 16 #[.slice aq len cap] w fun e w'=>∃rb,e=.returned (.pointer (some ⟨rb,0,none⟩))/\qay (fun b=>b<w.heap.size) w' rb (frR len q 8)/\Below w.heap.size w w':=by
 have pn:Hid (∀(Wx:World),Below w.heap.size w Wx->∀(r:Value) (i:Nat),i<=100->Calls prog 40 #[r,.slice aq len cap,.int .i64 i] Wx fun e w'=>e=.returned (.agg #[.int .i64 (raw0 len q i),.int .i64 (raw1 len q i)])/\Below Wx.heap.size Wx w'):=fun Wx hb r i hi=>kraw (hq.below (n:=0) hb) hl hm r i hi
 clear hq
 go_enter func16,ntmps16
 go_upto_region 6 with (go_at_call 38;refine(qyq w).mono ?_;rintro e w1 ⟨bt,P,rfl,hT,hP,aa⟩)
 obtain⟨cs,cu⟩:∃cs:Array Value,cs=#[.string ⟨#[97]⟩,.string ⟨#[120,47,98]⟩,.string ⟨#[120,47,99]⟩,.string ⟨#[120,47,122,47,100]⟩,.string ⟨#[121,47,101]⟩,.string ⟨#[120]⟩,.string ⟨#[121]⟩,.string ⟨#[120,47,122]⟩]:=⟨_,rfl⟩;obtain⟨rs,ml⟩:∃rs:Array Value,rs=#[.pointer (some ⟨bt,0,none⟩),.slice (some ⟨w1.heap.size,0,none⟩) 8 8,.slice none 0 0,.int .i64 0,.slice none 0 0]:=⟨_,rfl⟩;have uQ:Below w1.heap.size w1 (w1.alloc (.cells cs 9)):=Below.alloc (Below.refl _ _) (Nat.le_refl _) _;have lT:Below w1.heap.size w1 ((w1.alloc (.cells cs 9)).alloc (.cells rs 50)):=Below.alloc uQ uQ.size _;have dv:=aa.size;have qH:RunM (fun b=>b<w.heap.size) ((w1.alloc (.cells cs 9)).alloc (.cells rs 50)) (w1.heap.size+1) (frR len q 0) P bt (.slice (some ⟨w1.heap.size,0,none⟩) 8 8) (.slice none 0 0) (.slice none 0 0):=by
  have Be:=hT.lt
  refine⟨hT.below lT,?_,?_,xrk _ _ _ _,xrk _ _ _ _,?_,?_,?_,?_,?_,?_⟩
  ·have:=Blk.new (w1.alloc (.cells cs 9)) 50 rs
   rw[ml]at this ⊢;have e:(w1.alloc (.cells cs 9)).heap.size=w1.heap.size+1:=by simp
   rw[e]at this
   exact this
  ·have h1:=World.ownsRow_lit (base:=0) (e:=9) (size:=1) w1 cs 8 (Nat.zero_le _) (by unfold maxLen;omega) (by rw[cu];rfl);have e:cs.toList=qfm qb8:=by rw[cu];kernel_rfl
   rw[e]at h1
   exact h1.alloc _
  ·intro b hb e
   have:=Be b e
   rcases hb with hb|hb|hb|hb
   ·omega
   ·simp[Value.ownBlock]at hb;omega
   ·cases hb
   ·cases hb
  ·intro b hb e
   rcases hb with hb|hb|hb|hb|hb
   ·have:=hP b hb;omega
   ·omega
   ·simp[Value.ownBlock]at hb;omega
   ·cases hb
   ·cases hb
  ·intro b hb
   simp
   omega
  ·refine⟨fun e=>?_,fun e=>(by cases e),fun e=>(by cases e)⟩
   simp[Value.ownBlock]at e
  ·exact fun b hb=>⟨fun e=>(by cases e),fun e=>(by cases e)⟩
  ·exact fun b hb=>(by cases hb)
 have bh:Below w.heap.size w ((w1.alloc (.cells cs 9)).alloc (.cells rs 50)):=qac aa lT;rw[cu,ml]at qH bh;generalize (w1.alloc (.cells #[.string ⟨#[97]⟩,.string ⟨#[120,47,98]⟩,.string ⟨#[120,47,99]⟩,.string ⟨#[120,47,122,47,100]⟩,.string ⟨#[121,47,101]⟩,.string ⟨#[120]⟩,.string ⟨#[121]⟩,.string ⟨#[120,47,122]⟩] 9)).alloc (.cells #[.pointer (some ⟨bt,0,none⟩),.slice (some ⟨w1.heap.size,0,none⟩) 8 8,.slice none 0 0,.int .i64 0,.slice none 0 0] 50)=W0 at qH bh ⊢;generalize w1.heap.size+1=rb at qH ⊢;generalize w1.heap.size=gp at qH ⊢;clear uQ lT cu ml dv hT hP aa cs rs
 go_wp2_with fail
 go_loopw [5,6] (fun ok i wr=>ok=.bool true/\∃k:Nat,k<=3/\i=.int .i64 k/\Hid (∃P,RunM (fun b=>b<w.heap.size) wr rb (frR len q k) P bt (.slice (some ⟨gp,0,none⟩) 8 8) (.slice none 0 0) (.slice none 0 0))/\Below w.heap.size w wr) (fun _ i _=>3-(intOf i).toNat)
 case atStart=>exact⟨rfl,0,Nat.zero_le _,rfl,⟨P,qH⟩,bh⟩
 case round =>
  obtain⟨rfl,k,hk,rfl,hR,hB⟩:=hrel
  by_cases an:k<3
  ·obtain⟨P1,hM⟩:=hR.out;obtain⟨p,hp,cR⟩:=qsi len q k an;obtain⟨g',c',e1,bK,eU,_,_,q0⟩:=hM.path hp;have bY:g'=gp:=by
    injection e1 with e2;injection e2 with e2;injection e2 with e2
    exact e2.symm
   clear e1;rw[bY]at bK eU q0;clear bY;have c1:=hM.at_.cell 1;simp only[xq0,xq1,xq2]at c1;have dd:=qo9 (xr2 hp);have nF:∀Wx,Below wr.heap.size wr Wx->Calls prog 27 #[.pointer (some ⟨bt,0,none⟩),.string (sb (qaa p)),.agg #[.int .i64 (raw0 len q k),.int .i64 (raw1 len q k)]] Wx fun e w2=>∃ev,e=.returned (.tuple #[ev,.int .i64 0])/\Blk w2 rb 50 #[.pointer (some ⟨bt,0,none⟩),.slice (some ⟨gp,0,none⟩) 8 8,.slice none 0 0,.int .i64 0,.slice none 0 0]/\w2.cell? ⟨gp,5+k,none⟩=some (.string (sb (qaa p)))/\Hid (∃P',RunM (fun b=>b<w.heap.size) w2 rb (frR len q (k+1)) P' bt (.slice (some ⟨gp,0,none⟩) 8 8) (.slice none 0 0) (.slice none 0 0))/\Below w.heap.size w w2:=fun Wx hb=>by
    refine(qpf (hM.below hb).tw (sb (qaa p)) dd _ _).mono ?_
    have e:(frR len q k).k=frK len q k:=rfl;rw[qb2,e,cR]
    rintro e w2 ⟨ev,rfl,hO⟩
    obtain⟨t1,t2,t3,t4⟩:=qsk hM hb hO hp
    exact⟨ev,rfl,t1,t2,t3,hB.trans (t4.toBelow hB.size (fun b hb e=>e hb))⟩
   have Cw:=fun Wx hb=>pn.out Wx hb (.pointer (some ⟨rb,0,none⟩)) k (by omega)
   have jH:(k:Int)<3:=by omega
   have eV:(0:Int)<=k:=by omega
   have z1:(0:Int)<=5+(k:Int):=by omega
   have z2:5+(k:Int)<8:=by omega
   have z3:IntKind.i64.wrap (5+(k:Int))=5+(k:Int):=by rw[IntKind.wrap_i64];omega
   have z4:(5+(k:Int)).toNat=5+k:=by omega
   have nU:=hM.at_.lt;clear hM hR hp cR
   go_upto_region 9 with fail
   go_cut [8] from 23 to 39 (fun e wx=>e=.int .i64 0/\Hid (∃P',RunM (fun b=>b<w.heap.size) wx rb (frR len q (k+1)) P' bt (.slice (some ⟨gp,0,none⟩) 8 8) (.slice none 0 0) (.slice none 0 0))/\Below w.heap.size w wx)
   case first =>
    go_region_held3 (fun w'=>w'.cell? ⟨rb,1,none⟩=some (.slice (some ⟨gp,0,none⟩) 8 8)/\w'.cell? ⟨gp,5+k,none⟩=some (.string (sb (qaa p)))) (go_keep)
     (first
      |(go_at_call 40;refine(Cw _ ?_).mono ?_;(focus exact bel2);rintro e w3 ⟨rfl,aM⟩;have bE:Below wr.heap.size wr w3:=qac (by exact bel2) aM;have d1:=(bE.cell (p:=⟨rb,1,none⟩) nU).trans c1;have d2:=(bE.cell (p:=⟨gp,5+k,none⟩) bK).trans q0)
      |(go_at_call 27;refine(nF _ ?_).mono ?_;(focus exact bel2);rintro e w4 ⟨ev,rfl,bm,tQ,oi,dO⟩;have d3:=bm.cell 1;simp only[xq0,xq1,xq2]at d3))
    all_goals go_wp2_with fail
    all_goals go_meet
    all_goals exact⟨rfl,oi,dO⟩
   case rest =>
    obtain⟨rfl,oi,dO⟩:=hcut
    go_wp2_with fail
    exact⟨⟨rfl,k+1,by omega,by go_num,oi,dO⟩,by simp[intOf];omega⟩
  ·have bW:k=3:=by omega
   subst bW
   go_wp2_with fail
   obtain⟨tc,lI⟩:∃tc,tc=wr:=⟨_,rfl⟩;rw[<-lI]at hR hB ⊢;clear lI
   go_loopw [5,9] (fun ok i wr=>ok=.bool true/\∃k:Nat,k<=5/\i=.int .i64 k/\Hid (∃P,RunM (fun b=>b<w.heap.size) wr rb (frR len q (3+k)) P bt (.slice (some ⟨gp,0,none⟩) 8 8) (.slice none 0 0) (.slice none 0 0))/\Below w.heap.size w wr) (fun _ i _=>5-(intOf i).toNat)
   case atStart=>exact⟨rfl,0,Nat.zero_le _,rfl,hR,hB⟩
   case round =>
    obtain⟨rfl,k,hk,rfl,hR,hB⟩:=hrel
    by_cases an:k<5
    ·obtain⟨P1,hM⟩:=hR.out;obtain⟨p,hp,cR⟩:=qxb len q k an;obtain⟨g',c',e1,bK,eU,_,_,q0⟩:=hM.path hp;have bY:g'=gp:=by
      injection e1 with e2;injection e2 with e2;injection e2 with e2
      exact e2.symm
     clear e1;rw[bY]at bK eU q0;clear bY;have c1:=hM.at_.cell 1;simp only[xq0,xq1,xq2]at c1;have dd:=qo9 (xr2 hp);have nF:∀Wx,Below wr.heap.size wr Wx->Calls prog 26 #[.pointer (some ⟨bt,0,none⟩),.string (sb (qaa p)),.agg #[.int .i64 (raw0 len q (3+k)),.int .i64 (raw1 len q (3+k))],.agg #[.int .i64 (raw0 len q (8+k)),.int .i64 (raw1 len q (8+k))]] Wx fun e w2=>∃ev,e=.returned (.tuple #[ev,.int .i64 0])/\Blk w2 rb 50 #[.pointer (some ⟨bt,0,none⟩),.slice (some ⟨gp,0,none⟩) 8 8,.slice none 0 0,.int .i64 0,.slice none 0 0]/\w2.cell? ⟨gp,k,none⟩=some (.string (sb (qaa p)))/\Hid (∃P',RunM (fun b=>b<w.heap.size) w2 rb (frR len q (3+(k+1))) P' bt (.slice (some ⟨gp,0,none⟩) 8 8) (.slice none 0 0) (.slice none 0 0))/\Below w.heap.size w w2:=fun Wx hb=>by
      refine(qwm (hM.below hb).tw (sb (qaa p)) dd _ _ _ _).mono ?_
      have e:(frR len q (3+k)).k=frK len q (3+k):=rfl;rw[qb2,e,cR]
      rintro e w2 ⟨ev,rfl,hO⟩
      obtain⟨t1,t2,t3,t4⟩:=qsk hM hb hO hp
      exact⟨ev,rfl,t1,t2,t3,hB.trans (t4.toBelow hB.size (fun b hb e=>e hb))⟩
     have se:=fun Wx hb=>pn.out Wx hb (.pointer (some ⟨rb,0,none⟩)) (3+k) (by omega)
     have sf:=fun Wx hb=>pn.out Wx hb (.pointer (some ⟨rb,0,none⟩)) (8+k) (by omega)
     rw[show((3+k:Nat):Int)=3+(k:Int) by omega]at se;rw[show((8+k:Nat):Int)=8+(k:Int) by omega]at sf;have jH:(k:Int)<5:=by omega
     have Ca:(k:Int)<8:=by omega
     have eV:(0:Int)<=k:=by omega
     have z3:IntKind.i64.wrap (3+(k:Int))=3+(k:Int):=by rw[IntKind.wrap_i64];omega
     have z4:IntKind.i64.wrap (8+(k:Int))=8+(k:Int):=by rw[IntKind.wrap_i64];omega
     have nU:=hM.at_.lt;have lO:Hid (∀Wx,Below wr.heap.size wr Wx->Wx.cell? ⟨rb,1,none⟩=some (.slice (some ⟨gp,0,none⟩) 8 8)/\Wx.cell? ⟨gp,k,none⟩=some (.string (sb (qaa p)))):=fun Wx hb=>⟨(hb.cell (p:=⟨rb,1,none⟩) nU).trans c1,(hb.cell (p:=⟨gp,k,none⟩) bK).trans q0⟩
     clear hM hR hp cR
     go_upto_region 14 with fail
     go_cut [11] from 49 to 70 (fun e wx=>e=.int .i64 0/\Hid (∃P',RunM (fun b=>b<w.heap.size) wx rb (frR len q (3+(k+1))) P' bt (.slice (some ⟨gp,0,none⟩) 8 8) (.slice none 0 0) (.slice none 0 0))/\Below w.heap.size w wx)
     case first =>
      go_region_held3 (fun w'=>w'.cell? ⟨rb,1,none⟩=some (.slice (some ⟨gp,0,none⟩) 8 8)/\w'.cell? ⟨gp,k,none⟩=some (.string (sb (qaa p)))) (go_keep)
       (first
        |(go_at_call 40;(with_reducible refine(se _ ?_).mono ?_);(focus exact bel2);rintro e w3 ⟨rfl,aM⟩;have bE:Below wr.heap.size wr w3:=qac (by exact bel2) aM;obtain⟨d1,d2⟩:=lO.out _ bE)
        |(go_at_call 40;(with_reducible refine(sf _ ?_).mono ?_);(focus exact bel2);rintro e w5 ⟨rfl,bO⟩;have dC:Below wr.heap.size wr w5:=qac (by exact bel2) bO;obtain⟨d5,d6⟩:=lO.out _ dC)
        |(go_at_call 26;refine(nF _ ?_).mono ?_;(focus exact bel2);rintro e w4 ⟨ev,rfl,bm,tQ,oi,dO⟩;have d3:=bm.cell 1;simp only[xq0,xq1,xq2]at d3))
      all_goals go_wp2_with fail
      all_goals go_meet
      all_goals exact⟨rfl,oi,dO⟩
     case rest =>
      obtain⟨rfl,oi,dO⟩:=hcut
      go_wp2_with fail
      exact⟨⟨rfl,k+1,by omega,by go_num,oi,dO⟩,by simp[intOf];omega⟩
    ·have gK:k=5:=by omega
     subst gK
     go_wp2_with fail
     go_ret
     obtain⟨P9,A_⟩:=hR.out
     exact⟨rb,rfl,⟨_,_,_,_,_,A_⟩,hB⟩
section
variable {F:Nat->Prop}{W w':World}{rb:Nat}{R:KR}
def qx8 (R:KR)(x:Ent)(W:World)(e:Ending)(w':World):Prop:=∃v,e=.returned (.tuple #[.agg (R.k.told x v),.bool true])/\w'.ownsRow 0 3 1 v (R.k.waits x).length (qm2 (R.k.waits x))/\Below W.heap.size W w'/\∀b,v.ownBlock=some b->W.heap.size<=b
theorem qy9(h:qay F W rb R){p:List Bs}(hp:R.paths[i]?=some p)(dM:qbx p=true)(dd:(sb (qaa p)).size<=2000000)(dR:R.paths.length<=100){x:Ent}(hx:qf0 R.k.L p=some x)(sH:x.key=p):
  Calls prog 19 #[.pointer (some ⟨rb,0,none⟩),.int .i64 i] W (qx8 R x W):=by
 obtain⟨P,bt,vp,vw,vl,h⟩:=h;obtain⟨gp,cp,cN,bK,eU,cM,dy,q0⟩:=h.path hp;have mX:=(xr0.1 hp).1;have bI:=qbf dM;have aL:∀Wx,Below W.heap.size W Wx->Calls prog 34 #[.pointer (some ⟨bt,0,none⟩),.string (sb (qaa p))] Wx fun e w1=>∃a1 c1,e=.returned (.tuple #[.agg #[.string (sb (qaa p)),.bool x.leaf,.int .i64 (es0 (qai R.k.L (qaa x.key))),.int .i64 (es1 (qai R.k.L (qaa x.key))),.int .i64 x.b0,.int .i64 x.b1,.int .i64 (ws0 (qah R.k.Ws (qaa x.key))),.int .i64 (ws1 (qah R.k.Ws (qaa x.key))),.slice a1 (R.k.waits x).length c1],.int .i64 0])/\Below Wx.heap.size Wx w1/\Hid (w1.ownsRow 0 3 1 (.slice a1 (R.k.waits x).length c1) (R.k.waits x).length (qm2 (R.k.waits x))/\∀b,(Value.slice a1 (R.k.waits x).length c1).ownBlock=some b->Wx.heap.size<=b):=fun Wx hb=>by
  have pE:qf0 R.k.L (qab (bl (sb (qaa p))))=some x:=by rw[qb2,bI];exact hx
  refine(qsu (h.below hb).tw (sb (qaa p)) dd (by rw[qb2,qce,bI];exact dM) pE).mono ?_
  rintro e w1 ⟨v,rfl,g1,g2,g3⟩
  obtain⟨a1,c1,rfl,_,_⟩:=qbg g1
  refine⟨a1,c1,?_,g2,g1,g3⟩
  unfold KS.told;rw[sH]
 have HQ:Hid (∀(e:Ending) (w':World) (a1:Option Addr) (c1:Nat),e=.returned (.tuple #[.agg #[.string (sb (qaa p)),.bool x.leaf,.int .i64 (es0 (qai R.k.L (qaa x.key))),.int .i64 (es1 (qai R.k.L (qaa x.key))),.int .i64 x.b0,.int .i64 x.b1,.int .i64 (ws0 (qah R.k.Ws (qaa x.key))),.int .i64 (ws1 (qah R.k.Ws (qaa x.key))),.slice a1 (R.k.waits x).length c1],.bool true])->w'.ownsRow 0 3 1 (.slice a1 (R.k.waits x).length c1) (R.k.waits x).length (qm2 (R.k.waits x))->Below W.heap.size W w'->(∀b,(Value.slice a1 (R.k.waits x).length c1).ownBlock=some b->W.heap.size<=b)->qx8 R x W e w'):=fun e w' a1 c1 he h1 h2 h3=>⟨_,by rw[he];unfold KS.told;rw[sH],h1,h2,h3⟩
 have c0:=h.at_.cell 0;have c1:=h.at_.cell 1;simp only[xq0,xq1,xq2]at c0 c1;rw[cN]at c1;have nU:=h.at_.lt;have ui:=World.new_ne W _ c0;have sV:=World.new_ne W _ c1;have sX:=World.new_ne W _ q0;have fP:(i:Int)<R.paths.length:=by omega
 have kY:(0:Int)<=i:=by omega
 have b0:Blk (W.alloc (.cells #[.string ⟨#[]⟩,.bool false,.int .i64 0,.int .i64 0,.int .i64 0,.int .i64 0,.int .i64 0,.int .i64 0,.slice none 0 0] 37)) W.heap.size 37 #[.string ⟨#[]⟩,.bool false,.int .i64 0,.int .i64 0,.int .i64 0,.int .i64 0,.int .i64 0,.int .i64 0,.slice none 0 0]:=Blk.new W 37 _;generalize R.paths.length=np at *;generalize es0 (qai R.k.L (qaa x.key))=s0 at *;generalize es1 (qai R.k.L (qaa x.key))=s1 at *;generalize ws0 (qah R.k.Ws (qaa x.key))=u0 at *;generalize ws1 (qah R.k.Ws (qaa x.key))=u1 at *;generalize (R.k.waits x).length=nw at *;generalize sb (qaa p)=iM at *;clear h hp hx sH bI dd
 go_enter func19,ntmps19
 go_upto_region 5 with (go_at_call 34;refine(aL _ ?_).mono ?_;(focus exact bel2);rintro e w1 ⟨a1,eN,rfl,aa,aI⟩;have b1:=b0.below aa (by simp);have f1:=b1.frozen;have l1:=b1.lt)
 obtain⟨o9,pU⟩:∃o9,o9=Obj.cells #[Value.string iM,.bool x.leaf,.int .i64 s0,.int .i64 s1,.int .i64 x.b0,.int .i64 x.b1,.int .i64 u0,.int .i64 u1,.slice a1 nw eN] 37:=⟨_,rfl⟩;have gD:Blk (w1.alloc o9) w1.heap.size 37 #[Value.string iM,.bool x.leaf,.int .i64 s0,.int .i64 s1,.int .i64 x.b0,.int .i64 x.b1,.int .i64 u0,.int .i64 u1,.slice a1 nw eN]:=by rw[pU];exact Blk.new w1 37 _
 have b9:=b1.alloc o9;have au:Below W.heap.size W w1:=qac (by exact bel2) aa;have hA:=Below.alloc (Below.refl w1.heap.size w1) (Nat.le_refl _) o9;have ob:Below W.heap.size W (w1.alloc o9):=qac au hA;have nW:=qg7 aI.out.1 hA;have ej:w1.heap.size≠W.heap.size:=by omega
 have wN:∀b,(Value.slice a1 nw eN).ownBlock=some b->b<w1.heap.size:=fun b hb=>qar aI.out.1 hb
 rw[<-pU];have xR:Hid (∀b,(Value.slice a1 nw eN).ownBlock=some b->W.heap.size<b):=fun b hb=>by have:=aI.out.2 b hb;simp at this;omega
 have xW:Hid ((w1.alloc o9).ownsRow 0 3 1 (.slice a1 nw eN) nw (qm2 (R.k.waits x))):=nW;have l9:=b9.lt;have BO:W.heap.size<w1.heap.size:=by omega
 clear aI nW wN au hA b1 f1 l1;generalize w1.alloc o9=W9 at gD b9 ob xW l9 ⊢;generalize w1.heap.size=g9 at gD BO ej ⊢;have z0:=gD.cell 0;have z1:=gD.cell 1;have z2:=gD.cell 2;have z3:=gD.cell 3;have z4:=gD.cell 4;have z5:=gD.cell 5;have z6:=gD.cell 6;have z7:=gD.cell 7;have z8:=gD.cell 8;have y0:=b9.cell;have y1:=b9.frozen;simp only[xq0,xq1,xq2]at z0 z1 z2 z3 z4 z5 z6 z7 z8
 go_region
 go_wp2_with fail
 have aI:=(((((((((b9.set 0 (.string iM)).set 1 (.bool x.leaf)).set 2 (.int .i64 s0)).set 3 (.int .i64 s1)).set 4 (.int .i64 x.b0)).set 5 (.int .i64 x.b1)).set 6 (.int .i64 u0)).set 7 (.int .i64 u1)).set 8 (.slice a1 nw eN)).drew;have hc:=aI.cell;have hk:=((((((((((Keep.refl (fun b=>b=W.heap.size) W9).setCell (p:=⟨W.heap.size,0,none⟩) rfl (.string iM)).setCell (p:=⟨W.heap.size,1,none⟩) rfl (.bool x.leaf)).setCell (p:=⟨W.heap.size,2,none⟩) rfl (.int .i64 s0)).setCell (p:=⟨W.heap.size,3,none⟩) rfl (.int .i64 s1)).setCell (p:=⟨W.heap.size,4,none⟩) rfl (.int .i64 x.b0)).setCell (p:=⟨W.heap.size,5,none⟩) rfl (.int .i64 x.b1)).setCell (p:=⟨W.heap.size,6,none⟩) rfl (.int .i64 u0)).setCell (p:=⟨W.heap.size,7,none⟩) rfl (.int .i64 u1)).setCell (p:=⟨W.heap.size,8,none⟩) rfl (.slice a1 nw eN)).drew;clear y0 y1 z0 z1 z2 z3 z4 z5 z6 z7 z8
 refine xrn (v:=.tuple #[.agg #[.string iM,.bool x.leaf,.int .i64 s0,.int .i64 s1,.int .i64 x.b0,.int .i64 x.b1,.int .i64 u0,.int .i64 u1,.slice a1 nw eN],.bool true]) ?_ rfl (HQ.out _ _ a1 eN rfl (qae xW.out hk (fun b hb e=>by have:=xR.out b hb;omega)) (ob.trans (hk.toBelow ob.size (fun b hb e=>by omega))) (fun b hb=>by have:=xR.out b hb;omega))
 simp[results,results19,go_sem,hc]
end
end Go.Proofs.YtphclnolomgjoaaGreatDoor
