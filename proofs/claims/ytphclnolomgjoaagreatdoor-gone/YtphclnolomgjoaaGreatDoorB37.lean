import Derived.Test.YtphclnolomgjoaaGreatDoorB36
set_option linter.unusedVariables false
set_option linter.unusedSimpArgs false
set_option maxRecDepth 100000
set_option maxHeartbeats 4000000
namespace Go.Proofs.YtphclnolomgjoaaGreatDoor
open Tryz
open Go.RowKit
variable {a c cnt d st:Int}{L:List Ent}{leaf:Bool}{nodes:List Node}{Wx w w2 wr:World}{bt cap cp gp i j k:Nat}{ev:Value}{aq:Option Addr}
section
variable {F:Nat->Prop}{W w':World}{rb:Nat}{R R':KR}
theorem qs7(h:qau F W rb R){k b:Int}(hk:I64 k)(ha:I64 a)(gL:4<=pkN k 8/\pkN k 8<6)(gu:0<R.works.length)(jM:R.works.length<=24)(hs:∀(G:Nat->Prop) (Wx:World),qau G Wx rb R->Calls prog 42 #[.pointer (some ⟨rb,0,none⟩),.int .i64 (pkN a R.works.length)] Wx fun e w'=>e=.returned (.bool true)/\qau G w' rb R'/\Keep (fun b=>¬G b) Wx w'):
  Calls prog 17 #[.pointer (some ⟨rb,0,none⟩),.agg #[.int .i64 k,.int .i64 a,.int .i64 b,.int .i64 c]] W fun e w'=>e=.returned (.bool true)/\qau F w' rb R'/\Keep (fun b=>¬F b) W w':=by
 have AO:=h.boxed hs (t:=32) (vs:=#[.int .i64 k,.int .i64 a,.int .i64 b,.int .i64 c]);obtain⟨P,bt,vp,vw,vl,h⟩:=h;obtain⟨aw,cw,cV,fX,jE⟩:=qa7 h.wrow;have c2:=h.at_.cell 2;simp only[xq0,xq1,xq2]at c2;rw[cV]at c2;have l2:=h.at_.lt;have m2:=World.new_ne W _ c2;have p1:=qfz k 8 hk (by omega) (by omega);have p2:=qfz a R.works.length ha gu (by omega);have cf:¬((pkN k 8:Int)<4):=by omega
 have aY:(pkN k 8:Int)<6:=by omega
 have zr:(0:Int)<R.works.length:=by omega
 have b0:Blk (W.alloc (.cells #[.int .i64 k,.int .i64 a,.int .i64 b,.int .i64 c] 32)) W.heap.size 32 #[.int .i64 k,.int .i64 a,.int .i64 b,.int .i64 c]:=Blk.new W 32 _;generalize (pkN k 8:Int)=kk at *;generalize (pkN a R.works.length:Int)=xa at *;generalize R.works.length=n at *;clear h hs cV
 go_enter func17,ntmps17
 go_upto_region 5 with (go_at_call 23;refine(p1 _).mono ?_;clear p1;rintro e w1 ⟨rfl,ck⟩;subst ck)
 go_region_with (first
  |(go_at_call 23;refine(p2 _).mono ?_;rintro e w2 ⟨rfl,eG⟩;subst eG)
  |(go_at_call 42;refine(AO _ ?_ ?_).mono ?_;(focus exact bel2);(focus exact blk2);rintro e w4 ⟨rfl,bf,aV⟩))
 all_goals go_wp2_with fail
 all_goals go_ret
 all_goals exact⟨rfl,aV.out⟩
theorem qqz(h:qau F W rb R){k b:Int}(hk:I64 k)(gL:4<=pkN k 8/\pkN k 8<6)(gu:R.works.length=0):
  Calls prog 17 #[.pointer (some ⟨rb,0,none⟩),.agg #[.int .i64 k,.int .i64 a,.int .i64 b,.int .i64 c]] W fun e w'=>e=.returned (.bool true)/\qau F w' rb R/\Keep (fun b=>¬F b) W w':=by
 have HR:Hid (qau F W rb R):=h;obtain⟨P,bt,vp,vw,vl,h⟩:=h;obtain⟨aw,cw,cV,fX,jE⟩:=qa7 h.wrow;rw[gu]at cV;have c2:=h.at_.cell 2;simp only[xq0,xq1,xq2]at c2;rw[cV]at c2;have l2:=h.at_.lt;have m2:=World.new_ne W _ c2;have p1:=qfz k 8 hk (by omega) (by omega);have cf:¬((pkN k 8:Int)<4):=by omega
 have aY:(pkN k 8:Int)<6:=by omega
 have bW:¬((pkN k 8:Int)=6):=by omega
 have gN:¬((pkN k 8:Int)=7):=by omega
 have b0:Blk (W.alloc (.cells #[.int .i64 k,.int .i64 a,.int .i64 b,.int .i64 c] 32)) W.heap.size 32 #[.int .i64 k,.int .i64 a,.int .i64 b,.int .i64 c]:=Blk.new W 32 _;generalize (pkN k 8:Int)=kk at *;clear h cV
 go_enter func17,ntmps17
 go_wp2_with (go_at_call 23;refine(p1 _).mono ?_;clear p1;rintro e w1 ⟨rfl,ck⟩;subst ck)
 go_ret
 have hB:Below W.heap.size W (W.alloc (.cells #[.int .i64 k,.int .i64 a,.int .i64 b,.int .i64 c] 32)):=by exact bel2
 exact⟨rfl,HR.out.below hB,Keep.new hB⟩
end
section
variable {F:Nat->Prop}{W w':World}{rb:Nat}{R R':KR}
theorem qs8(h:qau F W rb R){k b:Int}(hk:I64 k)(ha:I64 a)(gL:pkN k 8=6)(gu:R.paths.length=8)(hs:∀(G:Nat->Prop) (Wx:World),qau G Wx rb R->Calls prog 43 #[.pointer (some ⟨rb,0,none⟩),.int .i64 (pkN a 8),.agg #[.int .i64 k,.int .i64 a,.int .i64 b,.int .i64 c]] Wx fun e w'=>e=.returned (.bool true)/\qau G w' rb R'/\Keep (fun b=>¬G b) Wx w'):
  Calls prog 17 #[.pointer (some ⟨rb,0,none⟩),.agg #[.int .i64 k,.int .i64 a,.int .i64 b,.int .i64 c]] W fun e w'=>e=.returned (.bool true)/\qau F w' rb R'/\Keep (fun b=>¬F b) W w':=by
 have AP:=h.boxed hs (t:=32) (vs:=#[.int .i64 k,.int .i64 a,.int .i64 b,.int .i64 c]);obtain⟨P,bt,vp,vw,vl,h⟩:=h;obtain⟨ap,cp,cu,b_,cO⟩:=qa7 h.prow;rw[gu]at cu;have c1:=h.at_.cell 1;simp only[xq0,xq1,xq2]at c1;rw[cu]at c1;have l2:=h.at_.lt;have m1:=World.new_ne W _ c1;have p1:=qfz k 8 hk (by omega) (by omega);have p2:=qfz a 8 ha (by omega) (by omega);have cf:¬((pkN k 8:Int)<4):=by omega
 have aY:¬((pkN k 8:Int)<6):=by omega
 have bW:(pkN k 8:Int)=6:=by omega
 have b0:Blk (W.alloc (.cells #[.int .i64 k,.int .i64 a,.int .i64 b,.int .i64 c] 32)) W.heap.size 32 #[.int .i64 k,.int .i64 a,.int .i64 b,.int .i64 c]:=Blk.new W 32 _;rw[bW]at p1;generalize (pkN a 8:Int)=xa at *;clear h hs cu cf aY bW
 go_enter func17,ntmps17
 go_upto_region 7 with (go_at_call 23;refine(p1 _).mono ?_;clear p1;rintro e w1 ⟨rfl,ck⟩;subst ck)
 go_region_with (first
  |(go_at_call 23;refine(p2 _).mono ?_;rintro e w2 ⟨rfl,eG⟩;subst eG)
  |(go_at_call 43;refine(AP _ ?_ ?_).mono ?_;(focus exact bel2);(focus exact blk2);rintro e w4 ⟨rfl,bf,aV⟩))
 all_goals go_wp2_with fail
 all_goals go_ret
 all_goals exact⟨rfl,aV.out⟩
end
section
variable {F:Nat->Prop}{W w':World}{rb:Nat}{R R':KR}
theorem qqx(h:qau F W rb R){k b:Int}(hk:I64 k)(ha:I64 a)(hb:I64 b)(gL:pkN k 8=7)(bf:3<=pkN b 4)(gu:R.paths.length=8)(hs:∀(G:Nat->Prop) (Wx:World),qau G Wx rb R->Calls prog 44 #[.pointer (some ⟨rb,0,none⟩),.int .i64 (pkN a 8),.string ⟨#[]⟩] Wx fun e w'=>e=.returned (.bool true)/\qau G w' rb R'/\Keep (fun b=>¬G b) Wx w'):
  Calls prog 17 #[.pointer (some ⟨rb,0,none⟩),.agg #[.int .i64 k,.int .i64 a,.int .i64 b,.int .i64 c]] W fun e w'=>e=.returned (.bool true)/\qau F w' rb R'/\Keep (fun b=>¬F b) W w':=by
 have uR:=h.boxed hs (t:=32) (vs:=#[.int .i64 k,.int .i64 a,.int .i64 b,.int .i64 c]);obtain⟨P,bt,vp,vw,vl,h⟩:=h;obtain⟨ap,cp,cu,b_,cO⟩:=qa7 h.prow;rw[gu]at cu;have c1:=h.at_.cell 1;simp only[xq0,xq1,xq2]at c1;rw[cu]at c1;have l2:=h.at_.lt;have m1:=World.new_ne W _ c1;have p1:=qfz k 8 hk (by omega) (by omega);have p2:=qfz a 8 ha (by omega) (by omega);have p3:=qfz b 4 hb (by omega) (by omega);have bW:(pkN k 8:Int)=7:=by omega
 have aM:¬((pkN b 4:Int)<3):=by omega
 have b0:Blk (W.alloc (.cells #[.int .i64 k,.int .i64 a,.int .i64 b,.int .i64 c] 32)) W.heap.size 32 #[.int .i64 k,.int .i64 a,.int .i64 b,.int .i64 c]:=Blk.new W 32 _;rw[bW]at p1;generalize (pkN a 8:Int)=xa at *;generalize (pkN b 4:Int)=xb at *;clear h hs cu bW
 go_enter func17,ntmps17
 go_upto_region 12 with (first
  |(go_at_call 23;refine(p1 _).mono ?_;clear p1;rintro e w1 ⟨rfl,ck⟩;subst ck)
  |(go_at_call 23;refine(p3 _).mono ?_;clear p3;rintro e w1 ⟨rfl,ck⟩;subst ck))
 go_region_with (first
  |(go_at_call 23;refine(p2 _).mono ?_;rintro e w2 ⟨rfl,eG⟩;subst eG)
  |(go_at_call 44;refine(uR _ ?_ ?_).mono ?_;(focus exact bel2);(focus exact blk2);rintro e w4 ⟨rfl,bf,aV⟩))
 all_goals go_wp2_with fail
 all_goals go_ret
 all_goals exact⟨rfl,aV.out⟩
theorem qqy(h:qau F W rb R){k b:Int}(hk:I64 k)(ha:I64 a)(hb:I64 b)(gL:pkN k 8=7)(bf:pkN b 4<3)(gu:R.paths.length=8){tk:List Bs}(db:R.paths[5+pkN b 3]?=some tk)(hs:∀(G:Nat->Prop) (Wx:World),qau G Wx rb R->Calls prog 44 #[.pointer (some ⟨rb,0,none⟩),.int .i64 (pkN a 8),.string (sb (qaa tk))] Wx fun e w'=>e=.returned (.bool true)/\qau G w' rb R'/\Keep (fun b=>¬G b) Wx w'):
  Calls prog 17 #[.pointer (some ⟨rb,0,none⟩),.agg #[.int .i64 k,.int .i64 a,.int .i64 b,.int .i64 c]] W fun e w'=>e=.returned (.bool true)/\qau F w' rb R'/\Keep (fun b=>¬F b) W w':=by
 have uR:=h.boxed hs (t:=32) (vs:=#[.int .i64 k,.int .i64 a,.int .i64 b,.int .i64 c]);obtain⟨P,bt,vp,vw,vl,h⟩:=h;obtain⟨gp,cp,cu,bK,eL,b_,cO,q0⟩:=h.path db;rw[gu]at cu b_;have c1:=h.at_.cell 1;simp only[xq0,xq1,xq2]at c1;rw[cu]at c1;have l2:=h.at_.lt;have m1:=World.new_ne W _ c1;have m2:=World.new_ne W _ q0;have p1:=qfz k 8 hk (by omega) (by omega);have p2:=qfz a 8 ha (by omega) (by omega);have p3:=qfz b 4 hb (by omega) (by omega);have p4:=qfz b 3 hb (by omega) (by omega);have ug:=qef b (n:=3) (by omega);have bW:(pkN k 8:Int)=7:=by omega
 have aM:(pkN b 4:Int)<3:=by omega
 have b0:Blk (W.alloc (.cells #[.int .i64 k,.int .i64 a,.int .i64 b,.int .i64 c] 32)) W.heap.size 32 #[.int .i64 k,.int .i64 a,.int .i64 b,.int .i64 c]:=Blk.new W 32 _;rw[bW]at p1;generalize (pkN a 8:Int)=xa at *;generalize (pkN b 4:Int)=xb at *;generalize pkN b 3=xc at *;have z1:(0:Int)<=5+(xc:Int):=by omega
 have z2:5+(xc:Int)<8:=by omega
 have z3:IntKind.i64.wrap (5+(xc:Int))=5+(xc:Int):=by rw[IntKind.wrap_i64];omega
 have z4:(5+(xc:Int)).toNat=5+xc:=by omega
 clear h hs cu bW db
 go_enter func17,ntmps17
 go_upto_region 11 with (first
  |(go_at_call 23;refine(p1 _).mono ?_;clear p1;rintro e w1 ⟨rfl,ck⟩;subst ck)
  |(go_at_call 23;refine(p3 _).mono ?_;clear p3;rintro e w1 ⟨rfl,ck⟩;subst ck))
 go_region_with (first
  |(go_at_call 23;refine(p4 _).mono ?_;rintro e w2 ⟨rfl,eG⟩;subst eG))
 all_goals go_upto_region 12 with fail
 all_goals go_region_with (first
  |(go_at_call 23;refine(p2 _).mono ?_;rintro e w2 ⟨rfl,eG⟩;subst eG)
  |(go_at_call 44;refine(uR _ ?_ ?_).mono ?_;(focus exact bel2);(focus exact blk2);rintro e w4 ⟨rfl,bf,aV⟩))
 all_goals go_wp2_with fail
 all_goals go_ret
 all_goals exact⟨rfl,aV.out⟩
end
def qyi (R:KR)(k a b c:Int)(R':KR):Prop :=
 (pkN k 8<4/\R.works.length<24/\∃(p:List Bs) (an:List KW),R.paths[pkN a 5]?=some p/\qdj (R.works++[⟨R.k.cnt+1,pkN a 5,pkN b 16,pkN c 16,false,0⟩],R.qav) (R.k.qbk (qaa p) (pkN b 16) (pkN c 16)).evs=some (an,(R.k.qbk (qaa p) (pkN b 16) (pkN c 16)).st) /\
  R'=⟨(R.k.qbk (qaa p) (pkN b 16) (pkN c 16)).ks,R.paths,an,(R.k.qbk (qaa p) (pkN b 16) (pkN c 16)).st,(R.k.qbk (qaa p) (pkN b 16) (pkN c 16)).evs⟩) \/
 (4<=pkN k 8/\∃(i:Nat) (x:KW) (an:List KW),R.works[i]?=some x/\qdj (R.works.take i++R.works.drop (i+1),R.qav) (R.k.finish x.num).evs=some (an,(R.k.finish x.num).st)/\R'=⟨(R.k.finish x.num).ks,R.paths,an,(R.k.finish x.num).st,(R.k.finish x.num).evs⟩) \/
 (4<=pkN k 8/\∃(i:Nat) (p:List Bs) (x0 x1 x2 x3:Int) (an:List KW) (bU:Int),R.paths[i]?=some p/\qdj (R.works,R.qav) (R.k.qbb (qaa p) x0 x1 x2 x3).evs=some (an,bU)/\R'=⟨(R.k.qbb (qaa p) x0 x1 x2 x3).ks,R.paths,an,bU,(R.k.qbb (qaa p) x0 x1 x2 x3).evs⟩) \/
 (4<=pkN k 8/\∃(i:Nat) (p tk:List Bs) (an:List KW),R.paths[i]?=some p/\qbx tk=true/\(R.k.move (qaa p) (qaa tk)).err=0/\qdj (R.works,R.qav) (R.k.move (qaa p) (qaa tk)).evs=some (an,(R.k.move (qaa p) (qaa tk)).st)/\R'=⟨(R.k.move (qaa p) (qaa tk)).ks,R.paths.map (mvK p (tk++[qad p])),an,(R.k.move (qaa p) (qaa tk)).st,(R.k.move (qaa p) (qaa tk)).evs⟩) \/
 (R'=R/\(pkN k 8<4->R.works.length=24))
section
variable {F:Nat->Prop}{W w':World}{rb:Nat}{R:KR}{n:Nat}
theorem qla{x y:Nat}(hx:x<=1000)(hy:y<=1000):qao x y=true:=by
 unfold qao;simp only[decide_eq_true_eq]
 omega
theorem q0o(h:qau F W rb R)(I:RunI n R)(hn:n<=100){k b:Int}(hk:I64 k)(ha:I64 a)(hb:I64 b)(hc:I64 c):
  ∃R',qyi R k a b c R'/\RunI (n+1) R'/\Calls prog 17 #[.pointer (some ⟨rb,0,none⟩),.agg #[.int .i64 k,.int .i64 a,.int .i64 b,.int .i64 c]] W fun e w'=>e=.returned (.bool true)/\qau F w' rb R'/\Keep (fun b=>¬F b) W w':=by
 obtain⟨nodes,K⟩:=h.kinv;have BW:=qef k (n:=8) (by omega);have hw:=I.wlen;have lJ:R.works.length<=24:=by rw[hw];exact K.inv.wks.wks.len
 have eK:0<=R.k.cnt/\R.k.cnt<=1999999:=⟨K.cnt0,by have:=I.cnt;omega⟩;have cJ:0<=R.qav/\R.qav<=1000000:=by rw[I.qav];exact⟨K.inv.st0,by have:=I.st;omega⟩
 have h8:=I.len;have jR:∀i,i<8->∃p,R.paths[i]?=some p:=fun i hi=>⟨_,xr1 (by omega)⟩
 have cg:∀q∈R.paths,qbx q=true/\q≠[]/\(sb (qaa q)).size<=2000000:=fun q hq=>by
  obtain⟨i,hi,e⟩:=List.getElem_of_mem hq;have hp:R.paths[i]?=some q:=by rw[xr1 hi,e]
  obtain⟨h1,h2,_⟩:=I.path K hp
  exact⟨h1,h2,I.small K hp⟩
 by_cases c1:pkN k 8<4
 ·have yU:=qef a (n:=5) (by omega);obtain⟨p,hp⟩:=jR (pkN a 5) (by omega);have Bn:=qef b (n:=16) (by omega);have B6:=qef c (n:=16) (by omega);have hf:qao (pkN b 16) (pkN c 16)=true:=qla (by omega) (by omega)
  by_cases hl:R.works.length<24
  ·obtain⟨e1,an,e2,e3,e4,_⟩:=I.qbk K yU hp hf hl
   refine⟨_,Or.inl ⟨c1,hl,p,an,hp,e2,rfl⟩,e3,qms h hk ha hb hc c1 (fun G Wx hR=>?_)⟩
   exact qxs hR hp (I.small K hp) (by omega) _ _ e1 hl eK cJ rfl e4 e2
  ·have mi:R.works.length=24:=by omega
   refine⟨R,Or.inr (Or.inr (Or.inr (Or.inr ⟨rfl,fun _=>mi⟩))),I.mono (by omega),qms h hk ha hb hc c1 (fun G Wx hR=>?_)⟩
   exact qmt hR hp (I.small K hp) (by omega) _ _ (I.full K yU hp hf mi) mi eK.2
 ·by_cases c2:pkN k 8<6
  ·by_cases hz:R.works.length=0
   ·exact⟨R,Or.inr (Or.inr (Or.inr (Or.inr ⟨rfl,fun e=>absurd e c1⟩))),I.mono (by omega),qqz h hk ⟨by omega,c2⟩ hz⟩
   ·have ak:=qef a (n:=R.works.length) (by omega);obtain⟨x,hx⟩:∃x,R.works[pkN a R.works.length]?=some x:=⟨_,xr1 ak⟩;obtain⟨e1,an,e2,e3,e4,_⟩:=I.finish K hx
    refine⟨_,Or.inr (Or.inl ⟨by omega,_,x,an,hx,e2,rfl⟩),e3,qs7 h hk ha ⟨by omega,c2⟩ (by omega) lJ (fun G Wx hR=>?_)⟩
    exact qxr hR hx lJ cJ rfl e1 e4 e2
  ·have Bl:=qef a (n:=8) (by omega);obtain⟨p,hp⟩:=jR (pkN a 8) Bl
   by_cases c3:pkN k 8=6
   ·have Bp:=qef b (n:=30) (by omega);have B8:=qef c (n:=30) (by omega);have Bo:=qef b (n:=25) (by omega);have B7:=qef c (n:=25) (by omega);have hZ:qao (qA0 (pkN a 8) b c) (qA1 (pkN a 8) b c)=true:=by
     unfold qA0 qA1
     split
     ·rfl
     ·exact qla (by omega) (by omega)
    have iu:qao (pkN c 25) (pkN b 25)=true:=qla (by omega) (by omega);obtain⟨e1,an,bU,e2,e3,e4,_⟩:=I.qbb K hp hZ iu (fun h5=>⟨by unfold qA0;rw[if_pos h5],by unfold qA1;rw[if_pos h5]⟩)
    refine⟨_,Or.inr (Or.inr (Or.inl ⟨by omega,_,p,_,_,_,_,an,bU,hp,e2,rfl⟩)),e3,qs8 h hk ha c3 h8 (fun G Wx hR=>?_)⟩
    exact qzi hR hp (I.small K hp) (by omega) lJ cJ k a b c hb hc rfl e1 e4 e2
   ·have c4:pkN k 8=7:=by omega
    have gQ:∀tk,qbx tk=true->(sb (qaa tk)).size<=2000000->∃R',qyi R k a b c R'/\RunI (n+1) R'/\∀(G:Nat->Prop) (Wx:World),qau G Wx rb R->Calls prog 44 #[.pointer (some ⟨rb,0,none⟩),.int .i64 (pkN a 8),.string (sb (qaa tk))] Wx fun e w'=>e=.returned (.bool true)/\qau G w' rb R'/\Keep (fun b=>¬G b) Wx w':=fun tk db p_=>by
     rcases I.move K hp db with ⟨e1,e2,e3⟩|⟨e1,an,e2,e3,e4,_⟩
     ·exact⟨R,Or.inr (Or.inr (Or.inr (Or.inr ⟨rfl,fun e=>absurd e c1⟩))),I.mono (by omega),fun G Wx hR=>qvl hR hp (I.small K hp) (by omega) (sb (qaa tk)) p_ (by rw[qbs]) e1 e2 e3⟩
     ·exact⟨_,Or.inr (Or.inr (Or.inr (Or.inl ⟨by omega,_,p,tk,an,hp,db,e1,e2,rfl⟩))),e3,fun G Wx hR=>qvm hR hp cg (by omega) db p_ lJ cJ rfl e1 e4 e2⟩
    by_cases c5:pkN b 4<3
    ·have aM:=qef b (n:=3) (by omega);obtain⟨tk,db⟩:=jR (5+pkN b 3) (by omega);obtain⟨g1,g2,g3⟩:=cg tk (xr2 db);obtain⟨R',r1,r2,r3⟩:=gQ tk g1 g3
     exact⟨R',r1,r2,qqy h hk ha hb c4 c5 h8 db r3⟩
    ·obtain⟨R',r1,r2,r3⟩:=gQ [] rfl (by decide)
     exact⟨R',r1,r2,qqx h hk ha hb c4 (by omega) h8 r3⟩
end
abbrev kbx:ByteArray:=⟨#[120]⟩
abbrev kbxa:ByteArray:=⟨#[120,47,97]⟩
abbrev kbxb:ByteArray:=⟨#[120,47,98]⟩
abbrev kbc:ByteArray:=⟨#[99]⟩
def kb0:KS:=⟨[⟨[],false,0,0,0,0⟩],[],0,0⟩
def kb1:KS:=(kb0.make (bl kbx) false 0 0 5 5).ks
def kb2:KS:=(kb1.make (bl kbxa) true 10 10 0 0).ks
def kb3:KS:=(kb2.make (bl kbxb) true 10 10 20 20).ks
def kb4:KS:=(kb3.make (bl kbc) true 10 10 10 10).ks
def kb5:KS:=(kb4.qbk (bl kbxb) 15 5).ks
def kb6:KS:=(kb5.qbk (bl kbxb) 8 1).ks
def kb7:KS:=(kb6.qbk (bl kbxa) 10 0).ks
def KS.out(k:KS)(err:Int)(evs:List (Int×Int)):Out:=⟨err,k.L,k.Ws,k.cnt,k.st,evs⟩
theorem KS.qdy(k:KS)(err:Int)(evs:List (Int×Int)):(k.out err evs).ks=k:=rfl
theorem qyz:kb0.make (bl kbx) false 0 0 5 5=kb1.out 0 []:=by kernel_rfl
theorem qy0:kb1.make (bl kbxa) true 10 10 0 0=kb2.out 0 []:=by kernel_rfl
theorem qy1:kb2.make (bl kbxb) true 10 10 20 20=kb3.out 0 []:=by kernel_rfl
theorem qy3:kb3.make (bl kbc) true 10 10 10 10=kb4.out 0 []:=by kernel_rfl
theorem qy5:kb4.qbk (bl kbxb) 15 5=kb5.out 0 [(1,1)]:=by kernel_rfl
theorem qy7:kb5.qbk (bl kbxb) 8 1=kb6.out 0 [(1,2)]:=by kernel_rfl
theorem qy8:kb6.qbk (bl kbxa) 10 0=kb7.out 0 [(2,2),(1,3)]:=by kernel_rfl
theorem q0f:errS kb4.L kb4.Ws (bl kbxb) (qao 15 5)=0:=by decide +kernel
theorem q0g:errS kb5.L kb5.Ws (bl kbxb) (qao 8 1)=0:=by decide +kernel
theorem q0h:errS kb6.L kb6.Ws (bl kbxa) (qao 10 0)=0:=by decide +kernel
theorem qy2:kb4.cnt=0:=by decide +kernel
theorem qy4:kb5.cnt=1:=by decide +kernel
theorem qy6:kb6.cnt=2:=by decide +kernel
def kbq:Ent:=⟨[[120],[98]],true,10,10,20,20⟩
theorem q0j:qar (bl kbxb)=true:=by decide +kernel
theorem q0i:qeq kb7.L (qac (bl kbxb))=some kbq:=by kernel_rfl
theorem qvj(v:Value):kb7.told kbq v=#[.string kbxb,.bool true,.int .i64 10,.int .i64 10,.int .i64 20,.int .i64 20,.int .i64 15,.int .i64 5,v]:=by
 have h1:sb (qaa kbq.key)=kbxb:=by kernel_rfl
 have h2:es0 (qai kb7.L (qaa kbq.key))=10:=by decide +kernel
 have h3:es1 (qai kb7.L (qaa kbq.key))=10:=by decide +kernel
 have h4:ws0 (qae kb7.Ws (qaa kbq.key))=15:=by decide +kernel
 have h5:ws1 (qae kb7.Ws (qaa kbq.key))=5:=by decide +kernel
 unfold KS.told;rw[h1,h2,h3,h4,h5]
 rfl
theorem q0k:(kb7.waits kbq).length=1:=by decide +kernel
theorem qp5(w:World):Calls prog 39 #[] w fun e w'=>e=.returned (.bool true)/\Below w.heap.size w w':=by
 have Cm:=qu4;have Ck:=qu3
 go_enter func39,ntmps39
 go_upto_region 16 with (first
  |(go_at_call 38;refine(qzv w _ (by exact bel2)).mono ?_;rintro e w0 ⟨bt,rfl,k0⟩)
  |(go_at_call 27;refine(qps k0 kbx (by decide) 5 5 qyz).mono ?_;rintro e w1 ⟨g1,rfl,k1,r1,_⟩;rw[KS.qdy]at k1;have e1:(kb1.out 0 []).err=0:=rfl;rw[e1];clear e1 r1 k0)
  |(go_at_call 26;refine(qpt k1 kbxa (by decide) 10 10 0 0 qy0).mono ?_;rintro e w2 ⟨g2,rfl,k2,r2,_⟩;rw[KS.qdy]at k2;have e1:(kb2.out 0 []).err=0:=rfl;rw[e1];clear e1 r2 k1)
  |(go_at_call 26;refine(qpt k2 kbxb (by decide) 10 10 20 20 qy1).mono ?_;rintro e w3 ⟨g3,rfl,k3,r3,_⟩;rw[KS.qdy]at k3;have e1:(kb3.out 0 []).err=0:=rfl;rw[e1];clear e1 r3 k2)
  |(go_at_call 26;refine(qpt k3 kbc (by decide) 10 10 10 10 qy3).mono ?_;rintro e w4 ⟨g4,rfl,k4,r4,_⟩;rw[KS.qdy]at k4;have e1:(kb4.out 0 []).err=0:=rfl;rw[e1];clear e1 r4 k3)
  |(go_at_call 32;refine(qik k4 (by rw[qy2];decide) kbxb (by decide) 15 5 qy5 q0f).mono ?_;rw[qy2];rintro e w5 ⟨g5,rfl,k5,r5,_⟩;rw[KS.qdy]at k5;have e2:(kb5.out 0 [(1,1)]).evs.length=1:=rfl;rw[e2]at r5;clear e2;obtain⟨a5,c5,rfl,_,_⟩:=qa6 r5;clear k4 r5)
  |(go_at_call 32;refine(qik k5 (by rw[qy4];decide) kbxb (by decide) 8 1 qy7 q0g).mono ?_;rw[qy4];rintro e w6 ⟨g6,rfl,k6,r6,_⟩;rw[KS.qdy]at k6;have e2:(kb6.out 0 [(1,2)]).evs.length=1:=rfl;rw[e2]at r6;clear e2;obtain⟨a6,c6,rfl,_,_⟩:=qa6 r6;clear k5 r6)
  |(go_at_call 32;refine(qik k6 (by rw[qy6];decide) kbxa (by decide) 10 0 qy8 q0h).mono ?_;rw[qy6];rintro e w7 ⟨g7,rfl,k7,r7,_⟩;rw[KS.qdy]at k7;have e2:(kb7.out 0 [(2,2),(1,3)]).evs.length=2:=rfl;have e3:(kb7.out 0 [(2,2),(1,3)]).evs=[(2,2),(1,3)]:=rfl;rw[e2,e3]at r7;clear e2 e3;obtain⟨a7,c7,rfl,d7,f7⟩:=qa6 r7;clear k6)
  |(go_at_call 34;refine(qx7 k7 kbxb (by decide) q0j q0i).mono ?_;rintro e w8 ⟨g8,rfl,k8,r8,q8⟩;rw[qvj];rw[q0k]at r8;obtain⟨a8,c8,rfl,_,_⟩:=qa6 r8))
 have ej:=qo8 r7;obtain⟨g,hg,bK,p0,p1⟩:=ej 0 (2,2) rfl;obtain⟨g',cd,_,p2,p3⟩:=ej 1 (1,3) rfl;rw[hg]at cd;injection cd with cd;injection cd with cd;subst cd;subst hg;have q0:=(q8.cell (p:=⟨g,0*2,none⟩) bK).trans p0;have q1:=(q8.cell (p:=⟨g,0*2+1,none⟩) bK).trans p1;have q2:=(q8.cell (p:=⟨g,1*2,none⟩) bK).trans p2;have q3:=(q8.cell (p:=⟨g,1*2+1,none⟩) bK).trans p3;simp only[Nat.zero_mul,Nat.zero_add,Nat.one_mul,Nat.reduceAdd]at q0 q1 q2 q3;have tB:=k8.1;have tN:g<w8.heap.size:=by have:=q8.size;omega
 have hA:=fun o=>Below.alloc (Below.refl w8.heap.size w8) (Nat.le_refl _) o
 obtain⟨o9,ni⟩:∃o9,o9=Obj.cells #[Value.string kbxb,.bool true,.int .i64 10,.int .i64 10,.int .i64 20,.int .i64 20,.int .i64 15,.int .i64 5,.slice a8 1 c8] 37:=⟨_,rfl⟩;have t0:=((hA o9).cell (p:=⟨g,0,none⟩) tN).trans q0;have t1:=((hA o9).cell (p:=⟨g,1,none⟩) tN).trans q1;have t2:=((hA o9).cell (p:=⟨g,2,none⟩) tN).trans q2;have t3:=((hA o9).cell (p:=⟨g,3,none⟩) tN).trans q3;have ed:Blk (w8.alloc o9) w8.heap.size 37 #[Value.string kbxb,.bool true,.int .i64 10,.int .i64 10,.int .i64 20,.int .i64 20,.int .i64 15,.int .i64 5,.slice a8 1 c8]:=by rw[ni];exact Blk.new w8 37 _
 have kC:Below w.heap.size w (w8.alloc o9):=qab tB (hA o9);rw[<-ni];generalize w8.alloc o9=W9 at t0 t1 t2 t3 ed kC ⊢;have z6:=ed.cell 6;have z7:=ed.cell 7;have z8:=ed.cell 8;simp only[xq0,xq1,xq2]at z6 z7 z8;clear ej p0 p1 p2 p3 r7 r8 k7 k8 ed hA ni q0 q1 q2 q3
 go_wp2_with fail
 go_ret
 exact⟨rfl,kC⟩
abbrev kbxc:ByteArray:=⟨#[120,47,99]⟩
def kc1:KS:=(kb0.make (bl kbx) false 0 0 0 0).ks
def kc2:KS:=(kc1.make (bl kbc) true 3 3 0 0).ks
def kc3:KS:=(kc2.qbk (bl kbc) 3 0).ks
def kc4:KS:=(kc3.move (bl kbc) (bl kbx)).ks
def kc5:KS:=(kc4.qbb (bl kbxc) 3 0 0 0).ks
def kc6:KS:=(kc5.finish 1).ks
def kc7:KS:=(kc6.remove (bl kbxc)).ks
theorem qy9:kb0.make (bl kbx) false 0 0 0 0=kc1.out 0 []:=by kernel_rfl
theorem qzb:kc1.make (bl kbc) true 3 3 0 0=kc2.out 0 []:=by kernel_rfl
theorem qzc:kc2.qbk (bl kbc) 3 0=kc3.out 0 [(1,1)]:=by kernel_rfl
theorem q0l:errS kc2.L kc2.Ws (bl kbc) (qao 3 0)=0:=by decide +kernel
theorem qza:kc2.cnt=0:=by decide +kernel
theorem q0m:kc3.qbb (bl kbc) 2 9 0 0=kc3.out 11 []:=by kernel_rfl
theorem qzd:kc3.move (bl kbc) (bl kbx)=kc4.out 0 []:=by kernel_rfl
theorem qze:kc4.qbb (bl kbxc) 3 0 0 0=kc5.out 0 []:=by kernel_rfl
theorem qzf:kc5.finish 1=kc6.out 0 []:=by kernel_rfl
theorem qzg:kc6.remove (bl kbxc)=kc7.out 0 []:=by kernel_rfl
theorem ql8(w:World):Calls prog 15 #[] w fun e w'=>e=.returned (.bool true)/\Below w.heap.size w w':=by
 go_enter func15,ntmps15
 go_wp2_with (first
  |(go_at_call 38;refine(qzv w _ (by exact bel2)).mono ?_;rintro e w0 ⟨bt,rfl,j0⟩)
  |(go_at_call 39;refine(qp5 _).mono ?_;rintro e wb ⟨rfl,hb⟩;have k0:=j0.below hb;clear j0)
  |(go_at_call 27;refine(qps k0 kbx (by decide) 0 0 qy9).mono ?_;rintro e w1 ⟨g1,rfl,k1,r1,_⟩;rw[KS.qdy]at k1;have e1:(kc1.out 0 []).err=0:=rfl;rw[e1];clear e1 r1 k0)
  |(go_at_call 26;refine(qpt k1 kbc (by decide) 3 3 0 0 qzb).mono ?_;rintro e w2 ⟨g2,rfl,k2,r2,_⟩;rw[KS.qdy]at k2;have e1:(kc2.out 0 []).err=0:=rfl;rw[e1];clear e1 r2 k1)
  |(go_at_call 32;refine(qik k2 (by rw[qza];decide) kbc (by decide) 3 0 qzc q0l).mono ?_;rw[qza];rintro e w3 ⟨g3,rfl,k3,r3,_⟩;rw[KS.qdy]at k3;clear k2 r3)
  |(go_at_call 29;refine(qui k3 kbc (by decide) 2 9 0 0 q0m).mono ?_;rintro e w4 ⟨g4,rfl,k4,r4,_⟩;rw[KS.qdy]at k4;have e1:(kc3.out 11 []).err=11:=rfl;rw[e1];clear e1 r4 k3)
  |(go_at_call 30;refine(qzu k4 kbc kbx (by decide) (by decide) qzd).mono ?_;rintro e w5 ⟨g5,rfl,k5,r5,_⟩;rw[KS.qdy]at k5;have e1:(kc4.out 0 []).err=0:=rfl;rw[e1];clear e1 r5 k4)
  |(go_at_call 29;refine(qui k5 kbxc (by decide) 3 0 0 0 qze).mono ?_;rintro e w6 ⟨g6,rfl,k6,r6,_⟩;rw[KS.qdy]at k6;have e1:(kc5.out 0 []).err=0:=rfl;rw[e1];clear e1 k5;obtain⟨a6,c6,rfl,_,_⟩:=qa6 r6;have e2:(kc5.out 0 []).evs.length=0:=rfl;rw[e2])
  |(go_at_call 28;refine(qwh k6 1 qzf).mono ?_;rintro e w7 ⟨g7,rfl,k7,r7,_⟩;rw[KS.qdy]at k7;have e1:(kc6.out 0 []).err=0:=rfl;rw[e1];clear e1 r7 k6)
  |(go_at_call 31;refine(qwi k7 kbxc (by decide) qzg).mono ?_;rintro e w8 ⟨g8,rfl,k8,r8,_⟩;rw[KS.qdy]at k8;have e1:(kc7.out 0 []).err=0:=rfl;rw[e1];clear e1 r8 k7))
 go_ret
 exact⟨rfl,k8.1⟩
def qb9:List (List Bs):=[[[97]],[[120],[98]],[[120],[99]],[[120],[122],[100]],[[121],[101]],[[120]],[[121]],[[120],[122]]]
def frL (len:Nat)(q:Nat->Int):List Ent :=
 [⟨[],false,0,0,0,0⟩,⟨[[120]],false,0,0,raw0 len q 0,raw1 len q 0⟩,⟨[[121]],false,0,0,raw0 len q 1,raw1 len q 1⟩,⟨[[120],[122]],false,0,0,raw0 len q 2,raw1 len q 2⟩,
  ⟨[[97]],true,raw0 len q 3,raw1 len q 3,raw0 len q 8,raw1 len q 8⟩,⟨[[120],[98]],true,raw0 len q 4,raw1 len q 4,raw0 len q 9,raw1 len q 9⟩,⟨[[120],[99]],true,raw0 len q 5,raw1 len q 5,raw0 len q 10,raw1 len q 10⟩,
  ⟨[[120],[122],[100]],true,raw0 len q 6,raw1 len q 6,raw0 len q 11,raw1 len q 11⟩,⟨[[121],[101]],true,raw0 len q 7,raw1 len q 7,raw0 len q 12,raw1 len q 12⟩]
def frK (len:Nat)(q:Nat->Int)(i:Nat):KS:=⟨(frL len q).take (i+1),[],0,0⟩
def frR (len:Nat)(q:Nat->Int)(i:Nat):KR:=⟨frK len q i,qb9,[],0,[]⟩
theorem qfk{s:Bs}{b:Int}(hE:errE L s true=0)(h1:qao a b=true)(h2:qao c d=true):KS.make ⟨L,[],cnt,st⟩ s leaf a b c d=⟨0,L++[⟨qac s,leaf,a,b,c,d⟩],[],cnt,st,[]⟩:=by
 unfold KS.make;rw[h1,h2];simp only[Bool.and_self,hE];rw[if_neg (by simp)]
 rfl
theorem qck(len:Nat)(q:Nat->Int)(i:Nat):qao (raw0 len q i) (raw1 len q i)=true:=by
 have:=qzp len q i
 unfold qao;simp only[decide_eq_true_eq]
 omega
theorem qss(len:Nat)(q:Nat->Int):∀i,i<3->∃p,qb9[5+i]?=some p/\(frK len q i).make (qaa p) false 0 0 (raw0 len q i) (raw1 len q i)=(frK len q (i+1)).out 0 []
 |0,_=>⟨_,rfl,(qfk (by kernel_rfl) rfl (qck _ _ _)).trans (by kernel_rfl)⟩
 |1,_=>⟨_,rfl,(qfk (by kernel_rfl) rfl (qck _ _ _)).trans (by kernel_rfl)⟩
 |2,_=>⟨_,rfl,(qfk (by kernel_rfl) rfl (qck _ _ _)).trans (by kernel_rfl)⟩
 |n+3,h=>absurd h (by omega)
theorem qxi(len:Nat)(q:Nat->Int):∀i,i<5->∃p,qb9[i]?=some p/\(frK len q (3+i)).make (qaa p) true (raw0 len q (3+i)) (raw1 len q (3+i)) (raw0 len q (8+i)) (raw1 len q (8+i))=(frK len q (3+(i+1))).out 0 []
 |0,_=>⟨_,rfl,(qfk (by kernel_rfl) (qck _ _ _) (qck _ _ _)).trans (by kernel_rfl)⟩
 |1,_=>⟨_,rfl,(qfk (by kernel_rfl) (qck _ _ _) (qck _ _ _)).trans (by kernel_rfl)⟩
 |2,_=>⟨_,rfl,(qfk (by kernel_rfl) (qck _ _ _) (qck _ _ _)).trans (by kernel_rfl)⟩
 |3,_=>⟨_,rfl,(qfk (by kernel_rfl) (qck _ _ _) (qck _ _ _)).trans (by kernel_rfl)⟩
 |4,_=>⟨_,rfl,(qfk (by kernel_rfl) (qck _ _ _) (qck _ _ _)).trans (by kernel_rfl)⟩
 |n+5,h=>absurd h (by omega)
theorem qst(len:Nat)(q:Nat->Int):∀i p,qb9[i]?=some p->∃e∈frL len q,e.key=p/\e.leaf=decide (i<5)
 |0,p,h=>⟨_,xr2 (i:=4) rfl,by simpa [qb9] using h,rfl⟩
 |1,p,h=>⟨_,xr2 (i:=5) rfl,by simpa [qb9] using h,rfl⟩
 |2,p,h=>⟨_,xr2 (i:=6) rfl,by simpa [qb9] using h,rfl⟩
 |3,p,h=>⟨_,xr2 (i:=7) rfl,by simpa [qb9] using h,rfl⟩
 |4,p,h=>⟨_,xr2 (i:=8) rfl,by simpa [qb9] using h,rfl⟩
 |5,p,h=>⟨_,xr2 (i:=1) rfl,by simpa [qb9] using h,rfl⟩
 |6,p,h=>⟨_,xr2 (i:=2) rfl,by simpa [qb9] using h,rfl⟩
 |7,p,h=>⟨_,xr2 (i:=3) rfl,by simpa [qb9] using h,rfl⟩
 |n+8,p,h=>by simp[qb9]at h
theorem qyt{len:Nat}{q:Nat->Int}(K:KInv nodes (frK len q 8)):RunI 0 (frR len q 8):=by
 have lg:((frL len q).map (·.key))=[[],[[120]],[[121]],[[120],[122]],[[97]],[[120],[98]],[[120],[99]],[[120],[122],[100]],[[121],[101]]]:=rfl;have hL:(frK len q 8).L=frL len q:=rfl
 refine⟨rfl,?_,?_,List.Perm.refl _,fun w hw=>(by cases hw),fun w hw=>(by cases hw),rfl,fun e he=>?_,fun y hy=>(by cases hy),fun y hy=>(by cases hy),by simp[frR,frK],by simp[frR,frK]⟩
 ·show((frK len q 8).L.map (·.key)).Perm ([]::qb9)
  rw[hL,lg]
  decide
 ·intro i p hp
  exact qst len q i p hp
 ·have jF:e∈nodes.map Node.ent:=by rw[K.L];exact he
  obtain⟨m,hm,rfl⟩:=xrq.1 jF;have h1:=K.tree.num m hm;have h2:=qiu K.tree.ents (qaa m.key);rw[K.L]at h2;have e1:ws0 (qae ([]:List Wk) (qaa m.ent.key))=0:=rfl;have e2:ws1 (qae ([]:List Wk) (qaa m.ent.key))=0:=rfl
  show ws0 (qae ([]:List Wk) (qaa m.ent.key))<=es0 (qai (frK len q 8).L (qaa m.ent.key))+m.ent.b0/\ws1 (qae ([]:List Wk) (qaa m.ent.key))<=es1 (qai (frK len q 8).L (qaa m.ent.key))+m.ent.b1
  rw[e1,e2];have e3:m.ent.key=m.key:=rfl;have e4:m.ent.b0=m.b0:=rfl;have e5:m.ent.b1=m.b1:=rfl;rw[e3,e4,e5]
  omega
theorem qpa{p:List Bs}(hp:p∈qb9):(sb (qaa p)).size<=2000000:=by
 have h:∀p∈qb9,(qaa p).length<=100:=by decide
 rw[qco]
 have:=h p hp
 omega
theorem qsu{F:Nat->Prop}{rb:Nat}{len:Nat}{q:Nat->Int}{P:Nat->Prop}{p:List Bs}(h:RunM F wr rb (frR len q i) P bt (.slice (some ⟨gp,0,none⟩) 8 cp) (.slice none 0 0) (.slice none 0 0))(hb:Below wr.heap.size wr Wx)(hO:KOut P Wx bt ((frK len q (i+1)).out 0 []) ev w2)(hp:qb9[j]?=some p):
  Blk w2 rb 50 #[.pointer (some ⟨bt,0,none⟩),.slice (some ⟨gp,0,none⟩) 8 cp,.slice none 0 0,.int .i64 0,.slice none 0 0]/\w2.cell? ⟨gp,j,none⟩=some (.string (sb (qaa p)))/\Hid (∃P',RunM F w2 rb (frR len q (i+1)) P' bt (.slice (some ⟨gp,0,none⟩) 8 cp) (.slice none 0 0) (.slice none 0 0))/\Keep (fun b=>¬F b) wr w2:=by
 obtain⟨P1,g1,g2,g3,g4⟩:=(h.below hb).called hO;obtain⟨g',_,e1,_,_,_,_,q1⟩:=g1.path (i:=j) (p:=p) hp;injection e1 with e2;injection e2 with e2;injection e2 with e2;subst e2
 exact⟨g1.at_,q1,⟨P1,g1⟩,(Keep.new hb).trans g4⟩
theorem qqs{len:Nat}{q:Nat->Int}(hq:QIn w aq len q)(hl:len<=cap)(hm:cap<=maxLen):
  Calls prog 16 #[.slice aq len cap] w fun e w'=>∃rb,e=.returned (.pointer (some ⟨rb,0,none⟩))/\qau (fun b=>b<w.heap.size) w' rb (frR len q 8)/\Below w.heap.size w w':=by
 have pf:Hid (∀(Wx:World),Below w.heap.size w Wx->∀(r:Value) (i:Nat),i<=100->Calls prog 40 #[r,.slice aq len cap,.int .i64 i] Wx fun e w'=>e=.returned (.agg #[.int .i64 (raw0 len q i),.int .i64 (raw1 len q i)])/\Below Wx.heap.size Wx w'):=fun Wx hb r i hi=>kraw (hq.below (n:=0) hb) hl hm r i hi
 clear hq
 go_enter func16,ntmps16
 go_upto_region 6 with (go_at_call 38;refine(qyy w).mono ?_;rintro e w1 ⟨bt,P,rfl,hT,hP,aa⟩)
 obtain⟨cs,cv⟩:∃cs:Array Value,cs=#[.string ⟨#[97]⟩,.string ⟨#[120,47,98]⟩,.string ⟨#[120,47,99]⟩,.string ⟨#[120,47,122,47,100]⟩,.string ⟨#[121,47,101]⟩,.string ⟨#[120]⟩,.string ⟨#[121]⟩,.string ⟨#[120,47,122]⟩]:=⟨_,rfl⟩;obtain⟨rs,mu⟩:∃rs:Array Value,rs=#[.pointer (some ⟨bt,0,none⟩),.slice (some ⟨w1.heap.size,0,none⟩) 8 8,.slice none 0 0,.int .i64 0,.slice none 0 0]:=⟨_,rfl⟩;have uT:Below w1.heap.size w1 (w1.alloc (.cells cs 9)):=Below.alloc (Below.refl _ _) (Nat.le_refl _) _;have lY:Below w1.heap.size w1 ((w1.alloc (.cells cs 9)).alloc (.cells rs 50)):=Below.alloc uT uT.size _;have dz:=aa.size;have qG:RunM (fun b=>b<w.heap.size) ((w1.alloc (.cells cs 9)).alloc (.cells rs 50)) (w1.heap.size+1) (frR len q 0) P bt (.slice (some ⟨w1.heap.size,0,none⟩) 8 8) (.slice none 0 0) (.slice none 0 0):=by
  have Bb:=hT.lt
  refine⟨hT.below lY,?_,?_,xrk _ _ _ _,xrk _ _ _ _,?_,?_,?_,?_,?_,?_⟩
  ·have:=Blk.new (w1.alloc (.cells cs 9)) 50 rs
   rw[mu]at this ⊢;have e:(w1.alloc (.cells cs 9)).heap.size=w1.heap.size+1:=by simp
   rw[e]at this
   exact this
  ·have h1:=World.ownsRow_lit (base:=0) (e:=9) (size:=1) w1 cs 8 (Nat.zero_le _) (by unfold maxLen;omega) (by rw[cv];rfl);have e:cs.toList=qfl qb9:=by rw[cv];kernel_rfl
   rw[e]at h1
   exact h1.alloc _
  ·intro b hb e
   have:=Bb b e
   rcases hb with hb|hb|hb|hb
   ·omega
   ·simp[Value.ownBlock]at hb;omega
   ·cases hb
   ·cases hb
  ·intro b hb e
   rcases hb with hb|hb|hb|hb|hb
   ·have:=hP b hb;omega
   ·omega
   ·simp[Value.ownBlock]at hb;omega
   ·cases hb
   ·cases hb
  ·intro b hb
   simp
   omega
  ·refine⟨fun e=>?_,fun e=>(by cases e),fun e=>(by cases e)⟩
   simp[Value.ownBlock]at e
  ·exact fun b hb=>⟨fun e=>(by cases e),fun e=>(by cases e)⟩
  ·exact fun b hb=>(by cases hb)
 have bj:Below w.heap.size w ((w1.alloc (.cells cs 9)).alloc (.cells rs 50)):=qab aa lY;rw[cv,mu]at qG bj;generalize (w1.alloc (.cells #[.string ⟨#[97]⟩,.string ⟨#[120,47,98]⟩,.string ⟨#[120,47,99]⟩,.string ⟨#[120,47,122,47,100]⟩,.string ⟨#[121,47,101]⟩,.string ⟨#[120]⟩,.string ⟨#[121]⟩,.string ⟨#[120,47,122]⟩] 9)).alloc (.cells #[.pointer (some ⟨bt,0,none⟩),.slice (some ⟨w1.heap.size,0,none⟩) 8 8,.slice none 0 0,.int .i64 0,.slice none 0 0] 50)=W0 at qG bj ⊢;generalize w1.heap.size+1=rb at qG ⊢;generalize w1.heap.size=gp at qG ⊢;clear uT lY cv mu dz hT hP aa cs rs
 go_wp2_with fail
 go_loopw [5,6] (fun ok i wr=>ok=.bool true/\∃k:Nat,k<=3/\i=.int .i64 k/\Hid (∃P,RunM (fun b=>b<w.heap.size) wr rb (frR len q k) P bt (.slice (some ⟨gp,0,none⟩) 8 8) (.slice none 0 0) (.slice none 0 0))/\Below w.heap.size w wr) (fun _ i _=>3-(intOf i).toNat)
 case atStart=>exact⟨rfl,0,Nat.zero_le _,rfl,⟨P,qG⟩,bj⟩
 case round =>
  obtain⟨rfl,k,hk,rfl,hR,hB⟩:=hrel
  by_cases ak:k<3
  ·obtain⟨P1,hM⟩:=hR.out;obtain⟨p,hp,df⟩:=qss len q k ak;obtain⟨g',c',e1,bK,eL,_,_,q0⟩:=hM.path hp;have cd:g'=gp:=by
    injection e1 with e2;injection e2 with e2;injection e2 with e2
    exact e2.symm
   clear e1;rw[cd]at bK eL q0;clear cd;have c1:=hM.at_.cell 1;simp only[xq0,xq1,xq2]at c1;have dg:=qpa (xr2 hp);have nL:∀Wx,Below wr.heap.size wr Wx->Calls prog 27 #[.pointer (some ⟨bt,0,none⟩),.string (sb (qaa p)),.agg #[.int .i64 (raw0 len q k),.int .i64 (raw1 len q k)]] Wx fun e w2=>∃ev,e=.returned (.tuple #[ev,.int .i64 0])/\Blk w2 rb 50 #[.pointer (some ⟨bt,0,none⟩),.slice (some ⟨gp,0,none⟩) 8 8,.slice none 0 0,.int .i64 0,.slice none 0 0]/\w2.cell? ⟨gp,5+k,none⟩=some (.string (sb (qaa p)))/\Hid (∃P',RunM (fun b=>b<w.heap.size) w2 rb (frR len q (k+1)) P' bt (.slice (some ⟨gp,0,none⟩) 8 8) (.slice none 0 0) (.slice none 0 0))/\Below w.heap.size w w2:=fun Wx hb=>by
    refine(qpf (hM.below hb).tw (sb (qaa p)) dg _ _).mono ?_
    have e:(frR len q k).k=frK len q k:=rfl;rw[qbs,e,df]
    rintro e w2 ⟨ev,rfl,hO⟩
    obtain⟨t1,t2,t3,t4⟩:=qsu hM hb hO hp
    exact⟨ev,rfl,t1,t2,t3,hB.trans (t4.toBelow hB.size (fun b hb e=>e hb))⟩
   have Cu:=fun Wx hb=>pf.out Wx hb (.pointer (some ⟨rb,0,none⟩)) k (by omega)
   have ja:(k:Int)<3:=by omega
   have eM:(0:Int)<=k:=by omega
   have z1:(0:Int)<=5+(k:Int):=by omega
   have z2:5+(k:Int)<8:=by omega
   have z3:IntKind.i64.wrap (5+(k:Int))=5+(k:Int):=by rw[IntKind.wrap_i64];omega
   have z4:(5+(k:Int)).toNat=5+k:=by omega
   have jV:=hM.at_.lt;clear hM hR hp df
   go_upto_region 9 with fail
   go_cut [8] from 23 to 39 (fun e wx=>e=.int .i64 0/\Hid (∃P',RunM (fun b=>b<w.heap.size) wx rb (frR len q (k+1)) P' bt (.slice (some ⟨gp,0,none⟩) 8 8) (.slice none 0 0) (.slice none 0 0))/\Below w.heap.size w wx)
   case first =>
    go_region_held3 (fun w'=>w'.cell? ⟨rb,1,none⟩=some (.slice (some ⟨gp,0,none⟩) 8 8)/\w'.cell? ⟨gp,5+k,none⟩=some (.string (sb (qaa p)))) (go_keep)
     (first
      |(go_at_call 40;refine(Cu _ ?_).mono ?_;(focus exact bel2);rintro e w3 ⟨rfl,aM⟩;have bH:Below wr.heap.size wr w3:=qab (by exact bel2) aM;have d1:=(bH.cell (p:=⟨rb,1,none⟩) jV).trans c1;have d2:=(bH.cell (p:=⟨gp,5+k,none⟩) bK).trans q0)
      |(go_at_call 27;refine(nL _ ?_).mono ?_;(focus exact bel2);rintro e w4 ⟨ev,rfl,bf,tU,mJ,dL⟩;have d3:=bf.cell 1;simp only[xq0,xq1,xq2]at d3))
    all_goals go_wp2_with fail
    all_goals go_meet
    all_goals exact⟨rfl,mJ,dL⟩
   case rest =>
    obtain⟨rfl,mJ,dL⟩:=hcut
    go_wp2_with fail
    exact⟨⟨rfl,k+1,by omega,by go_num,mJ,dL⟩,by simp[intOf];omega⟩
  ·have bW:k=3:=by omega
   subst bW
   go_wp2_with fail
   obtain⟨ti,lN⟩:∃ti,ti=wr:=⟨_,rfl⟩;rw[<-lN]at hR hB ⊢;clear lN
   go_loopw [5,9] (fun ok i wr=>ok=.bool true/\∃k:Nat,k<=5/\i=.int .i64 k/\Hid (∃P,RunM (fun b=>b<w.heap.size) wr rb (frR len q (3+k)) P bt (.slice (some ⟨gp,0,none⟩) 8 8) (.slice none 0 0) (.slice none 0 0))/\Below w.heap.size w wr) (fun _ i _=>5-(intOf i).toNat)
   case atStart=>exact⟨rfl,0,Nat.zero_le _,rfl,hR,hB⟩
   case round =>
    obtain⟨rfl,k,hk,rfl,hR,hB⟩:=hrel
    by_cases ak:k<5
    ·obtain⟨P1,hM⟩:=hR.out;obtain⟨p,hp,df⟩:=qxi len q k ak;obtain⟨g',c',e1,bK,eL,_,_,q0⟩:=hM.path hp;have cd:g'=gp:=by
      injection e1 with e2;injection e2 with e2;injection e2 with e2
      exact e2.symm
     clear e1;rw[cd]at bK eL q0;clear cd;have c1:=hM.at_.cell 1;simp only[xq0,xq1,xq2]at c1;have dg:=qpa (xr2 hp);have nL:∀Wx,Below wr.heap.size wr Wx->Calls prog 26 #[.pointer (some ⟨bt,0,none⟩),.string (sb (qaa p)),.agg #[.int .i64 (raw0 len q (3+k)),.int .i64 (raw1 len q (3+k))],.agg #[.int .i64 (raw0 len q (8+k)),.int .i64 (raw1 len q (8+k))]] Wx fun e w2=>∃ev,e=.returned (.tuple #[ev,.int .i64 0])/\Blk w2 rb 50 #[.pointer (some ⟨bt,0,none⟩),.slice (some ⟨gp,0,none⟩) 8 8,.slice none 0 0,.int .i64 0,.slice none 0 0]/\w2.cell? ⟨gp,k,none⟩=some (.string (sb (qaa p)))/\Hid (∃P',RunM (fun b=>b<w.heap.size) w2 rb (frR len q (3+(k+1))) P' bt (.slice (some ⟨gp,0,none⟩) 8 8) (.slice none 0 0) (.slice none 0 0))/\Below w.heap.size w w2:=fun Wx hb=>by
      refine(qwx (hM.below hb).tw (sb (qaa p)) dg _ _ _ _).mono ?_
      have e:(frR len q (3+k)).k=frK len q (3+k):=rfl;rw[qbs,e,df]
      rintro e w2 ⟨ev,rfl,hO⟩
      obtain⟨t1,t2,t3,t4⟩:=qsu hM hb hO hp
      exact⟨ev,rfl,t1,t2,t3,hB.trans (t4.toBelow hB.size (fun b hb e=>e hb))⟩
     have rX:=fun Wx hb=>pf.out Wx hb (.pointer (some ⟨rb,0,none⟩)) (3+k) (by omega)
     have rY:=fun Wx hb=>pf.out Wx hb (.pointer (some ⟨rb,0,none⟩)) (8+k) (by omega)
     rw[show((3+k:Nat):Int)=3+(k:Int) by omega]at rX;rw[show((8+k:Nat):Int)=8+(k:Int) by omega]at rY;have ja:(k:Int)<5:=by omega
     have BW:(k:Int)<8:=by omega
     have eM:(0:Int)<=k:=by omega
     have z3:IntKind.i64.wrap (3+(k:Int))=3+(k:Int):=by rw[IntKind.wrap_i64];omega
     have z4:IntKind.i64.wrap (8+(k:Int))=8+(k:Int):=by rw[IntKind.wrap_i64];omega
     have jV:=hM.at_.lt;have lT:Hid (∀Wx,Below wr.heap.size wr Wx->Wx.cell? ⟨rb,1,none⟩=some (.slice (some ⟨gp,0,none⟩) 8 8)/\Wx.cell? ⟨gp,k,none⟩=some (.string (sb (qaa p)))):=fun Wx hb=>⟨(hb.cell (p:=⟨rb,1,none⟩) jV).trans c1,(hb.cell (p:=⟨gp,k,none⟩) bK).trans q0⟩
     clear hM hR hp df
     go_upto_region 14 with fail
     go_cut [11] from 49 to 70 (fun e wx=>e=.int .i64 0/\Hid (∃P',RunM (fun b=>b<w.heap.size) wx rb (frR len q (3+(k+1))) P' bt (.slice (some ⟨gp,0,none⟩) 8 8) (.slice none 0 0) (.slice none 0 0))/\Below w.heap.size w wx)
     case first =>
      go_region_held3 (fun w'=>w'.cell? ⟨rb,1,none⟩=some (.slice (some ⟨gp,0,none⟩) 8 8)/\w'.cell? ⟨gp,k,none⟩=some (.string (sb (qaa p)))) (go_keep)
       (first
        |(go_at_call 40;(with_reducible refine(rX _ ?_).mono ?_);(focus exact bel2);rintro e w3 ⟨rfl,aM⟩;have bH:Below wr.heap.size wr w3:=qab (by exact bel2) aM;obtain⟨d1,d2⟩:=lT.out _ bH)
        |(go_at_call 40;(with_reducible refine(rY _ ?_).mono ?_);(focus exact bel2);rintro e w5 ⟨rfl,bE⟩;have dE:Below wr.heap.size wr w5:=qab (by exact bel2) bE;obtain⟨d5,d6⟩:=lT.out _ dE)
        |(go_at_call 26;refine(nL _ ?_).mono ?_;(focus exact bel2);rintro e w4 ⟨ev,rfl,bf,tU,mJ,dL⟩;have d3:=bf.cell 1;simp only[xq0,xq1,xq2]at d3))
      all_goals go_wp2_with fail
      all_goals go_meet
      all_goals exact⟨rfl,mJ,dL⟩
     case rest =>
      obtain⟨rfl,mJ,dL⟩:=hcut
      go_wp2_with fail
      exact⟨⟨rfl,k+1,by omega,by go_num,mJ,dL⟩,by simp[intOf];omega⟩
    ·have gN:k=5:=by omega
     subst gN
     go_wp2_with fail
     go_ret
     obtain⟨P9,AX⟩:=hR.out
     exact⟨rb,rfl,⟨_,_,_,_,_,AX⟩,hB⟩
section
variable {F:Nat->Prop}{W w':World}{rb:Nat}{R:KR}
def qpz (R:KR)(x:Ent)(W:World)(e:Ending)(w':World):Prop:=∃v,e=.returned (.tuple #[.agg (R.k.told x v),.bool true])/\w'.ownsRow 0 3 1 v (R.k.waits x).length (qjb (R.k.waits x))/\Below W.heap.size W w'/\∀b,v.ownBlock=some b->W.heap.size<=b
theorem qzh(h:qau F W rb R){p:List Bs}(hp:R.paths[i]?=some p)(dS:qbx p=true)(dg:(sb (qaa p)).size<=2000000)(dU:R.paths.length<=100){x:Ent}(hx:qeq R.k.L p=some x)(nA:x.key=p):
  Calls prog 19 #[.pointer (some ⟨rb,0,none⟩),.int .i64 i] W (qpz R x W):=by
 obtain⟨P,bt,vp,vw,vl,h⟩:=h;obtain⟨gp,cp,cu,bK,eL,b_,cO,q0⟩:=h.path hp;have mZ:=(xr0.1 hp).1;have bQ:=qbi dS;have aJ:∀Wx,Below W.heap.size W Wx->Calls prog 34 #[.pointer (some ⟨bt,0,none⟩),.string (sb (qaa p))] Wx fun e w1=>∃a1 c1,e=.returned (.tuple #[.agg #[.string (sb (qaa p)),.bool x.leaf,.int .i64 (es0 (qai R.k.L (qaa x.key))),.int .i64 (es1 (qai R.k.L (qaa x.key))),.int .i64 x.b0,.int .i64 x.b1,.int .i64 (ws0 (qae R.k.Ws (qaa x.key))),.int .i64 (ws1 (qae R.k.Ws (qaa x.key))),.slice a1 (R.k.waits x).length c1],.int .i64 0])/\Below Wx.heap.size Wx w1/\Hid (w1.ownsRow 0 3 1 (.slice a1 (R.k.waits x).length c1) (R.k.waits x).length (qjb (R.k.waits x))/\∀b,(Value.slice a1 (R.k.waits x).length c1).ownBlock=some b->Wx.heap.size<=b):=fun Wx hb=>by
  have n9:qeq R.k.L (qac (bl (sb (qaa p))))=some x:=by rw[qbs,bQ];exact hx
  refine(qn5 (h.below hb).tw (sb (qaa p)) dg (by rw[qbs,qcd,bQ];exact dS) n9).mono ?_
  rintro e w1 ⟨v,rfl,g1,g2,g3⟩
  obtain⟨a1,c1,rfl,_,_⟩:=qa7 g1
  refine⟨a1,c1,?_,g2,g1,g3⟩
  unfold KS.told;rw[nA]
 have HQ:Hid (∀(e:Ending) (w':World) (a1:Option Addr) (c1:Nat),e=.returned (.tuple #[.agg #[.string (sb (qaa p)),.bool x.leaf,.int .i64 (es0 (qai R.k.L (qaa x.key))),.int .i64 (es1 (qai R.k.L (qaa x.key))),.int .i64 x.b0,.int .i64 x.b1,.int .i64 (ws0 (qae R.k.Ws (qaa x.key))),.int .i64 (ws1 (qae R.k.Ws (qaa x.key))),.slice a1 (R.k.waits x).length c1],.bool true])->w'.ownsRow 0 3 1 (.slice a1 (R.k.waits x).length c1) (R.k.waits x).length (qjb (R.k.waits x))->Below W.heap.size W w'->(∀b,(Value.slice a1 (R.k.waits x).length c1).ownBlock=some b->W.heap.size<=b)->qpz R x W e w'):=fun e w' a1 c1 he h1 h2 h3=>⟨_,by rw[he];unfold KS.told;rw[nA],h1,h2,h3⟩
 have c0:=h.at_.cell 0;have c1:=h.at_.cell 1;simp only[xq0,xq1,xq2]at c0 c1;rw[cu]at c1;have jV:=h.at_.lt;have sV:=World.new_ne W _ c0;have sY:=World.new_ne W _ c1;have s_:=World.new_ne W _ q0;have fF:(i:Int)<R.paths.length:=by omega
 have jJ:(0:Int)<=i:=by omega
 have b0:Blk (W.alloc (.cells #[.string ⟨#[]⟩,.bool false,.int .i64 0,.int .i64 0,.int .i64 0,.int .i64 0,.int .i64 0,.int .i64 0,.slice none 0 0] 37)) W.heap.size 37 #[.string ⟨#[]⟩,.bool false,.int .i64 0,.int .i64 0,.int .i64 0,.int .i64 0,.int .i64 0,.int .i64 0,.slice none 0 0]:=Blk.new W 37 _;generalize R.paths.length=np at *;generalize es0 (qai R.k.L (qaa x.key))=s0 at *;generalize es1 (qai R.k.L (qaa x.key))=s1 at *;generalize ws0 (qae R.k.Ws (qaa x.key))=u0 at *;generalize ws1 (qae R.k.Ws (qaa x.key))=u1 at *;generalize (R.k.waits x).length=nw at *;generalize sb (qaa p)=e_ at *;clear h hp hx nA bQ dg
 go_enter func19,ntmps19
 go_upto_region 5 with (go_at_call 34;refine(aJ _ ?_).mono ?_;(focus exact bel2);rintro e w1 ⟨a1,dr,rfl,aa,aF⟩;have b1:=b0.below aa (by simp);have f1:=b1.frozen;have l1:=b1.lt)
 obtain⟨o9,ni⟩:∃o9,o9=Obj.cells #[Value.string e_,.bool x.leaf,.int .i64 s0,.int .i64 s1,.int .i64 x.b0,.int .i64 x.b1,.int .i64 u0,.int .i64 u1,.slice a1 nw dr] 37:=⟨_,rfl⟩;have ed:Blk (w1.alloc o9) w1.heap.size 37 #[Value.string e_,.bool x.leaf,.int .i64 s0,.int .i64 s1,.int .i64 x.b0,.int .i64 x.b1,.int .i64 u0,.int .i64 u1,.slice a1 nw dr]:=by rw[ni];exact Blk.new w1 37 _
 have b9:=b1.alloc o9;have au:Below W.heap.size W w1:=qab (by exact bel2) aa;have hA:=Below.alloc (Below.refl w1.heap.size w1) (Nat.le_refl _) o9;have kC:Below W.heap.size W (w1.alloc o9):=qab au hA;have iF:=qfq aF.out.1 hA;have dI:w1.heap.size≠W.heap.size:=by omega
 have oV:∀b,(Value.slice a1 nw dr).ownBlock=some b->b<w1.heap.size:=fun b hb=>qap aF.out.1 hb
 rw[<-ni];have qg:Hid (∀b,(Value.slice a1 nw dr).ownBlock=some b->W.heap.size<b):=fun b hb=>by have:=aF.out.2 b hb;simp at this;omega
 have ql:Hid ((w1.alloc o9).ownsRow 0 3 1 (.slice a1 nw dr) nw (qjb (R.k.waits x))):=iF;have l9:=b9.lt;have wm:W.heap.size<w1.heap.size:=by omega
 clear aF iF oV au hA b1 f1 l1;generalize w1.alloc o9=W9 at ed b9 kC ql l9 ⊢;generalize w1.heap.size=g9 at ed wm dI ⊢;have z0:=ed.cell 0;have z1:=ed.cell 1;have z2:=ed.cell 2;have z3:=ed.cell 3;have z4:=ed.cell 4;have z5:=ed.cell 5;have z6:=ed.cell 6;have z7:=ed.cell 7;have z8:=ed.cell 8;have y0:=b9.cell;have y1:=b9.frozen;simp only[xq0,xq1,xq2]at z0 z1 z2 z3 z4 z5 z6 z7 z8
 go_region
 go_wp2_with fail
 have aF:=(((((((((b9.set 0 (.string e_)).set 1 (.bool x.leaf)).set 2 (.int .i64 s0)).set 3 (.int .i64 s1)).set 4 (.int .i64 x.b0)).set 5 (.int .i64 x.b1)).set 6 (.int .i64 u0)).set 7 (.int .i64 u1)).set 8 (.slice a1 nw dr)).drew;have hc:=aF.cell;have hk:=((((((((((Keep.refl (fun b=>b=W.heap.size) W9).setCell (p:=⟨W.heap.size,0,none⟩) rfl (.string e_)).setCell (p:=⟨W.heap.size,1,none⟩) rfl (.bool x.leaf)).setCell (p:=⟨W.heap.size,2,none⟩) rfl (.int .i64 s0)).setCell (p:=⟨W.heap.size,3,none⟩) rfl (.int .i64 s1)).setCell (p:=⟨W.heap.size,4,none⟩) rfl (.int .i64 x.b0)).setCell (p:=⟨W.heap.size,5,none⟩) rfl (.int .i64 x.b1)).setCell (p:=⟨W.heap.size,6,none⟩) rfl (.int .i64 u0)).setCell (p:=⟨W.heap.size,7,none⟩) rfl (.int .i64 u1)).setCell (p:=⟨W.heap.size,8,none⟩) rfl (.slice a1 nw dr)).drew;clear y0 y1 z0 z1 z2 z3 z4 z5 z6 z7 z8
 refine xrn (v:=.tuple #[.agg #[.string e_,.bool x.leaf,.int .i64 s0,.int .i64 s1,.int .i64 x.b0,.int .i64 x.b1,.int .i64 u0,.int .i64 u1,.slice a1 nw dr],.bool true]) ?_ rfl (HQ.out _ _ a1 dr rfl (qaf ql.out hk (fun b hb e=>by have:=qg.out b hb;omega)) (kC.trans (hk.toBelow kC.size (fun b hb e=>by omega))) (fun b hb=>by have:=qg.out b hb;omega))
 simp[results,results19,go_sem,hc]
end
structure Stp where
 k:Int
 a:Int
 b:Int
 c:Int
def StIn (W:World)(ao:Option Addr)(len:Nat)(S:Nat->Stp):Prop:=∀i,i<len->∃b dP,ao=some ⟨b,dP,none⟩/\b<W.heap.size/\W.cell? ⟨b,dP+i*4,none⟩=some (.int .i64 (S i).k)/\W.cell? ⟨b,dP+i*4+1,none⟩=some (.int .i64 (S i).a)/\W.cell? ⟨b,dP+i*4+2,none⟩=some (.int .i64 (S i).b)/\W.cell? ⟨b,dP+i*4+3,none⟩=some (.int .i64 (S i).c)/\I64 (S i).k/\I64 (S i).a/\I64 (S i).b/\I64 (S i).c
theorem qri{F:Nat->Prop}{rb:Nat}{s:Stp}(h:∃R,RunI k R/\qau F wr rb R)(hk:k<50)(h1:I64 s.k)(h2:I64 s.a)(h3:I64 s.b)(h4:I64 s.c):
  Calls prog 17 #[.pointer (some ⟨rb,0,none⟩),.agg #[.int .i64 s.k,.int .i64 s.a,.int .i64 s.b,.int .i64 s.c]] wr fun e w'=>e=.returned (.bool true)/\Hid (∃R,RunI (k+1) R/\qau F w' rb R)/\Keep (fun b=>¬F b) wr w':=by
 obtain⟨R,hI,hR⟩:=h;obtain⟨R',_,tE,hc⟩:=q0o hR hI (by omega) h1 h2 h3 h4
 refine hc.mono ?_
 rintro e w' ⟨rfl,g1,g2⟩
 exact⟨rfl,⟨R',tE,g1⟩,g2⟩
end Go.Proofs.YtphclnolomgjoaaGreatDoor
