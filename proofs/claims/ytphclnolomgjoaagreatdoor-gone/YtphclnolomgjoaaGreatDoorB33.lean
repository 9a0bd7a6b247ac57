import Derived.Test.YtphclnolomgjoaaGreatDoorB31
import Derived.Test.YtphclnolomgjoaaGreatDoorB24
import Derived.Test.YtphclnolomgjoaaGreatDoorB25
set_option linter.unusedVariables false
set_option linter.unusedSimpArgs false
set_option maxRecDepth 100000
set_option maxHeartbeats 4000000
namespace Go.Proofs.YtphclnolomgjoaaGreatDoor
open Tryz
open Go.RowKit
variable {W':World}{cl rb:Nat}{ev sl vl vp vt vw:Value}{bU er:Int}{evs:List (Int×Int)}{as_ ws:List Pw}{s2:Bs}{aE:List Node}{T:Nat->Prop}
def pkN (c:Int)(n:Nat):Nat:=((if c<0 then -(c+1) else c) % (n:Int)).toNat
theorem qef(c:Int){n:Nat}(hn:0<n):pkN c n<n:=by
 unfold pkN;have h1:=Int.emod_lt_of_pos (if c<0 then -(c+1) else c) (b:=(n:Int)) (by omega);have h2:=Int.emod_nonneg (if c<0 then -(c+1) else c) (b:=(n:Int)) (by omega)
 omega
def I64 (c:Int):Prop := -9223372036854775808<=c/\c<=9223372036854775807
theorem qfz(c:Int)(n:Nat)(hc:I64 c)(hn:0<n)(dp:n<=1000000)(w:World):
  Calls prog 23 #[.int .i64 c,.int .i64 n] w fun e w'=>e=.returned (.int .i64 (pkN c n))/\w'=w:=by
 obtain⟨cS,fl⟩:=hc;have dR:0<(n:Int):=by omega
 have zo:(n:Int)<=1000000:=by omega
 have hr:∀x:Int,0<=x->((x % (n:Int)).toNat:Int)=x % (n:Int):=fun x hx=>Int.toNat_of_nonneg (Int.emod_nonneg _ (by omega))
 by_cases h0:c<0
 ·have HE:Hid ((-(c+1)).tmod n=(pkN c n:Nat)):=by
   unfold Hid pkN;rw[if_pos h0,hr _ (by omega),Int.tmod_eq_emod_of_nonneg (by omega)]
  clear hr
  go_enter func23,ntmps23
  go_wp2
  go_ret
  exact⟨qhl (by rw[<-HE.out,Int.neg_tmod]),rfl⟩
 ·have HE:Hid (c % n=(pkN c n:Nat)):=by
   unfold Hid pkN;rw[if_neg h0,hr _ (by omega)]
  clear hr
  go_enter func23,ntmps23
  go_wp2
  go_ret
  exact⟨qhl HE.out,rfl⟩
theorem qli(b c:Int)(n:Nat)(hb:I64 b)(hc:I64 c)(hn:0<n)(dp:n<=1000000)(w:World):
  Calls prog 41 #[.int .i64 b,.int .i64 c,.int .i64 n] w fun e w'=>e=.returned (.agg #[.int .i64 (pkN b n),.int .i64 (pkN c n)])/\Below w.heap.size w w':=by
 have h1:=qfz b n hb hn dp;have h2:=qfz c n hc hn dp;generalize (pkN b n:Int)=x at *;generalize (pkN c n:Int)=y at *
 go_enter func41,ntmps41
 go_wp2_with (first
  |(go_at_call 23;refine(h1 _).mono ?_;clear h1;rintro e w1 ⟨rfl,rfl⟩)
  |(go_at_call 23;refine(h2 _).mono ?_;clear h2;rintro e w2 ⟨rfl,rfl⟩))
 have b0:Blk (w.alloc (.cells #[.int .i64 0,.int .i64 0] 35)) w.heap.size 35 #[.int .i64 0,.int .i64 0]:=Blk.new w 35 _;have aF:=(b0.set 0 (.int .i64 x)).set 1 (.int .i64 y);have bm:=aF.cell
 exact xrn (v:=.agg #[.int .i64 x,.int .i64 y]) (by simp[results,results41,go_sem,bm]) rfl ⟨rfl,by exact bel2⟩
def QIn (W:World)(ao:Option Addr)(len:Nat)(q:Nat->Int):Prop:=∀i,i<len->∃b dP,ao=some ⟨b,dP,none⟩/\b<W.heap.size/\W.cell? ⟨b,dP+i,none⟩=some (.int .i64 (q i))/\I64 (q i)
theorem QIn.below{W:World}{ao:Option Addr}{len:Nat}{q:Nat->Int}(h:QIn W ao len q){n:Nat}(hb:Below W.heap.size W W'):QIn W' ao len q:=fun i hi=>by
 obtain⟨b,dP,h1,h2,h3,h4⟩:=h i hi
 exact⟨b,dP,h1,by have:=hb.size;omega,(hb.cell (p:=⟨b,dP+i,none⟩) h2).trans h3,h4⟩
def raw0 (len:Nat)(q:Nat->Int)(i:Nat):Int:=if len<=2*i+1 then 10 else pkN (q (2*i)) 30
def raw1 (len:Nat)(q:Nat->Int)(i:Nat):Int:=if len<=2*i+1 then 10 else pkN (q (2*i+1)) 30
theorem qzp(len:Nat)(q:Nat->Int)(i:Nat):(0<=raw0 len q i/\raw0 len q i<30)/\(0<=raw1 len q i/\raw1 len q i<30):=by
 unfold raw0 raw1;have h1:=qef (q (2*i)) (n:=30) (by omega);have h2:=qef (q (2*i+1)) (n:=30) (by omega)
 split<;>omega
theorem kraw{w:World}{ao:Option Addr}{len cap:Nat}{q:Nat->Int}(hq:QIn w ao len q)(hl:len<=cap)(hm:cap<=maxLen)(r:Value)(i:Nat)(hi:i<=100):
  Calls prog 40 #[r,.slice ao len cap,.int .i64 i] w fun e w'=>e=.returned (.agg #[.int .i64 (raw0 len q i),.int .i64 (raw1 len q i)])/\Below w.heap.size w w':=by
 have b0:Blk (w.alloc (.cells #[.int .i64 0,.int .i64 0] 35)) w.heap.size 35 #[.int .i64 0,.int .i64 0]:=Blk.new w 35 _;have a9:len<=9223372036854775807:=by unfold maxLen at hm;omega
 by_cases h:len<=2*i+1
 ·have h0:raw0 len q i=10:=by unfold raw0;rw[if_pos h]
  have h1:raw1 len q i=10:=by unfold raw1;rw[if_pos h]
  rw[h0,h1];have oI:(len:Int)<=2*i+1:=by omega
  have mU:(0:Int)<=i:=by omega
  have mV:(i:Int)<=100:=by omega
  clear hq h
  go_enter func40,ntmps40
  go_wp2_with fail
  have aF:=(b0.set 0 (.int .i64 10)).set 1 (.int .i64 10);have bm:=aF.cell
  exact xrn (v:=.agg #[.int .i64 10,.int .i64 10]) (by simp[results,results40,go_sem,bm]) rfl ⟨rfl,by exact bel2⟩
 ·obtain⟨b,dP,rfl,hb,q0,r0⟩:=hq (2*i) (by omega);obtain⟨b',Dh,e',bh,q1,r1⟩:=hq (2*i+1) (by omega)
  cases e'
  have h0:raw0 len q i=pkN (q (2*i)) 30:=by unfold raw0;rw[if_neg h]
  have h1:raw1 len q i=pkN (q (2*i+1)) 30:=by unfold raw1;rw[if_neg h]
  rw[h0,h1];have ik:=qli (q (2*i)) (q (2*i+1)) 30 r0 r1 (by omega) (by omega);have p0:(w.alloc (.cells #[.int .i64 0,.int .i64 0] 35)).cell? ⟨b,dP+2*i,none⟩=some (.int .i64 (q (2*i))):=((Below.alloc (Below.refl w.heap.size w) (Nat.le_refl _) _).cell (p:=⟨b,dP+2*i,none⟩) hb).trans q0;have p1:(w.alloc (.cells #[.int .i64 0,.int .i64 0] 35)).cell? ⟨b,dP+(2*i+1),none⟩=some (.int .i64 (q (2*i+1))):=((Below.alloc (Below.refl w.heap.size w) (Nat.le_refl _) _).cell (p:=⟨b,dP+(2*i+1),none⟩) hb).trans q1;generalize q (2*i)=x at *;generalize q (2*i+1)=y at *;have ak:(2*i+1:Int)<len:=by omega
  have mU:(0:Int)<=i:=by omega
  have mV:(i:Int)<=100:=by omega
  have F2:IntKind.i64.wrap (2*(i:Int))=2*(i:Int):=by rw[IntKind.wrap_i64];omega
  have F3:IntKind.i64.wrap (2*(i:Int)+1)=2*(i:Int)+1:=by rw[IntKind.wrap_i64];omega
  have z1:(0:Int)<=2*(i:Int):=by omega
  have z2:(0:Int)<=2*(i:Int)+1:=by omega
  have z3:2*(i:Int)<len:=by omega
  have t1:(2*(i:Int)).toNat=2*i:=by omega
  have t2:(2*(i:Int)+1).toNat=2*i+1:=by omega
  have EX:=World.new_ne w _ q0;have EY:=World.new_ne w _ q1;clear h h0 h1 hq
  go_enter func40,ntmps40
  go_upto_region 3 with fail
  go_region_held3 (fun w'=>w'.cell? ⟨b,dP+2*i,none⟩=some (.int .i64 x)/\w'.cell? ⟨b,dP+(2*i+1),none⟩=some (.int .i64 y)) (go_keep)
   (first
    |(go_at_call 41;refine(ik _).mono ?_;rintro e w2 ⟨rfl,ag⟩;have aP:Below w.heap.size w w2:=qab (by exact bel2) ag;have iR:=b0.drew.below ag (by simp);have bm:=iR.cell;have en:=iR.frozen;have d1:=(aP.cell (p:=⟨b,dP+2*i,none⟩) hb).trans q0;have d2:=(aP.cell (p:=⟨b,dP+(2*i+1),none⟩) hb).trans q1))
  go_wp2_with fail
  have aF:=(iR.set 0 (.int .i64 (pkN x 30))).set 1 (.int .i64 (pkN y 30));have hc:=aF.cell;clear bm en
  exact xrn (v:=.agg #[.int .i64 (pkN x 30),.int .i64 (pkN y 30)]) (by simp[results,results40,go_sem,hc]) rfl ⟨rfl,by exact bel2⟩
structure KW where
 num:Int
 leaf:Nat
 d0:Int
 d1:Int
 inn:Bool
 qav:Int
def qbz (x:KW):List Value:=[.int .i64 x.num,.int .i64 x.leaf,.int .i64 x.d0,.int .i64 x.d1,.bool x.inn,.int .i64 x.qav]
def qak (L:List KW):List Value:=L.flatMap qbz
theorem qh0(L:List KW):(qak L).length=L.length*6:=by
 induction L with
 |nil=>rfl
 |cons a L ih=>simp[qak,qbz]at ih ⊢;omega
theorem qfi(a b:List KW):qak (a++b)=qak a++qak b:=by simp[qak]
theorem qn7(l:List KW):∀u∈qak l,u.oneCell'=true:=by
 intro u hu;simp only[qak,List.mem_flatMap]at hu;obtain⟨x,_,hu⟩:=hu
 simp[qbz]at hu
 rcases hu with rfl|rfl|rfl|rfl|rfl|rfl<;>rfl
theorem qhz:∀(L:List KW) (i j:Nat) (e:KW),L[i]?=some e->j<6->(qak L)[i*6+j]?=(qbz e)[j]?
 | [],_,_,_,h,_=>by simp at h
 |a::L,0,j,e,h,hj=>by
  simp at h;subst h
  simp only[qak,List.flatMap_cons,Nat.zero_mul,Nat.zero_add];rw[xrp (by simp[qbz];omega)]
 |a::L,i+1,j,e,h,hj=>by
  have ih:=qhz L i j e (by simpa using h) hj;simp only[qak,List.flatMap_cons]at ih ⊢;rw[xro (by simp[qbz];omega)];rw[show(i+1)*6+j-(qbz a).length=i*6+j by simp[qbz];omega]
  exact ih
theorem qeb:∀(L:List KW) (i j:Nat) (x y:KW) (u:Value),L[i]?=some x->j<6->qbz y=(qbz x).set j u->qak (L.set i y)=(qak L).set (i*6+j) u
 | [],_,_,_,_,_,h,_,_=>by simp at h
 |a::L,0,j,x,y,u,h,hj,he=>by
  simp at h;subst h
  simp only[qak,xr8,List.flatMap_cons,Nat.zero_mul,Nat.zero_add];rw[he,List.set_append_left _ _ (by simp[qbz];omega)]
 |a::L,i+1,j,x,y,u,h,hj,he=>by
  have ih:=qeb L i j x y u (by simpa using h) hj he;simp only[qak,xr7,List.flatMap_cons]at ih ⊢;rw[ih,List.set_append_right _ _ (by simp[qbz];omega)];rw[show(i+1)*6+j-(qbz a).length=i*6+j by simp[qbz];omega]
theorem qvo(Ws:List KW)(i:Nat):qak (Ws.take i)=(qak Ws).take (i*6):=by
 induction Ws generalizing i with
 |nil=>simp[qak]
 |cons a l ih =>
  cases i with
  |zero=>simp[qak]
  |succ i =>
   have:=ih i
   simp only[qak,List.take_succ_cons,List.flatMap_cons]at this ⊢;rw[this,show(i+1)*6=(qbz a).length+i*6 by simp[qbz];omega,List.take_length_add_append]
theorem qvn(Ws:List KW)(i:Nat):qak (Ws.drop i)=(qak Ws).drop (i*6):=by
 induction Ws generalizing i with
 |nil=>simp[qak]
 |cons a l ih =>
  cases i with
  |zero=>simp[qak]
  |succ i =>
   have:=ih i
   simp only[qak,List.drop_succ_cons,List.flatMap_cons]at this ⊢;rw[this,show(i+1)*6=(qbz a).length+i*6 by simp[qbz];omega,List.drop_length_add_append]
def qng (s:List KW×Int)(e:Int×Int):Option (List KW×Int) :=
 match s.1.findIdx? (fun w=>w.num == e.2) with
 |none=>none
 |some k=>match s.1[k]? with
  |none=>none
  |some x=>if e.1=1/\x.inn=false then some (s.1.set k {x with inn:=true,qav:=s.2+1},s.2+1)
   else if e.1=2/\x.inn=true then some (s.1.set k {x with inn:=false},s.2) else none
def qdj:List KW×Int->List (Int×Int)->Option (List KW×Int)
 |s,[]=>some s
 |s,e::es=>match qng s e with
  |none=>none
  |some s'=>qdj s' es
theorem qrp{s s':List KW×Int}{e:Int×Int}(h:qng s e=some s'):∃k x,s.1[k]?=some x/\x.num=e.2/\(∀j y,j<k->s.1[j]?=some y->y.num≠e.2) /\
  ((e.1=1/\x.inn=false/\s'=(s.1.set k {x with inn:=true,qav:=s.2+1},s.2+1))\/(e.1=2/\x.inn=true/\s'=(s.1.set k {x with inn:=false},s.2))):=by
 unfold qng at h
 cases hf:s.1.findIdx? (fun w=>w.num == e.2) with
 |none=>rw[hf]at h;cases h
 |some k =>
  rw[hf]at h;obtain⟨hk,hm,hb⟩:=List.findIdx?_eq_some_iff_getElem.1 hf;have hx:s.1[k]?=some s.1[k]:=xr1 hk;simp only[hx]at h
  refine⟨k,s.1[k],hx,by simpa using hm,fun j y hj hy e=>?_,?_⟩
  ·have:=hb j hj
   rw[xr1 (by omega)]at hy;simp only[Option.some.injEq]at hy;rw[hy]at this
   simp[e]at this
  ·split at h
   ·rename_i c;simp only[Option.some.injEq]at h;exact Or.inl ⟨c.1,c.2,h.symm⟩
   ·split at h
    ·rename_i c;simp only[Option.some.injEq]at h;exact Or.inr ⟨c.1,c.2,h.symm⟩
    ·cases h
structure TkAt (w:World) (rb:Nat) (vt vp vw vl:Value) (ws:List KW) (st:Int) (W:World):Prop where
 at_:Blk W rb 50 #[vt,vp,vw,.int .i64 st,vl]
 row:W.ownsRow 0 41 6 vw ws.length (qak ws)
 ne:vw.ownBlock≠some rb
 keep:Keep (fun b=>b=rb\/vw.ownBlock=some b) w W
theorem TkAt.cells{w:World}{ws:List KW}{st:Int}{W:World}(h:TkAt w rb vt vp vw vl ws st W){k:Nat}{x:KW}(hk:ws[k]?=some x):∃g c,vw=.slice (some ⟨g,0,none⟩) ws.length c/\g<W.heap.size/\g≠rb/\ws.length<=c/\c<=maxLen /\
  W.cell? ⟨g,k*6,none⟩=some (.int .i64 x.num)/\W.cell? ⟨g,k*6+1,none⟩=some (.int .i64 x.leaf)/\W.cell? ⟨g,k*6+2,none⟩=some (.int .i64 x.d0)/\W.cell? ⟨g,k*6+3,none⟩=some (.int .i64 x.d1)/\W.cell? ⟨g,k*6+4,none⟩=some (.bool x.inn)/\W.cell? ⟨g,k*6+5,none⟩=some (.int .i64 x.qav):=by
 have ak:=(xr0.1 hk).1;obtain⟨g,c,rfl,h1,h2⟩:=qa9 h.row (by omega);have hc:∀j u,(qbz x)[j]?=some u->j<6->W.cell? ⟨g,k*6+j,none⟩=some u:=fun j u hu hj=>by
  have:=h.row.cells (g:=g) rfl (k*6+j) u ((qhz ws k j x hk hj).trans hu)
  rw[Addr.add_lit,Nat.zero_add]at this
  exact this
 exact⟨g,c,rfl,qap h.row rfl,fun e=>h.ne (by rw[<-e];rfl),h1,h2,hc 0 _ rfl (by omega),hc 1 _ rfl (by omega),hc 2 _ rfl (by omega),hc 3 _ rfl (by omega),hc 4 _ rfl (by omega),hc 5 _ rfl (by omega)⟩
theorem TkAt.drew{w:World}{ws:List KW}{st:Int}{W:World}(h:TkAt w rb vt vp vw vl ws st W)(n:Nat):TkAt w rb vt vp vw vl ws st (W.drewN n) :=
 ⟨h.at_.drewN n,by have:=h.row;exact qfq this (xrm (Below.refl _ _) n),h.ne,h.keep.trans (Keep.new (xrm (Below.refl _ _) n))⟩
theorem qns{α : Type}{l:List α}{i:Nat}{x : α}(h:l[i]?=some x):l.drop i=x::l.drop (i+1):=by
 obtain⟨hl,e⟩:=xr0.1 h;rw[List.drop_eq_getElem_cons hl,e]
theorem TkAt.qz4{w:World}{ws:List KW}{st:Int}{W:World}(h:TkAt w rb vt vp vw vl ws st W):TkAt w rb vt vp vw vl ws st W.drew :=
 ⟨h.at_.drew,h.row.drew,h.ne,h.keep.drew⟩
theorem TkAt.comes{w:World}{ws:List KW}{st:Int}{W:World}(h:TkAt w rb vt vp vw vl ws st W){k:Nat}{x:KW}(hk:ws[k]?=some x){g c:Nat}(hv:vw=.slice (some ⟨g,0,none⟩) ws.length c):
  TkAt w rb vt vp vw vl (ws.set k {x with inn:=true,qav:=st+1}) (st+1) (((W.setCell ⟨g,k*6+4,none⟩ (.bool true)).setCell ⟨rb,3,none⟩ (.int .i64 (st+1))).setCell ⟨g,k*6+5,none⟩ (.int .i64 (st+1))):=by
 subst hv;have hg:rb≠g:=fun e=>h.ne (by rw[e];rfl)
 refine⟨?_,?_,h.ne,?_⟩
 ·have:=((h.at_.other ⟨g,k*6+4,none⟩ (.bool true) hg).set 3 (.int .i64 (st+1))).other ⟨g,k*6+5,none⟩ (.int .i64 (st+1)) hg
  simpa using this
 ·have r1:=(h.row.stored (k*6+4) (.bool true)).1;have r2:((W.setCell ⟨g,k*6+4,none⟩ (.bool true)).setCell ⟨rb,3,none⟩ (.int .i64 (st+1))).ownsRow 0 41 6 (.slice (some ⟨g,0,none⟩) ws.length c) ws.length ((qak ws).set (k*6+4) (.bool true)):=xrl r1 (by simp[Value.ownBlock];exact fun e=>hg e.symm) _;have r4:=(r2.stored (k*6+5) (.int .i64 (st+1))).1;have e1:qak (ws.set k {x with inn:=true})=(qak ws).set (k*6+4) (.bool true):=qeb ws k 4 x _ _ hk (by omega) rfl;have aY:(ws.set k {x with inn:=true})[k]?=some {x with inn:=true}:=by rw[List.getElem?_set_self (xr0.1 hk).1]
  have e2:qak ((ws.set k {x with inn:=true}).set k {x with inn:=true,qav:=st+1})=(qak (ws.set k {x with inn:=true})).set (k*6+5) (.int .i64 (st+1)):=qeb _ k 5 _ _ _ aY (by omega) rfl;rw[List.set_set,e1]at e2;rw[List.length_set,e2]
  exact r4
 ·exact((h.keep.setCell (p:=⟨g,k*6+4,none⟩) (.inr rfl) _).setCell (p:=⟨rb,3,none⟩) (.inl rfl) _).setCell (p:=⟨g,k*6+5,none⟩) (.inr rfl) _
theorem TkAt.goes{w:World}{ws:List KW}{st:Int}{W:World}(h:TkAt w rb vt vp vw vl ws st W){k:Nat}{x:KW}(hk:ws[k]?=some x){g c:Nat}(hv:vw=.slice (some ⟨g,0,none⟩) ws.length c):
  TkAt w rb vt vp vw vl (ws.set k {x with inn:=false}) st (W.setCell ⟨g,k*6+4,none⟩ (.bool false)):=by
 subst hv;have hg:rb≠g:=fun e=>h.ne (by rw[e];rfl)
 refine⟨h.at_.other ⟨g,k*6+4,none⟩ (.bool false) hg,?_,h.ne,h.keep.setCell (p:=⟨g,k*6+4,none⟩) (.inr rfl) _⟩
 have r1:=(h.row.stored (k*6+4) (.bool false)).1;rw[List.length_set,qeb ws k 4 x {x with inn:=false} (.bool false) hk (by omega) rfl]
 exact r1
theorem qrn{w:World}{ws an:List KW}{st:Int}(h:TkAt w rb vt vp vw vl ws st w){al:Option Addr}(aS:w.ownsRow 0 60 2 (.slice al evs.length cl) evs.length (qam evs))(aW:∀b,(Value.slice al evs.length cl).ownBlock=some b->b≠rb/\vw.ownBlock≠some b)(hn:ws.length<=24)(hm:evs.length<=1000)(cJ:0<=st/\st<=1000000)(db:qdj (ws,st) evs=some (an,bU)):
  Calls prog 48 #[.pointer (some ⟨rb,0,none⟩),.slice al evs.length cl] w fun e w'=>e=.returned (.bool true)/\TkAt w rb vt vp vw (.slice al evs.length cl) an bU w':=by
 obtain⟨a',c',dh,vT,BC⟩:=qa7 aS;injection dh with h1 h2 h3;subst h1 h3;have ej:=qo8 aS;have bJ:=h.at_;have jV:=bJ.lt;have f4:=bJ.frozen 4;have c4:=bJ.cell 4;simp only[xq0,xq1,xq2]at c4;obtain⟨m,nc⟩:∃m,m=evs.length:=⟨_,rfl⟩;obtain⟨n,eZ⟩:∃n,n=ws.length:=⟨_,rfl⟩;have l_:TkAt w rb vt vp vw (.slice al evs.length cl) ws st (w.setCell ⟨rb,4,none⟩ (.slice al evs.length cl)) :=
  ⟨by have:=bJ.set 4 (.slice al evs.length cl);simpa using this,xrl h.row h.ne _,h.ne,(Keep.refl _ _).setCell (p:=⟨rb,4,none⟩) (.inl rfl) _⟩
 have we:Hid (∀W,Keep (fun b=>b=rb\/vw.ownBlock=some b) w W->∀(i:Nat) e,evs[i]?=some e->∃g,al=some ⟨g,0,none⟩/\g<W.heap.size/\W.cell? ⟨g,i*2,none⟩=some (.int .i64 e.1)/\W.cell? ⟨g,i*2+1,none⟩=some (.int .i64 e.2)):=by
  show ∀W,Keep (fun b=>b=rb\/vw.ownBlock=some b) w W->∀(i:Nat) e,evs[i]?=some e->_
  intro W hk i e hi;obtain⟨g,rfl,hg,q0,q1⟩:=ej i e hi;obtain⟨z1,z2⟩:=aW g rfl;have hT:¬((fun b=>b=rb\/vw.ownBlock=some b) g):=fun e=>e.elim z1 z2
  exact⟨g,rfl,by have:=hk.size;omega,(hk.cell (p:=⟨g,i*2,none⟩) hg hT).trans q0,(hk.cell (p:=⟨g,i*2+1,none⟩) hg hT).trans q1⟩
 rw[<-nc]at hm vT l_ ⊢;rw[<-eZ]at hn;have HM:Hid (m=evs.length):=nc;have HN:Hid (n=ws.length):=eZ;have kh:Hid (qdj (ws,st) evs=some (an,bU)):=db;have Ai:Hid (TkAt w rb vt vp vw (.slice al m cl) ws st (w.setCell ⟨rb,4,none⟩ (.slice al m cl))):=l_;clear nc eZ db l_ aS aW ej h
 go_enter func48,ntmps48
 go_wp2_with fail
 go_loopw [5] (fun i wr=>∃k:Nat,k<=m/\i=.int .i64 k/\∃s:List KW×Int,qdj s (evs.drop k)=some (an,bU)/\s.1.length=n/\(0<=s.2/\s.2<=1000000+k)/\TkAt w rb vt vp vw (.slice al m cl) s.1 s.2 wr) (fun i _=>m-(intOf i).toNat)
 case atStart=>exact⟨0,Nat.zero_le _,rfl,(ws,st),kh.out,HN.out.symm,⟨cJ.1,by simp;exact cJ.2⟩,Ai.out⟩
 case round =>
  obtain⟨i,hi,rfl,⟨wi,si⟩,dv,fF,xk,oo⟩:=hrel
  simp only at dv fF xk oo
  by_cases ak:i<m
  ·obtain⟨e,he⟩:∃e,evs[i]?=some e:=⟨_,xr1 (by rw[<-HM.out];exact ak)⟩;have HE:Hid (∀W,Keep (fun b=>b=rb\/vw.ownBlock=some b) w W->∃g,al=some ⟨g,0,none⟩/\g<W.heap.size/\W.cell? ⟨g,i*2,none⟩=some (.int .i64 e.1)/\W.cell? ⟨g,i*2+1,none⟩=some (.int .i64 e.2)):=fun W hk=>we.out W hk i e he
   rw[qns he]at dv;unfold qdj at dv
   cases ho:qng (wi,si) e with
   |none=>rw[ho]at dv;cases dv
   |some s1 =>
    rw[ho]at dv
    simp only at dv
    obtain⟨q,x,hx,C8,iV,bR⟩:=qrp ho
    simp only at hx iV bR
    have jd:=(xr0.1 hx).1;have HQ:Hid (q<n):=by show q<n;omega
    have HR:Hid (qdj s1 (evs.drop (i+1))=some (an,bU)):=dv;have HX:Hid (wi[q]?=some x):=hx;have HF:Hid (∀j y,j<q->wi[j]?=some y->y.num≠e.2):=iV;have HL:Hid (wi.length=n):=fF;clear he ho dv hx iV fF jd;have mX:(i:Int)<m:=by omega
    have mU:(0:Int)<=i:=by omega
    obtain⟨gw,cw,cV,bK,eL,fX,jE,_⟩:=oo.cells HX.out;rw[HL.out]at cV fX
    go_wp2_with fail
    obtain⟨ti,lN⟩:∃ti,ti=wr:=⟨_,rfl⟩;rw[<-lN]at oo bK ⊢;clear lN
    go_loopw [6] (fun j w2=>∃k:Nat,k<=q/\j=.int .i64 k/\TkAt w rb vt vp vw (.slice al m cl) wi si w2) (fun j _=>q-(intOf j).toNat)
    case atStart=>exact⟨0,Nat.zero_le _,rfl,oo⟩
    case round =>
     obtain⟨k,hk,rfl,ma⟩:=hrel;have hq:=HQ.out;obtain⟨y,hy⟩:∃y,wi[k]?=some y:=⟨_,xr1 (by rw[HL.out];omega)⟩;obtain⟨tz,DU,sz,BN,nN,_,_,p0,p1,p2,p3,p4,p5⟩:=ma.cells hy;have BM:tz=gw:=by
      have z:=sz.symm.trans cV;injection z with z1;injection z1 with z1;injection z1
     subst BM;clear sz;obtain⟨ge,yV,BL,r0,r1⟩:=HE.out _ ma.keep;have c2:=ma.at_.cell 2;have c3:=ma.at_.cell 3;have f3:=ma.at_.frozen 3;simp only[xq0,xq1,xq2]at c2 c3;rw[cV]at c2;have ja:(k:Int)<n:=by omega
     have eM:(0:Int)<=k:=by omega
     by_cases oP:k<q
     ·have pB:¬(y.num=e.2):=HF.out k y oP hy;subst yV;clear hy
      go_wp2_with fail
      go_quiet (fail)
      go_wp2_with fail
      exact⟨⟨k+1,by omega,by go_num,ma.drew _⟩,by simp[intOf];omega⟩
     ·have wJ:k=q:=by omega
      subst wJ;rw[HX.out]at hy
      cases hy
      subst yV;have wT:¬(tz=rb):=nN;have rM:¬(rb=tz):=fun e=>nN e.symm
      have ju:=ma.row;rw[cV,HL.out]at ju;have D_:=ju.frozenAt (k*6+4);have Ea:=ju.frozenAt (k*6+5);clear ju;rw[C8]at p0;have qo:Hid (TkAt w rb vt vp vw (.slice (some ⟨ge,0,none⟩) m cl) wi si wr):=ma;have ya:Hid (vw=.slice (some ⟨tz,0,none⟩) n cw):=cV
      rcases bR with ⟨k1,k2,k3⟩|⟨k1,k2,k3⟩
      ·rw[k1]at r0;rw[k2]at p4;clear ma oo cV
       go_wp2_with fail
       go_quiet (fail)
       go_wp2_with fail
       go_region
       go_wp2_with fail
       refine⟨⟨i+1,by omega,by go_num,s1,HR.out,?_,?_,?_⟩,by simp[intOf];omega⟩
       ·rw[k3];simp[HL.out]
       ·rw[k3];simp only;omega
       ·rw[k3];exact((qo.out.drew _).comes HX.out (by rw[ya.out,HL.out])).qz4
      ·rw[k1]at r0;rw[k2]at p4;clear ma oo cV
       go_wp2_with fail
       go_quiet (fail)
       go_wp2_with fail
       refine⟨⟨i+1,by omega,by go_num,s1,HR.out,?_,?_,?_⟩,by simp[intOf];omega⟩
       ·rw[k3];simp[HL.out]
       ·rw[k3];simp only;omega
       ·rw[k3];exact(qo.out.drew _).goes HX.out (by rw[ya.out,HL.out])
  ·have BR:i=m:=by omega
   subst BR;rw[HM.out,List.drop_length]at dv;simp only[qdj,Option.some.injEq,Prod.mk.injEq]at dv;obtain⟨rfl,rfl⟩:=dv
   go_wp2_with fail
   go_ret
   exact⟨rfl,oo⟩
theorem Rel.keys{nodes:List Node}{Ws:List Wk}(R:Rel nodes Ws ws as_)(hS:∀x∈Ws,0<=x.st)(k:List Bs):(∃y∈Ws,y.key=k)↔(∃z∈ws++as_,z.x.key=k):=by
 obtain⟨az,a1,a2,_⟩:=R.a
 constructor
 ·rintro⟨y,hy,rfl⟩
  have h0:=hS y hy
  by_cases h:y.st=0
  ·have:y∈ws.map (·.x):=by rw[R.w];exact xrr.2 ⟨hy,by simp[h]⟩
   obtain⟨z,hz,e⟩:=xrq.1 this
   exact⟨z,xr9 _ hz,by rw[e]⟩
  ·have:y∈az:=a2.symm.subset (xrr.2 ⟨hy,by simp;omega⟩)
   have:y.adm 0∈as_.map (·.x):=by rw[a1];exact xrj this
   obtain⟨z,hz,e⟩:=xrq.1 this
   exact⟨z,xra _ hz,by rw[e];rfl⟩
 ·rintro⟨z,hz,rfl⟩
  rcases xri.1 hz with h|h
  ·have:z.x∈ws.map (·.x):=xrj h
   rw[R.w]at this
   exact⟨z.x,(xrr.1 this).1,rfl⟩
  ·have:z.x∈as_.map (·.x):=xrj h
   rw[a1]at this;obtain⟨v,hv,e⟩:=xrq.1 this
   exact⟨v,(xrr.1 (a2.subset hv)).1,by rw[<-e];rfl⟩
theorem qp6{nodes:List Node}(T:Tree nodes)(hB:qa1 nodes){Ws:List Wk}(R:Rel nodes Ws ws as_)(hS:∀x∈Ws,0<=x.st)(hW:Wks Ws){q:Node}(hq:q∈nodes){s:Bs}(cT:q.key=qac s):
  ql6 (nodes.map Node.ent) Ws s=(!(q.kids.length == 0)||(ws++as_).any (fun p=>p.q == q.blk)):=by
 have se:s=qaa q.key:=by rw[cT,qfh]
 have pV:=(T.ok q hq).1;obtain⟨kq,g1,g2,_⟩:=T.kids q hq;unfold ql6
 congr 1
 ·rw[Bool.eq_iff_iff,xs0];simp only[Bool.not_eq_true',beq_eq_false_iff_ne,ne_eq]
  constructor
  ·rintro⟨e,he,hk⟩
   obtain⟨n,hn,rfl⟩:=xrq.1 he;have ay:=(T.ok n hn).1;unfold kidE at hk;rw[se]at hk;simp only[Bool.and_eq_true,Bool.not_eq_true',decide_eq_false_iff_not]at hk;obtain⟨h1,h2⟩:=hk;obtain⟨tl,iL⟩:=(qe1 ay pV).1 h1;have iL:q.key++tl=n.key:=iL
   cases tl with
   |nil=>exact absurd (show qaa n.key=qaa q.key by rw[<-iL,List.append_nil]) h2
   |cons y tl =>
    obtain⟨m,hm,df⟩:=T.pre tl (q.key++[y]) n hn (by rw[<-iL];simp)
    have:m∈kq:=(g2 m).2 ⟨hm,y,df⟩
    intro h0;rw[g1]at h0
    simp at h0
    rw[h0]at this
    cases this
  ·intro h0;rw[g1]at h0
   cases kq with
   |nil=>simp at h0
   |cons k l =>
    obtain⟨h1,y,h2⟩:=(g2 k).1 (by simp)
    refine⟨k.ent,xrj h1,?_⟩
    have zk:=(T.ok k h1).1;unfold kidE;simp only[Bool.and_eq_true,Bool.not_eq_true',decide_eq_false_iff_not]
    refine⟨?_,?_⟩
    ·rw[se];exact(qe1 zk pV).2 ⟨[y],h2.symm⟩
    ·rw[se];intro e;have e:qaa k.key=qaa q.key:=e
     have:=qgv zk pV e
     rw[h2]at this
     have:=congrArg List.length this
     simp at this
 ·rw[Bool.eq_iff_iff,xs0,xs0];have hk:=R.keys hS q.key
  constructor
  ·rintro⟨y,hy,h1⟩
   unfold atW at h1;have h1:=of_decide_eq_true h1;rw[se]at h1
   have:=qgv (hW.ok y hy).1 pV h1
   obtain⟨z,hz,e⟩:=hk.1 ⟨y,hy,this⟩
   exact⟨z,hz,by rw[R.qts T hB hq hz,e];simp⟩
  ·rintro⟨z,hz,h1⟩
   rw[R.qts T hB hq hz]at h1;obtain⟨y,hy,e⟩:=hk.2 ⟨z,hz,of_decide_eq_true h1⟩
   exact⟨y,hy,by unfold atW;rw[e,se];simp⟩
theorem qmc{nodes:List Node}(T:Tree nodes)(hB:qa1 nodes){Ws:List Wk}(R:Rel nodes Ws ws as_)(hS:∀x∈Ws,0<=x.st)(hW:Wks Ws)(s:Bs):
  (if errF (nodes.map Node.ent) s≠0 then errF (nodes.map Node.ent) s else if ql6 (nodes.map Node.ent) Ws s=true then 9 else 0)=qdl nodes (ws++as_) s:=by
 unfold qdl errF;rw[qb4]
 by_cases h1:qar s=false
 ·simp[h1]
 ·by_cases h2:s=[]
  ·rw[if_neg h1,if_pos h2,if_neg h1,if_pos h2];rfl
  ·cases h3:findKey nodes (qac s) with
   |none=>simp[h1,h2]
   |some n =>
    obtain⟨hn,bX⟩:=qan h3;rw[qp6 T hB R hS hW hn bX]
    simp[h1,h2]
def qf6 (x:Tw)(s:Bs):Out :=
 match findKey x.nodes (qac s) with
 |none=>x.same (qdl x.nodes (x.ws++x.as_) s)
 |some q=>if qdl x.nodes (x.ws++x.as_) s≠0 then x.same (qdl x.nodes (x.ws++x.as_) s) else if brkE (delL x.L q.key) x.Ws≠0 then x.same (brkE (delL x.L q.key) x.Ws)
  else qjv (delL x.L q.key) x.cnt (qal (delL x.L q.key) ⟨x.Ws,x.st,[]⟩)
theorem qgf{W:World}{bt:Nat}(s:ByteArray){M:World->Prop}{F:Value->World->Prop}
  (AR:Calls prog 58 #[.pointer (some ⟨bt,0,none⟩),.string s] W fun e w'=>e=.returned (.int .i64 er)/\M w')
  (qA:∀W1,M W1->Calls prog 51 #[.pointer (some ⟨bt,0,none⟩),.int .i64 er] W1 fun e w'=>∃ev,e=.returned (.tuple #[ev,.int .i64 er])/\F ev w') :
  Calls prog 31 #[.pointer (some ⟨bt,0,none⟩),.string s] W fun e w'=>∃ev,e=.returned (.tuple #[ev,.int .i64 er])/\F ev w':=by
 go_enter func31,ntmps31
 go_wp2_with (first
  |(go_at_call 58;refine AR.mono ?_;rintro e w1 ⟨rfl,hM⟩)
  |(go_at_call 51;refine(qA _ hM).mono ?_;rintro e w2 ⟨ev,rfl,hF⟩))
 exact xrn (v:=.tuple #[ev,.int .i64 er]) (by simp[results,results31,go_sem]) rfl ⟨ev,rfl,hF⟩
theorem qto{τ : Nat->Tag}{t K:Nat}{W:World}{x:Tw}(A:qf9 K x){p:Node}{w':World}(hM:PMid τ t W x.bt (reSl x.nodes p sl) x.last x.vw x.va x.ws x.as_ w')(err:Int):POut τ t W x.bt (x.same err) (.slice none 0 0) w':=by
 obtain⟨τ',m1,m2,m3,m4⟩:=hM;have hS:=fun z=>qjg p sl z
 refine⟨τ',reSl x.nodes p sl,x.vw,x.va,x.ws,x.as_,m1,m2,?_,?_,?_,xrk _ _ _ _,(fun b hb=>by cases hb),m4⟩
 ·show qa2 τ' t w' x.bt _ x.cnt x.vw x.va x.ws x.as_
  rw[A.cnt];exact m3
 ·show _=x.L
  rw[qwb,A.L]
 ·refine⟨m3.pr.tree,A.com.rel.qlp (fun n hn=>⟨_,xrj hn,(hS n).blk,(hS n).key⟩),A.com.inv,⟨fun y hy=>?_,A.com.wkl.num⟩,A.com.cnt0⟩
  obtain⟨n,hn,e1,e2⟩:=A.com.wkl.leaf y hy
  exact⟨_,xrj hn,(hS n).key.trans e1,(hS n).leaf.trans e2⟩
theorem qx0{τ : Nat->Tag}{t K:Nat}{W:World}{x:Tw}(hP:qa2 τ t W x.bt x.nodes x.last x.vw x.va x.ws x.as_)(A:qf9 K x)(s:ByteArray)(hs:s.size<=2000000):
  Calls prog 31 #[.pointer (some ⟨x.bt,0,none⟩),.string s] W fun e w'=>∃ev,e=.returned (.tuple #[ev,.int .i64 (qf6 x (bl s)).err])/\POut τ t W x.bt (qf6 x (bl s)) ev w':=by
 have T:=hP.pr.tree;have hB:=hP.pr.qdk;have vr:∀y∈x.Ws,0<=y.st:=fun y hy=>(A.inv.wks.st y hy).1
 by_cases he:qdl x.nodes (x.ws++x.as_) (bl s)=0
 ·obtain⟨hv,dw,q,hf,fm,ay⟩:=qgc he;obtain⟨hq,cT⟩:=qan hf;have cg:=qtu hP A.com.rel A.inv.wks.wks s hs he hf;rw[<-A.L]at cg;have ho:qf6 x (bl s)=if brkE (delL x.L q.key) x.Ws≠0 then x.same (brkE (delL x.L q.key) x.Ws) else qjv (delL x.L q.key) x.cnt (qal (delL x.L q.key) ⟨x.Ws,x.st,[]⟩):=by
   unfold qf6;simp only[hf];rw[if_neg (by simpa using he)]
  by_cases h2:brkE (delL x.L q.key) x.Ws=0
  ·rw[if_neg (by simpa using h2)]at ho;rw[ho]
   refine qgf (M:=fun w'=>∃p∈x.nodes,∃i sl,PMid τ t W x.bt (remN x.nodes q p i sl) x.last x.vw x.va x.ws x.as_ w') s (cg.mono fun e w' h=>?_) (fun W1 hM=>?_)
   ·obtain⟨h3,h4,_⟩:=h;rw[h2]at h3
    exact⟨h3,h4 h2⟩
   ·obtain⟨p,hp,i,sl,hM⟩:=hM;obtain⟨τ1,_,_,g3,_⟩:=id hM;obtain⟨r1,_,aa⟩:=g3.bk;have hR:Rel (remN x.nodes q p i sl) x.Ws x.ws x.as_:=⟨A.com.rel.w,A.com.rel.a,aa.lf⟩;have hL:WkL (remN x.nodes q p i sl) x.Ws x.last:=by
     refine⟨fun y hy=>?_,by rw[<-A.cnt];exact A.com.wkl.num⟩
     obtain⟨n,hn,e1,e2⟩:=A.com.wkl.leaf y hy;obtain⟨z,hz,e3⟩:=(A.com.rel.keys vr y.key).1 ⟨y,hy,rfl⟩;have gv:n.key≠q.key:=fun e=>ay z hz (by have:=A.com.rel.qts T hB hq hz;rw[e3,<- e1,e]at this;simpa using this)
     refine⟨_,(qlt x.nodes q p i sl _).2 ⟨n,hn,gv,rfl⟩,?_⟩
     by_cases e:n.key=p.key
     ·have:n=p:=T.inj n hn p hp e
      subst this;rw[if_pos rfl];exact⟨e1,e2⟩
     ·rw[if_neg e];exact⟨e1,e2⟩
    have:=qhd hM hR A.inv hL (by rw[<-A.cnt];exact A.com.cnt0)
    rw[<-A.cnt,qpp T hp,<- A.L]at this
    exact this
  ·rw[if_pos h2]at ho;rw[ho]
   refine qgf (M:=fun w'=>∃p∈x.nodes,∃sl,PMid τ t W x.bt (reSl x.nodes p sl) x.last x.vw x.va x.ws x.as_ w') s (cg.mono fun e w' h=>⟨h.1,h.2.2 h2⟩) (fun W1 hM=>?_)
   obtain⟨p,hp,sl,hM⟩:=hM
   refine(qcp (w:=W1) (bt:=x.bt) h2).mono ?_
   rintro e w' ⟨rfl,rfl⟩
   exact⟨_,rfl,qto A hM _⟩
 ·have ho:qf6 x (bl s)=x.same (qdl x.nodes (x.ws++x.as_) (bl s)):=by
   unfold qf6
   cases findKey x.nodes (qac (bl s)) with
   |none=>rfl
   |some n=>simp only[ne_eq,he,not_false_eq_true,if_true]
  rw[ho]
  refine qgf (M:=fun w'=>Below W.heap.size W w') s (qtt hP s hs rfl he) (fun W1 hM=>?_)
  refine(qcp (w:=W1) (bt:=x.bt) he).mono ?_
  rintro e w' ⟨rfl,rfl⟩
  exact⟨_,rfl,qev hP A hM _⟩
section
variable {n₀ : Nat}{τ : Nat->Tag}{W:World}{bw:Nat}{uo:List Tw}{K t:Nat}{x:Tw}
end
section
variable {nodes:List Node}{q p tq:Node}{nm:Bs}{ks kt:List Node}{i at_:Nat}
theorem Mv.wkl(M:Mv nodes q p tq nm ks i kt at_)(aQ aR:Value){Ws:List Wk}{cnt:Int}(H:WkL nodes Ws cnt):WkL (nodes.map (gM q p tq nm i aQ at_ aR)) (Ws.map (mvW q.key (tq.key++[nm]))) cnt:=by
 refine⟨fun y hy=>?_,fun y hy=>?_⟩<;>obtain⟨x,hx,rfl⟩:=xrq.1 hy
 ·obtain⟨n,hn,e1,e2⟩:=H.leaf x hx;obtain⟨g1,g2,g3,_⟩:=M.g aQ aR n hn
  exact⟨_,xrj hn,by rw[g1,e1];rfl,g3.trans e2⟩
 ·exact H.num x hx
theorem Mv.sinv(M:Mv nodes q p tq nm ks i kt at_){Ws:List Wk}{cnt st:Int}(H:WkL nodes Ws cnt)(I:SInv ⟨Ws,st,[]⟩):SInv ⟨Ws.map (mvW q.key (tq.key++[nm])),st,[]⟩:=by
 have H':=M.wkl (.slice none 0 0) (.slice none 0 0) H;have T':=M.tree (.slice none 0 0) (.slice none 0 0)
 refine⟨⟨⟨fun y hy=>?_,fun y hy=>?_,by simpa using I.wks.wks.len⟩,?_,fun y hy=>?_,?_⟩,I.st0,H'.anti T'⟩
 ·obtain⟨n,hn,e1,_⟩:=H'.leaf y hy;rw[<-e1];exact T'.ok n hn
 ·obtain⟨x,hx,rfl⟩:=xrq.1 hy
  exact I.wks.wks.num x hx
 ·show((Ws.map (mvW q.key (tq.key++[nm]))).map (·.num)).Nodup
  rw[List.map_map];exact I.wks.nums
 ·obtain⟨x,hx,rfl⟩:=xrq.1 hy
  exact I.wks.st x hx
 ·show(((Ws.map (mvW q.key (tq.key++[nm]))).filter fun x=>decide (0<x.st)).map (·.st)).Nodup
  rw[List.filter_map,List.map_map];exact I.wks.sts
end
def qh1 (x:Tw)(s s2:Bs):Out :=
 match findKey x.nodes (qac s),findKey x.nodes (qac s2) with
 |some q,some tq=>if qdt x.nodes s s2≠0 then x.same (qdt x.nodes s s2)
  else if brkE (x.L.map (mvE q.key (tq.key++[qad q.key]))) (x.Ws.map (mvW q.key (tq.key++[qad q.key])))≠0 then x.same (brkE (x.L.map (mvE q.key (tq.key++[qad q.key]))) (x.Ws.map (mvW q.key (tq.key++[qad q.key]))))
  else qjv (x.L.map (mvE q.key (tq.key++[qad q.key]))) x.cnt (qal (x.L.map (mvE q.key (tq.key++[qad q.key]))) ⟨x.Ws.map (mvW q.key (tq.key++[qad q.key])),x.st,[]⟩)
 |_,_=>x.same (qdt x.nodes s s2)
theorem qmz{x:Tw}{s:Bs}(h:qdt x.nodes s s2≠0):qh1 x s s2=x.same (qdt x.nodes s s2):=by
 unfold qh1
 split
 ·rw[if_pos h]
 ·rfl
theorem qi7{W:World}{bt:Nat}(s s2:ByteArray){M:World->Prop}{F:Value->World->Prop}
  (AQ:Calls prog 57 #[.pointer (some ⟨bt,0,none⟩),.string s,.string s2] W fun e w'=>e=.returned (.int .i64 er)/\M w')
  (qA:∀W1,M W1->Calls prog 51 #[.pointer (some ⟨bt,0,none⟩),.int .i64 er] W1 fun e w'=>∃ev,e=.returned (.tuple #[ev,.int .i64 er])/\F ev w') :
  Calls prog 30 #[.pointer (some ⟨bt,0,none⟩),.string s,.string s2] W fun e w'=>∃ev,e=.returned (.tuple #[ev,.int .i64 er])/\F ev w':=by
 go_enter func30,ntmps30
 go_wp2_with (first
  |(go_at_call 57;refine AQ.mono ?_;rintro e w1 ⟨rfl,hM⟩)
  |(go_at_call 51;refine(qA _ hM).mono ?_;rintro e w2 ⟨ev,rfl,hF⟩))
 exact xrn (v:=.tuple #[ev,.int .i64 er]) (by simp[results,results30,go_sem]) rfl ⟨ev,rfl,hF⟩
theorem qtn{τ : Nat->Tag}{t K:Nat}{W:World}{x:Tw}(A:qf9 K x){w':World}(hE:aE.map Node.ent=x.nodes.map Node.ent)(hS:∀n∈x.nodes,∃n'∈aE,n'.blk=n.blk/\n'.key=n.key/\n'.leaf=n.leaf)(hM:PMid τ t W x.bt aE x.last x.vw x.va x.ws x.as_ w')(err:Int):POut τ t W x.bt (x.same err) (.slice none 0 0) w':=by
 obtain⟨τ',m1,m2,m3,m4⟩:=hM
 refine⟨τ',aE,x.vw,x.va,x.ws,x.as_,m1,m2,?_,?_,?_,xrk _ _ _ _,(fun b hb=>by cases hb),m4⟩
 ·show qa2 τ' t w' x.bt _ x.cnt x.vw x.va x.ws x.as_
  rw[A.cnt];exact m3
 ·show _=x.L
  rw[hE,A.L]
 ·refine⟨m3.pr.tree,A.com.rel.qlp (fun n hn=>by obtain⟨n',h1,h2,h3,_⟩:=hS n hn;exact⟨n',h1,h2,h3⟩),A.com.inv,⟨fun y hy=>?_,A.com.wkl.num⟩,A.com.cnt0⟩
  obtain⟨n,hn,e1,e2⟩:=A.com.wkl.leaf y hy;obtain⟨n',h1,h2,h3,h4⟩:=hS n hn
  exact⟨n',h1,h3.trans e1,h4.trans e2⟩
theorem q0s{τ : Nat->Tag}{t K:Nat}{W:World}{x:Tw}(hP:qa2 τ t W x.bt x.nodes x.last x.vw x.va x.ws x.as_)(A:qf9 K x)(s s2:ByteArray)(hs:s.size<=2000000)(dW:s2.size<=2000000):
  Calls prog 30 #[.pointer (some ⟨x.bt,0,none⟩),.string s,.string s2] W fun e w'=>∃ev,e=.returned (.tuple #[ev,.int .i64 (qh1 x (bl s) (bl s2)).err])/\POut τ t W x.bt (qh1 x (bl s) (bl s2)) ev w':=by
 have T:=hP.pr.tree
 by_cases he:qdt x.nodes (bl s) (bl s2)=0
 ·obtain⟨hv,dw,q,tq,hf,pM,h1,h2,h3,h4⟩:=qga he;obtain⟨hq,cT⟩:=qan hf;obtain⟨ht,db⟩:=qan pM;have jU:q.key≠[]:=by rw[cT];intro e;exact dw (qes e)
  obtain⟨p,ks,i,kt,at_,M⟩:=Mv.of T hq ht jU h1 h2 h3 h4;have I':=M.sinv A.com.wkl A.inv;have cg:=qxu hP A.com.rel s s2 hs dW he hf pM M I'.wks.wks rfl;rw[<-A.L]at cg;have ho:qh1 x (bl s) (bl s2)=if brkE (x.L.map (mvE q.key (tq.key++[qad q.key]))) (x.Ws.map (mvW q.key (tq.key++[qad q.key])))≠0 then x.same (brkE (x.L.map (mvE q.key (tq.key++[qad q.key]))) (x.Ws.map (mvW q.key (tq.key++[qad q.key])))) else qjv (x.L.map (mvE q.key (tq.key++[qad q.key]))) x.cnt (qal (x.L.map (mvE q.key (tq.key++[qad q.key]))) ⟨x.Ws.map (mvW q.key (tq.key++[qad q.key])),x.st,[]⟩):=by
   unfold qh1;simp only[hf,pM];rw[if_neg (by simpa using he)]
  by_cases h5:brkE (x.L.map (mvE q.key (tq.key++[qad q.key]))) (x.Ws.map (mvW q.key (tq.key++[qad q.key])))=0
  ·rw[if_neg (by simpa using h5)]at ho;rw[ho]
   refine qi7 (M:=fun w'=>∃aQ aR,PMid τ t W x.bt (x.nodes.map (gM q p tq (qad q.key) i aQ at_ aR)) x.last x.vw x.va (x.ws.map (mvP q.key (tq.key++[qad q.key]))) (x.as_.map (mvP q.key (tq.key++[qad q.key]))) w') s s2 (cg.mono fun e w' h=>?_) (fun W1 hM=>?_)
   ·obtain⟨h6,h7,_⟩:=h;rw[h5]at h6
    exact⟨h6,h7 h5⟩
   ·obtain⟨aQ,aR,hM⟩:=hM;obtain⟨τ1,_,_,g3,_⟩:=id hM;obtain⟨r1,_,aa⟩:=g3.bk;have hR:=A.com.rel.qod q.key (tq.key++[qad q.key]) aa.lf;have hL:=M.wkl aQ aR A.com.wkl;rw[A.cnt]at hL
    have:=qhd hM hR I' hL (by rw[<-A.cnt];exact A.com.cnt0)
    rw[<-A.cnt,M.ents,<- A.L]at this
    exact this
  ·rw[if_pos h5]at ho;rw[ho]
   refine qi7 (M:=fun w'=>∃aE,aE.map Node.ent=x.nodes.map Node.ent/\(∀n∈x.nodes,∃n'∈aE,n'.blk=n.blk/\n'.key=n.key/\n'.leaf=n.leaf)/\PMid τ t W x.bt aE x.last x.vw x.va x.ws x.as_ w') s s2 (cg.mono fun e w' h=>⟨h.1,by have h6:=h.2.2 h5;rw[A.L]at h6;exact h6⟩) (fun W1 hM=>?_)
   obtain⟨aE,e1,e2,hM⟩:=hM
   refine(qcp (w:=W1) (bt:=x.bt) h5).mono ?_
   rintro e w' ⟨rfl,rfl⟩
   exact⟨_,rfl,qtn A e1 e2 hM _⟩
 ·rw[qmz he];obtain⟨r,eT,hb⟩:=hP.bk;obtain⟨hr,a_⟩:=qbp T eT
  refine qi7 (M:=fun w'=>Below W.heap.size W w') s s2 (qxt s s2 he (qfm T hP.pr.qdk hb hr a_ s s2 hs dW)) (fun W1 hM=>?_)
  refine(qcp (w:=W1) (bt:=x.bt) he).mono ?_
  rintro e w' ⟨rfl,rfl⟩
  exact⟨_,rfl,qev hP A hM _⟩
theorem qis{nodes:List Node}(T:Tree nodes)(s s2:Bs):qqc (nodes.map Node.ent) s s2=qdt nodes s s2:=by
 unfold qqc qdt errF errP
 cases h1:qar s
 ·simp[h1]
 cases h2:qar s2
 ·simp[h1,h2]
 by_cases h3:s=[]
 ·subst h3;simp[h1,h2]
 rw[qb4,qb4]
 cases h4:findKey nodes (qac s) with
 |none=>simp[h1,h2,h3]
 |some q =>
  cases h5:findKey nodes (qac s2) with
  |none=>simp[h1,h2,h3]
  |some tq =>
   obtain⟨hq,cT⟩:=qan h4;obtain⟨ht,db⟩:=qan h5;have pV:=(T.ok q hq).1;have uc:=(T.ok tq ht).1;have e1:inB s2 s=q.key.isPrefixOf tq.key:=by
    rw[show s2=qaa tq.key by rw[db,qfh],show s=qaa q.key by rw[cT,qfh],Bool.eq_iff_iff,qe1 uc pV,xrw]
   have e2:((nodes.map Node.ent).any fun e=>decide (4<(mvK q.key (tq.key++[qad q.key]) e.key).length))=ql9 nodes q tq:=by
    unfold ql9;rw[List.any_map,List.all_filter,List.not_all_eq_any_not,Bool.eq_iff_iff,xs0,xs0]
    refine exists_congr fun n=>and_congr_right fun hn=>?_
    have hl:=(T.ok n hn).2;simp only[Function.comp,okD]
    show decide (4<(mvK q.key (tq.key++[qad q.key]) n.key).length)=true↔_
    by_cases c:q.key <+: n.key
    ·have c2:=c.length_le;rw[qc0 c,xrw.2 c]
     simp
     omega
    ·rw[qbe c,Bool.eq_false_iff.2 (fun e=>c (xrw.1 e))]
     simp
     omega
   rw[<-cT,<- db,e1,qb4,e2]
   have:tq.ent.leaf=tq.leaf:=rfl
   simp[h1,h2,h3,this]
section
variable {w:World}{br g cap:Nat}{L:List Ent}{ao:Option Addr}{cW:Nat}{Ws:List Wk}{cnt st:Int}
end
section
variable {n₀ : Nat}{τ : Nat->Tag}{W:World}{bw:Nat}{uo:List Tw}{K t:Nat}{x:Tw}
end
def tw0 (bt nd br rr:Nat):Tw:=⟨bt,[qjj nd],0,.slice none 0 0,.slice none 0 0,[],[],br,rr,1,[⟨[],false,0,0,0,0⟩],none,0,[],0,0⟩
theorem qug(bt nd br rr K:Nat):qf9 K (tw0 bt nd br rr):=by
 refine⟨rfl,rfl,⟨qzt nd,⟨rfl,⟨[],rfl,List.Perm.refl _,List.Pairwise.nil⟩,fun p hp=>(by cases hp)⟩,⟨⟨⟨fun x hx=>(by cases hx),fun x hx=>(by cases hx),by simp[tw0]⟩,by simp[tw0],fun x hx=>(by cases hx),by simp[tw0]⟩,by simp[tw0],fun x hx=>(by cases hx)⟩,⟨fun x hx=>(by cases hx),fun x hx=>(by cases hx)⟩,by simp[tw0]⟩,by simp[tw0],by simp[tw0];omega⟩
structure KS where
 L:List Ent
 Ws:List Wk
 cnt:Int
 st:Int
def KS.same(k:KS)(err:Int):Out:=⟨err,k.L,k.Ws,k.cnt,k.st,[]⟩
def KS.done(L:List Ent)(Ws:List Wk)(cnt st:Int):Out:=qjv L cnt (qal L ⟨Ws,st,[]⟩)
def Out.ks(o:Out):KS:=⟨o.L,o.Ws,o.cnt,o.st⟩
def KS.make(k:KS)(s:Bs)(leaf:Bool)(a b c d:Int):Out :=
 if errE k.L s (qao a b&&qao c d)≠0 then k.same (errE k.L s (qao a b&&qao c d)) else KS.done (k.L++[⟨qac s,leaf,a,b,c,d⟩]) k.Ws k.cnt k.st
def KS.qbk(k:KS)(s:Bs)(a b:Int):Out :=
 if errS k.L k.Ws s (qao a b)≠0 then k.same (errS k.L k.Ws s (qao a b)) else KS.done k.L (k.Ws++[qe4 k.cnt s a b]) (k.cnt+1) k.st
def KS.finish(k:KS)(m:Int):Out :=
 match k.Ws.findIdx? (fun y=>y.num == m) with
 |some i=>KS.done k.L (k.Ws.take i++k.Ws.drop (i+1)) k.cnt k.st
 |none=>k.same 12
def KS.qbb(k:KS)(s:Bs)(a b c d:Int):Out :=
 if qnt k.L s (qao a b&&qao c d) a b≠0 then k.same (qnt k.L s (qao a b&&qao c d) a b) else
 if qct (setL k.L (qac s) a b c d) k.Ws=true then k.same 11 else KS.done (setL k.L (qac s) a b c d) k.Ws k.cnt k.st
def KS.remove(k:KS)(s:Bs):Out :=
 if errF k.L s≠0 then k.same (errF k.L s) else if ql6 k.L k.Ws s=true then k.same 9 else
 if qct (delL k.L (qac s)) k.Ws=true then k.same 11 else KS.done (delL k.L (qac s)) k.Ws k.cnt k.st
def mvTo (s s2:Bs):List Bs:=qac s2++[qad (qac s)]
def KS.move(k:KS)(s s2:Bs):Out :=
 if qqc k.L s s2≠0 then k.same (qqc k.L s s2) else
 if qct (k.L.map (mvE (qac s) (mvTo s s2))) (k.Ws.map (mvW (qac s) (mvTo s s2)))=true then k.same 11 else
 KS.done (k.L.map (mvE (qac s) (mvTo s s2))) (k.Ws.map (mvW (qac s) (mvTo s s2))) k.cnt k.st
def KT (P:Nat->Prop)(W:World)(bt:Nat)(k:KS):Prop :=
 ∃(τ : Nat->Tag) (nodes:List Node) (vw va:Value) (ws as_:List Pw),(∀b,P b↔b<W.heap.size/\(τ b).prog 0) /\
  qa2 τ 0 W bt nodes k.cnt vw va ws as_/\nodes.map Node.ent=k.L/\Comm nodes k.Ws k.cnt k.st ws as_
def KOut (P:Nat->Prop)(W:World)(bt:Nat)(o:Out)(ev:Value)(w':World):Prop :=
 ∃P',KT P' w' bt o.ks/\(∀b,b<W.heap.size->(P' b↔P b))/\w'.ownsRow 0 60 2 ev o.evs.length (qam o.evs) /\
  (∀b,ev.ownBlock=some b->W.heap.size<=b/\¬P' b)/\Keep P W w'
section
variable {P:Nat->Prop}{W w':World}{bt:Nat}{k:KS}
theorem KT.lt(h:KT P W bt k):∀b,P b->b<W.heap.size:=fun b hb=>by
 obtain⟨τ,nodes,vw,va,ws,as_,h1,_⟩:=h
 exact((h1 b).1 hb).1
theorem KT.keep(h:KT P W bt k)(hk:Keep T W w')(hT:∀b,P b->¬T b):KT P w' bt k:=by
 obtain⟨τ,nodes,vw,va,ws,as_,h1,h2,h3,h4⟩:=h;have hz:=hk.size
 refine⟨qcq τ W.heap.size,nodes,vw,va,ws,as_,fun b=>?_,h2.keep hk (fun b hb ht hp=>hT b ((h1 b).2 ⟨hb,hp⟩) ht) (fun b hb=>qa5 hb),h3,h4⟩
 rw[h1]
 by_cases hb:b<W.heap.size
 ·rw[qa5 hb];exact⟨fun e=>⟨by omega,e.2⟩,fun e=>⟨hb,e.2⟩⟩
 ·rw[qeo (by omega)]
  exact⟨fun e=>absurd e.1 hb,fun e=>e.2.elim⟩
theorem KT.below(h:KT P W bt k)(hb:Below W.heap.size W w'):KT P w' bt k:=h.keep (T:=fun _=>False) (Keep.new hb) (fun _ _ h=>h)
theorem qdw{τ : Nat->Tag}(h1:∀b,P b↔b<W.heap.size/\(τ b).prog 0){o:Out}(h:POut τ 0 W bt o ev w'):KOut P W bt o ev w':=by
 obtain⟨τ',ar,aI,aO,an,aL,m1,m2,m3,m4,m5,m6,m7,m8⟩:=h;have hz:=m8.size
 refine⟨fun b=>b<w'.heap.size/\(τ' b).prog 0,⟨τ',ar,aI,aO,an,aL,fun _=>Iff.rfl,m3,m4,m5⟩,fun b hb=>?_,m6,fun b hb=>⟨(m7 b hb).1,fun e=>?_⟩,m8.qkm (fun b hb e=>(h1 b).2 e)⟩
 ·rw[h1];show b<w'.heap.size/\(τ' b).prog 0↔_;rw[m1 b hb]
  exact⟨fun e=>⟨hb,e.2⟩,fun e=>⟨by omega,e.2⟩⟩
 ·have:=e.2
  rw[(m7 b hb).2]at this
  exact this
def KS.tw(k:KS)(bt:Nat)(nodes:List Node)(vw va:Value)(ws as_:List Pw):Tw :=
 {bt:=bt,nodes:=nodes,last:=k.cnt,vw:=vw,va:=va,ws:=ws,as_:=as_,br:=0,g:=0,cap:=0,L:=k.L,ao:=none,cW:=0,Ws:=k.Ws,cnt:=k.cnt,st:=k.st}
theorem KT.tw(h:KT P W bt k):∃(τ : Nat->Tag) (x:Tw) (K:Nat),(∀b,P b↔b<W.heap.size/\(τ b).prog 0)/\qa2 τ 0 W x.bt x.nodes x.last x.vw x.va x.ws x.as_/\qf9 K x/\x.bt=bt/\x.L=k.L/\x.Ws=k.Ws/\x.cnt=k.cnt/\x.st=k.st:=by
 obtain⟨τ,nodes,vw,va,ws,as_,h1,h2,h3,h4⟩:=h
 refine⟨τ,k.tw bt nodes vw va ws as_,k.cnt.toNat+k.st.toNat,h1,h2,⟨h3.symm,rfl,h4,?_,?_⟩,rfl,rfl,rfl,rfl,rfl⟩
 ·show k.cnt<=_
  have:=h4.cnt0
  omega
 ·show k.st<=_
  omega
end
end Go.Proofs.YtphclnolomgjoaaGreatDoor
