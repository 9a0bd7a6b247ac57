import Derived.Test.YtphclnolomgjoaaGreatDoorE02
import Derived.Deep.RegionHeld3
import Derived.Deep.CutRange
set_option linter.unusedVariables false
set_option linter.unusedSimpArgs false
set_option maxRecDepth 100000
set_option maxHeartbeats 4000000
namespace Go.Proofs.YtphclnolomgjoaaGreatDoor
open Tryz
open Go.RowKit
variable {W W' w:World}{ao:Option Addr}{B M br cW cap i n size:Nat}{k:List Bs}{f l v3:Value}{a d st zo:Int}{e:TypeId}{xs:List Value}{T:Nat->Prop}
theorem bz(s:ByteArray)(a:s.size<=2000000)(b:UB (bl s)=false)(w:World):
  Calls prog 113 #[vG s] w fun e w'=>e=vT #[v0_,.bool false]/\Bw w w':=by
 refine(bA s a w).mono ?_
 rintro e w' ⟨(⟨_,rfl⟩|⟨h,_⟩),hb⟩
 ·exact⟨rfl,hb⟩
 ·rw[b]at h;cases h
structure NRow (W:World) (l:List Bs) (ao:Option Addr) (cap:Nat):Prop where
 le:l.length<=cap
 mx:cap<=maxLen
 cell:∀(j:Nat) (x:Bs),l[j]?=some x->∃g,ao=some (vA g 0)/\g<W.heap.size/\W.cell? (vA g j)=some (vG (sb x))
theorem NRow.below{l:List Bs}(h:NRow W l ao cap)(hb:Bw W W'):NRow W' l ao cap :=
 ⟨h.le,h.mx,fun j x c=>by
  obtain⟨g,b,a,h3⟩:=h.cell j x c
  exact⟨g,b,VJ a hb.size,(hb.cell (p:=vA g j) a).trans h3⟩⟩
theorem Yx(s:ByteArray)(n:s.size<=2000000)(o:UB (bl s)=true)(w:World):
  Calls prog 113 #[vG s] w fun e w'=>(∃ao cap,e=vR (.tuple #[.slice ao (s4 (bl s)).length cap,.bool true])/\NRow w' (s4 (bl s)) ao cap)/\Bw w w':=by
 refine(bA s n w).mono ?_
 rintro e w' ⟨(⟨h,_⟩|⟨_,sl,rfl,d⟩),hb⟩
 ·rw[o]at h;cases h
 ·refine⟨?_,hb⟩
  obtain⟨t,m⟩:=d
  rcases m with ⟨rfl,f⟩|⟨g,cap,p,rfl,r,c,i,k,h3,l⟩
  ·exact⟨none,0,by rw[f],o_,Nat.zero_le _,fun j x a=>by rw[List.getElem?_eq_none o_]at a;cases a⟩
  ·refine⟨_,_,rfl,i,k,fun j x a=>⟨g,rfl,(Vz.1 c).1,?_⟩⟩
   unfold World.cell?;simp only[c];have b:(strs (s4 (bl s)))[j]?=some (vG (sb x)):=by simp[strs,a]
   rw[<-l]at b;have q:=(Uy.1 a).1;rw[List.getElem?_take_of_lt o_]at b
   simpa using b
theorem pv{L:List zx}(f:∀a∈L,∀b∈L,a.zb=b.zb->a=b){x:zx}(e:x∈L)(d:x.zb=k):UW L k=some x:=by
 unfold UW
 cases h:L.find? fun n=>n.zb == k with
 |none=>have:=List.find?_eq_none.1 h x e;simp[d]at this
 |some m =>
  have g:=List.mem_of_find?_eq_some h;have c:=List.find?_some h
  simp at c
  rw[f m g x e (by rw[c,d])]
theorem pt{L:List zx}(h:∀n∈L,n.zb≠k):UW L k=none:=by
 unfold UW;rw[List.find?_eq_none];intro n a;simpa using h n a
def AtK (L:List zx)(k:List Bs)(e:Ending):Prop :=
 (UW L k=none/\e=vR (vI (-1)))\/(∃(i:Nat) (x:zx),UW L k=some x/\L[i]?=some x/\e=vR (vI i))
theorem eA{g:Nat}{L:List zx}(h:VV w br g cap L f l v3)(E:ym L)(n:∀a∈L,∀b∈L,a.zb=b.zb->a=b)(s:ByteArray)(k:List Bs)(q:UL k=true)(j:bl s=kN k):
  Calls prog 114 #[vP br,vG s] w fun e w'=>AtK L k e/\w'=w:=by
 refine(eX h (h_ E.len) s).mono ?_
 rintro e w' ⟨o,rfl⟩
 refine⟨?_,rfl⟩
 rcases o with ⟨i,x,rfl,c,p⟩|⟨m,rfl⟩
 ·have d:=Uq c
  exact .inr ⟨i,x,pv n d (Y0 (E.ok x d).1 q (by rw[p,j])),c,rfl⟩
 ·exact .inl ⟨pt (fun x c e=>m x c (by rw[e,j])),rfl⟩
def Yj (f l v3:Value)(br g:Nat)(L:List zx)(x:zx)(err:Int)(w:World)(e:Ending)(w':World):Prop :=
 e=vR (vI err)/\((err≠0/\Bw w w')\/(err=0/\∃g' cap',VV w' br g' cap' (L++[x]) f l v3/\zd (fun b=>b=br\/b=g) w w'/\(g'=g\/w.heap.size<=g')))
theorem lI:(prog.info? 163).map (fun i=>(i.size,i.bytes))=some (6,56):=k_
theorem aH{g cap:Nat}{L:List zx}(s:ByteArray)(D:s.size<=2000000)(zj:Bool)(a b c d:Int)(x:zx)(err:Int)
  (K:(UB (bl s)=false/\err=1)\/(UB (bl s)=true/\bl s=[]/\err=2)\/(UB (bl s)=true/\bl s≠[]/\(Uu a b=false\/Uu c d=false)/\err=6) \/
   (UB (bl s)=true/\bl s≠[]/\Uu a b=true/\Uu c d=true/\4<(s4 (bl s)).length/\(s4 (bl s)).length<=3000000/\err=8)) :
  Calls prog 108 #[vP br,.agg #[vG s,.bool zj,vI a,vI b,vI c,vI d]] w (Yj f l v3 br g L x err w):=by
 have m:=fun W=>W9 a b W
 have n:=fun W=>W9 c d W
 have b0:zg (w.alloc (.cells #[vG s,.bool zj,vI a,vI b,vI c,vI d] 163)) w.heap.size 163 _:=zg.new w 163 _
 rcases K with ⟨A,rfl⟩|⟨A,B,rfl⟩|⟨A,B,C,rfl⟩|⟨A,B,J,C,hd,I,rfl⟩
 ·have t:=fun W=>bz s D A W
  go_enter func108,ntmps108
  go_wp2_with (first
   |(go_at_call 113;refine(t _).mono ?_;rintro e u ⟨rfl,i⟩;have q:Bw w u:=s5 cl i;have b1:=b0.below i s_;have p:=b1.cell)
   |(go_at_call 115;refine(m _).mono ?_;clear m;rintro e v ⟨rfl,j⟩;have r:Bw w v:=s5 q j;have b2:=b1.below j (i_ i.size);have z:=b2.cell;clear p)
   |(go_at_call 115;refine(n _).mono ?_;rintro e y ⟨rfl,k⟩;have o:Bw w y:=s5 r k))
  all_goals go_ret
  all_goals exact⟨rfl,.inl ⟨d_,o⟩⟩
 ·have t:=fun W=>Yx s D A W
  have O:s=⟨#[]⟩:=Wy (B.trans XP.symm);subst O
  go_enter func108,ntmps108
  go_wp2_with (first
   |(go_at_call 113;refine(t _).mono ?_;rintro e u ⟨⟨ao,cp,rfl,E⟩,i⟩;have q:Bw w u:=s5 cl i;have b1:=b0.below i s_;have p:=b1.cell)
   |(go_at_call 115;refine(m _).mono ?_;clear m;rintro e v ⟨rfl,j⟩;have r:Bw w v:=s5 q j;have b2:=b1.below j (i_ i.size);have z:=b2.cell;clear p)
   |(go_at_call 115;refine(n _).mono ?_;clear n;rintro e y ⟨rfl,k⟩;have o:Bw w y:=s5 r k;have b3:=b2.below k (by have:=i.size;have:=j.size;simp at *;omega);have G:=b3.cell;clear z))
  all_goals go_ret
  all_goals exact⟨rfl,.inl ⟨d_,o⟩⟩
 ·have t:=fun W=>Yx s D A W
  have hq:(s.toList.isEmpty)=false:=by rw[V4];simpa using B
  cases F:Uu a b
  ·rw[F]at m;clear C
   go_enter func108,ntmps108
   go_wp2_with (first
   |(go_at_call 113;refine(t _).mono ?_;rintro e u ⟨⟨ao,cp,rfl,E⟩,i⟩;have q:Bw w u:=s5 cl i;have b1:=b0.below i s_;have p:=b1.cell)
   |(go_at_call 115;refine(m _).mono ?_;clear m;rintro e v ⟨rfl,j⟩;have r:Bw w v:=s5 q j;have b2:=b1.below j (i_ i.size);have z:=b2.cell;clear p)
   |(go_at_call 115;refine(n _).mono ?_;clear n;rintro e y ⟨rfl,k⟩;have o:Bw w y:=s5 r k;have b3:=b2.below k (by have:=i.size;have:=j.size;simp at *;omega);have G:=b3.cell;clear z))
   all_goals go_ret
   all_goals exact⟨rfl,.inl ⟨d_,o⟩⟩
  ·have M:Uu c d=false:=by rcases C with h|h;rw[F]at h;cases h;exact h
   rw[F]at m;rw[M]at n;clear C
   go_enter func108,ntmps108
   go_wp2_with (first
   |(go_at_call 113;refine(t _).mono ?_;rintro e u ⟨⟨ao,cp,rfl,E⟩,i⟩;have q:Bw w u:=s5 cl i;have b1:=b0.below i s_;have p:=b1.cell)
   |(go_at_call 115;refine(m _).mono ?_;clear m;rintro e v ⟨rfl,j⟩;have r:Bw w v:=s5 q j;have b2:=b1.below j (i_ i.size);have z:=b2.cell;clear p)
   |(go_at_call 115;refine(n _).mono ?_;clear n;rintro e y ⟨rfl,k⟩;have o:Bw w y:=s5 r k;have b3:=b2.below k (by have:=i.size;have:=j.size;simp at *;omega);have G:=b3.cell;clear z))
   all_goals go_ret
   all_goals exact⟨rfl,.inl ⟨d_,o⟩⟩
 ·have t:=fun W=>Yx s D A W
  have hq:(s.toList.isEmpty)=false:=by rw[V4];simpa using B
  rw[J]at m;rw[C]at n;obtain⟨N,H⟩:∃N,N=(s4 (bl s)).length:=⟨_,rfl⟩;rw[<-H]at t hd I;clear H
  go_enter func108,ntmps108
  go_wp2_with (first
   |(go_at_call 113;refine(t _).mono ?_;rintro e u ⟨⟨ao,cp,rfl,E⟩,i⟩;have q:Bw w u:=s5 cl i;have b1:=b0.below i s_;have p:=b1.cell)
   |(go_at_call 115;refine(m _).mono ?_;clear m;rintro e v ⟨rfl,j⟩;have r:Bw w v:=s5 q j;have b2:=b1.below j (i_ i.size);have z:=b2.cell;clear p)
   |(go_at_call 115;refine(n _).mono ?_;clear n;rintro e y ⟨rfl,k⟩;have o:Bw w y:=s5 r k;have b3:=b2.below k (by have:=i.size;have:=j.size;simp at *;omega);have G:=b3.cell;clear z))
  all_goals go_ret
  all_goals exact⟨rfl,.inl ⟨d_,o⟩⟩
structure Wk where
 zm:Int
 zb:List Bs
 d0:Int
 d1:Int
 st:Int
variable {Ws:List Wk}{x y:Wk}
def VQ (x:Wk):List Value:=[vI x.zm,vG (sb (kN x.zb)),vI x.d0,vI x.d1,vI x.st]
def UG (L:List Wk):List Value:=L.flatMap VQ
theorem aK(L:List Wk):(UG L).length=L.length*5:=by
 induction L with
 |nil=>rfl
 |cons a l b=>simp[UG,VQ]at b ⊢;omega
theorem gk:∀(L:List Wk) (i j:Nat) (e:Wk),L[i]?=some e->j<5->(UG L)[i*5+j]?=(VQ e)[j]?
 | [],i,j,e,h,_=>by simp at h
 |a::l,0,j,e,h,b=>by
  simp at h;subst h
  simp only[UG,List.flatMap_cons,Nat.zero_mul,Nat.zero_add];rw[Wu (by simp[VQ];omega)]
 |a::l,i+1,j,e,h,b=>by
  have c:=gk l i j e (j_ h) b;simp only[UG,List.flatMap_cons]at c ⊢;rw[Wp (by simp[VQ];omega)];rw[show(i+1)*5+j-(VQ a).length=i*5+j by simp[VQ];omega]
  exact c
structure xm (Ws:List Wk):Prop where
 ok:∀x∈Ws,UL x.zb=true/\x.zb.length<=4
 zm:∀x∈Ws,(0<=x.d0/\x.d0<=1000)/\(0<=x.d1/\x.d1<=1000)
 len:Ws.length<=24
theorem xm.small(h:xm Ws)(a:x∈Ws):(sb (kN x.zb)).size<=2000000:=by
 rw[Wq];have:=XY _ (h.ok x a).1;have:=(h.ok x a).2;omega
structure zy (W:World) (br g cap:Nat) (L:List zx) (ao:Option Addr) (cW:Nat) (Ws:List Wk) (zo st:Int):Prop where
 ref:VV W br g cap L (.slice ao Ws.length cW) (vI zo) (vI st)
 yc:W.ownsRow 0 178 5 (.slice ao Ws.length cW) Ws.length (UG Ws)
 ne1:∀b,(Value.slice ao Ws.length cW).ownBlock=some b->b≠br/\b≠g
theorem zy.below{g:Nat}{L:List zx}(h:zy W br g cap L ao cW Ws zo st)(hb:Bw W W'):zy W' br g cap L ao cW Ws zo st :=
 ⟨h.ref.below hb,s8 (T:=fun _=>False) h.yc (zd.new hb) (fun _ _ h=>h),h.ne1⟩
theorem zy.wk{g:Nat}{L:List zx}(h:zy W br g cap L ao cW Ws zo st)(d:Ws[i]?=some x):
  ∃b,ao=some (vA b 0)/\b<W.heap.size/\Ws.length<=cW/\cW<=maxLen/\W.cell? (vA b (i*5))=some (vI x.zm)/\W.cell? (vA b (i*5+1))=some (vG (sb (kN x.zb)))/\W.cell? (vA b (i*5+2))=some (vI x.d0)/\W.cell? (vA b (i*5+3))=some (vI x.d1)/\W.cell? (vA b (i*5+4))=some (vI x.st):=by
 obtain⟨b,c,a,k,l⟩:=VX h.yc (Nat.lt_of_le_of_lt (Nat.zero_le _) (Uy.1 d).1);injection a with e _ f;subst e f;have zb:∀j v,j<5->(VQ x)[j]?=some v->W.cell? (vA b (i*5+j))=some v:=fun j v m a=>by
  have:=h.yc.cells (g:=b) rfl (i*5+j) v (by rw[gk Ws i j x d m];exact a)
  rwa[Addr.add_lit,Nat.zero_add]at this
 exact⟨b,rfl,UI h.yc rfl,k,l,zb 0 _ o_ rfl,zb 1 _ o_ rfl,zb 2 _ o_ rfl,zb 3 _ o_ rfl,zb 4 _ o_ rfl⟩
def Ut (Ws:List Wk)(s:Bs):List Wk:=Ws.filter fun x=>decide (0<x.st)&&xc (kN x.zb) s
def yf (l:List Wk):Int:=(l.map (·.d0)).sum
def yg (l:List Wk):Int:=(l.map (·.d1)).sum
theorem eI(l:List Wk)(h:∀n∈l,0<=n.d0/\n.d0<=1000):0<=yf l/\yf l<=1000*l.length:=by
 induction l with
 |nil=>simp[yf]
 |cons a l d =>
  have b:=d (fun n c=>h n (V3 _ c));have e:=h a (List.mem_cons_self ..)
  simp[yf]at b ⊢;omega
theorem eJ(l:List Wk)(h:∀n∈l,0<=n.d1/\n.d1<=1000):0<=yg l/\yg l<=1000*l.length:=by
 induction l with
 |nil=>simp[yg]
 |cons a l d =>
  have b:=d (fun n c=>h n (V3 _ c));have e:=h a (List.mem_cons_self ..)
  simp[yg]at b ⊢;omega
theorem b6(h:xm Ws)(s:Bs):(0<=yf (Ut Ws s)/\yf (Ut Ws s)<=24000)/\(0<=yg (Ut Ws s)/\yg (Ut Ws s)<=24000):=by
 have b:∀e∈Ut Ws s,e∈Ws:=fun e a=>(Vu.1 a).1
 have c:(Ut Ws s).length<=24:=Nat.le_trans (Wt _ _) h.len;have s0:=eI (Ut Ws s) (fun e a=>(h.zm e (b e a)).1);have d:=eJ (Ut Ws s) (fun e a=>(h.zm e (b e a)).2)
 omega
theorem Z1{g:Nat}{L:List zx}(h:zy w br g cap L ao cW Ws zo st)(E:xm Ws)(s:ByteArray)(aa:s.size<=2000000):
  Calls prog 204 #[vP br,vG s] w fun e w'=>e=vR (.agg #[vI (yf (Ut Ws (bl s))),vI (yg (Ut Ws (bl s)))])/\Bw w w':=by
 have T:=h.ref.zl.lt;obtain⟨n,t⟩:∃n,n=Ws.length:=⟨_,rfl⟩;have U:=E.len;rw[<-t]at U;have y:Hid (n=Ws.length):=t;have V:w.cell? (vA br 1)=some (.slice ao n cW):=by have:=h.ref.zl.cell 1;rw[t];simpa using this
 clear t
 go_enter func204,ntmps204
 go_wp2
 go_loopw [6] (fun i wr=>∃k:Nat,k<=n/\i=vI k/\Bw w wr/\zg wr w.heap.size 35 #[vI 0,vI 0]/\zg wr (w.heap.size+1) 35 #[vI (yf (Ut (Ws.take k) (bl s))),vI (yg (Ut (Ws.take k) (bl s)))])
  (fun i _=>n-(intOf i).toNat)
 case atStart=>exact⟨0,Nat.zero_le _,rfl,cl,s6,by refine zg.new' ?_;simp⟩
 case round =>
  obtain⟨k,ma,rfl,l,c,a⟩:=hrel;have Z:=h.below l;have la:=(l.cell (p:=vA br 1) T).trans V
  by_cases S:k<n
  ·have A:k<Ws.length:=by rw[<-y.out];exact S
   obtain⟨x,q⟩:∃x,Ws[k]?=some x:=⟨_,Ur A⟩;have R:Hid (Ws.take (k+1)=Ws.take k++[x]):=by
    rw[VT A];rw[Ur A]at q;cases q;rfl
   have B:=Uq q;obtain⟨b,H,ha,ja,na,oa,pa,qa,ra,sa⟩:=Z.wk q;have ea:b<w.heap.size:=UI h.yc (by rw[H];rfl);subst H;have d:=fun W=>X3 (sb (kN x.zb)) s W (E.small B) aa
   rw[UO]at d;have ua:=(E.zm x B).1;have Aa:=(E.zm x B).2;have z:∀e∈Ut (Ws.take k) (bl s),e∈Ws:=fun e o=>List.mem_of_mem_take (Vu.1 o).1
   have s0:=eI (Ut (Ws.take k) (bl s)) (fun e o=>(E.zm e (z e o)).1);have da:=eJ (Ut (Ws.take k) (bl s)) (fun e o=>(E.zm e (z e o)).2);have ga:(Ut (Ws.take k) (bl s)).length<=24:=by
    refine Nat.le_trans (Wt _ _) ?_
    simp;have:=y.out;omega
   have M:Ut (Ws.take (k+1)) (bl s)=Ut (Ws.take k) (bl s)++(if decide (0<x.st)&&xc (kN x.zb) (bl s) then [x] else []):=by
    unfold Ut;rw[R.out,List.filter_append];simp[VW]
   have u:Hid (Ut (Ws.take (k+1)) (bl s)=Ut (Ws.take k) (bl s)++(if decide (0<x.st)&&xc (kN x.zb) (bl s) then [x] else [])):=M;clear M;clear q;obtain⟨f,C⟩:∃f,f=yf (Ut (Ws.take k) (bl s)):=⟨_,rfl⟩;obtain⟨j,D⟩:∃j,j=yg (Ut (Ws.take k) (bl s)):=⟨_,rfl⟩;rw[<-C]at a s0;rw[<-D]at a da;have G:Hid (f=yf (Ut (Ws.take k) (bl s))):=C;have F:Hid (j=yg (Ut (Ws.take k) (bl s))):=D;clear C D z;have d0:=a.cell 0;have d1:=a.cell 1;have X:=a.frozen 0;have Y:=a.frozen 1;simp only[s7]at d0 d1;have ia:¬(b=w.heap.size+1):=fun e=>by omega
   have ta:¬(br=w.heap.size+1):=fun e=>by omega
   by_cases J:0<x.st
   ·cases r:xc (kN x.zb) (bl s)
    ·rw[r]at d
     go_wp2_with (go_at_call 121;refine(d _).mono ?_;rintro e O ⟨rfl,m⟩;subst m)
     refine⟨⟨k+1,o_,by go_num,l,c,?_⟩,by simp[intOf];omega⟩
     have:=u.out;rw[r]at this;rw[this];have:=G.out;have:=F.out;subst f j;simpa using a
    ·rw[r]at d
     go_wp2_with (go_at_call 121;refine(d _).mono ?_;rintro e O ⟨rfl,m⟩;subst m)
     clear d
     go_region
     go_wp2
     go_region
     go_wp2
     refine⟨⟨k+1,o_,by go_num,((l.setCell s_ _).setCell s_ _).drew.drew,((c.other _ _ s_).other _ _ s_).drew.drew,?_⟩,by simp[intOf];omega⟩
     have ba:=(((a.set 0 (vI (f+x.d0))).set 1 (vI (j+x.d1)))).drew.drew;have I:=u.out;rw[r]at I;rw[I];have ka:=G.out;have h3:=F.out;subst f j
     simpa [yf,yg,J] using ba
   ·have P:(decide (0<x.st)&&xc (kN x.zb) (bl s))=false:=by rw[decide_eq_false J];rfl
    have Q:Hid ((decide (0<x.st)&&xc (kN x.zb) (bl s))=false):=P;clear P
    go_wp2_with (go_at_call 121;refine(d _).mono ?_;rintro e O ⟨rfl,m⟩;subst m)
    refine⟨⟨k+1,o_,by go_num,l,c,?_⟩,by simp[intOf];omega⟩
    have:=u.out;rw[Q.out]at this;rw[this];have:=G.out;have:=F.out;subst f j;simpa using a
  ·have d0:=a.cell 0;have d1:=a.cell 1;have c0:=c.cell 0;have c1:=c.cell 1;have X:=c.frozen 0;have Y:=c.frozen 1;simp only[s7]at d0 d1 c0 c1
   go_wp2
   have N:Ws.take k=Ws:=Vl (by rw[<-y.out];omega);have ca:=(c.set 0 (vI (yf (Ut (Ws.take k) (bl s))))).set 1 (vI (yg (Ut (Ws.take k) (bl s))));have K:=ca.cell;rw[N]at K
   refine Us (v:=.agg #[vI (yf (Ut Ws (bl s))),vI (yg (Ut Ws (bl s)))]) ?_ rfl ⟨rfl,cl⟩
   rw[N]
   simp[results,results204,go_sem,K]
def sh0 (L:List zx)(Ws:List Wk)(x:zx)(d:Int):Bool:=decide (yf (Ut Ws (kN x.zb))+d>xj (Uz L (kN x.zb))+x.b0)
def sh1 (L:List zx)(Ws:List Wk)(x:zx)(d:Int):Bool:=decide (yg (Ut Ws (kN x.zb))+d>xi (Uz L (kN x.zb))+x.b1)
theorem Yl{L:List zx}(E:ym L)(s:Bs):(0<=xj (Uz L s)/\xj (Uz L s)<=20000)/\(0<=xi (Uz L s)/\xi (Uz L s)<=20000):=by
 have b:∀e∈Uz L s,e∈L:=fun e a=>(Vu.1 a).1
 have c:(Uz L s).length<=20:=Nat.le_trans (Wt _ _) E.len;have s0:=eL (Uz L s) (fun e a=>(E.zm e (b e a)).1);have d:=eM (Uz L s) (fun e a=>(E.zm e (b e a)).2)
 omega
theorem dq{g:Nat}{L:List zx}(h:zy w br g cap L ao cW Ws zo st)(E:ym L)(z:xm Ws){x:zx}(m:L[i]?=some x)(Da:(0<=x.b0/\x.b0<=1000)/\(0<=x.b1/\x.b1<=1000))(a b:Int)(Za:0<=a/\a<=1000)(hb:0<=b/\b<=1000):
  Calls prog 202 #[vP br,vI i,.agg #[vI a,vI b]] w fun e w'=>e=vR (.agg #[.bool (sh0 L Ws x a),.bool (sh1 L Ws x b)])/\Bw w w':=by
 have B:=Uq m;have la:=(Uy.1 m).1;have ia:=E.len;have ha:=h.ref.zl.lt;have A:=(h.ref.row.lt g rfl).2;have ja:=h.ref.WQ;have C:=fun W (l:Bw w W)=>Zr (h.ref.below l) E (sb (kN x.zb)) (E.small B)
 have F:=fun W (l:Bw w W)=>Z1 (h.below l) z (sb (kN x.zb)) (E.small B)
 have ua:=Yl E (kN x.zb);have Aa:=b6 z (kN x.zb);have c0:=h.ref.zl.cell 0;have G:=h.ref.zq m (j:=0) (v:=vG (sb (kN x.zb))) rfl;have Q:=h.ref.zq m (j:=4) (v:=vI x.b0) rfl;have R:=h.ref.zq m (j:=5) (v:=vI x.b1) rfl;simp only[s7,Nat.add_zero]at c0 G;rw[UO]at C F;unfold sh0 sh1;obtain⟨n,O⟩:∃n,n=L.length:=⟨_,rfl⟩;rw[<-O]at c0 la ia ja;generalize xj (Uz L (kN x.zb))=n0 at *;generalize xi (Uz L (kN x.zb))=n1 at *;generalize yf (Ut Ws (kN x.zb))=d at *;generalize yg (Ut Ws (kN x.zb))=f at *;generalize x.b0=s at *;generalize x.b1=t at *;generalize sb (kN x.zb)=M at *;have I:Hid (∀W,Bw w W->W.cell? (vA br 0)=some (vS g n cap)/\W.cell? (vA g (i*6))=some (vG M)/\W.cell? (vA g (i*6+4))=some (vI s)/\W.cell? (vA g (i*6+5))=some (vI t)):=by
  suffices na:(∀W,Bw w W->W.cell? (vA br 0)=some (vS g n cap)/\W.cell? (vA g (i*6))=some (vG M)/\W.cell? (vA g (i*6+4))=some (vI s)/\W.cell? (vA g (i*6+5))=some (vI t)) from na
  exact fun W l=>⟨(l.cell (p:=vA br 0) ha).trans c0,(l.cell (p:=vA g (i*6)) A).trans G,(l.cell (p:=vA g (i*6+4)) A).trans Q,(l.cell (p:=vA g (i*6+5)) A).trans R⟩
 clear O h E z B m Q R
 go_enter func202,ntmps202
 go_wp2_with fail
 refine(C _ cl).mono ?_
 rintro e k ⟨rfl,u⟩
 have K:Bw w k:=s5 cl u;have P:zg k w.heap.size 35 #[vI a,vI b]:=zg.below s6 u f_;have N:zg k (w.heap.size+1) 242 #[.bool false,.bool false]:=zg.below (zg.new' s_) u f_;clear u;have Fa:=P.lt;have ta:=N.lt;have Ra:=K.size;obtain⟨c1,ba,ca,da⟩:=I.out k K;clear G c0 ca da C;have Ka:¬(br=k.heap.size):=o_;have La:¬(g=k.heap.size):=o_;have Ga:br<k.heap.size:=o_;have Ha:g<k.heap.size:=o_
 go_wp2_with fail
 refine(F _ cl).mono ?_
 rintro e c ⟨rfl,q⟩
 have ga:Bw w c:=s5 cl q;have oa:zg c w.heap.size 35 #[vI a,vI b]:=zg.below s6 q f_;have ka:zg c (w.heap.size+1) 242 #[.bool false,.bool false]:=zg.below s6 q f_;have ma:zg c k.heap.size 35 #[vI n0,vI n1]:=zg.below (zg.new' rfl) q f_;clear q F P N c1 ba;have Ea:=oa.lt;have Ba:=ka.lt;have Ca:=ma.lt;have Sa:=ga.size
 go_wp2_with fail
 have y:zg ((c.alloc (.cells #[vI d,vI f] 35)).alloc (.cells #[.bool false,.bool false] 242)) w.heap.size 35 #[vI a,vI b]:=s6;have o:zg ((c.alloc (.cells #[vI d,vI f] 35)).alloc (.cells #[.bool false,.bool false] 242)) (w.heap.size+1) 242 #[.bool false,.bool false]:=s6;have D:zg ((c.alloc (.cells #[vI d,vI f] 35)).alloc (.cells #[.bool false,.bool false] 242)) k.heap.size 35 #[vI n0,vI n1]:=s6;have H:zg ((c.alloc (.cells #[vI d,vI f] 35)).alloc (.cells #[.bool false,.bool false] 242)) c.heap.size 35 #[vI d,vI f]:=s6;have r:zg ((c.alloc (.cells #[vI d,vI f] 35)).alloc (.cells #[.bool false,.bool false] 242)) (c.heap.size+1) 242 #[.bool false,.bool false]:=zg.new' s_;have J:Bw w ((c.alloc (.cells #[vI d,vI f] 35)).alloc (.cells #[.bool false,.bool false] 242)):=cl;generalize ((c.alloc (.cells #[vI d,vI f] 35)).alloc (.cells #[.bool false,.bool false] 242))=ea at y o D H r J ⊢;obtain⟨Qa,_,Ia,Ja⟩:=I.out ea J;have ra:=y.cell 0;have sa:=y.cell 1;have S:=o.cell 0;have T:=o.cell 1;have Ma:=o.frozen 0;have Na:=o.frozen 1;have U:=D.cell 0;have V:=D.cell 1;have X:=H.cell 0;have Y:=H.cell 1;have Z:=r.cell 0;have aa:=r.cell 1;have Oa:=r.frozen 0;have Pa:=r.frozen 1;simp only[s7]at ra sa S T U V X Y Z aa;have Ta:¬(br=c.heap.size+1):=o_;have Ua:¬(g=c.heap.size+1):=o_;have Va:¬(w.heap.size=c.heap.size+1):=o_;have Wa:¬(w.heap.size+1=c.heap.size+1):=o_;have Xa:¬(k.heap.size=c.heap.size+1):=o_;have Ya:¬(c.heap.size=c.heap.size+1):=o_
 refine wp_loop_rounds 3 ?_
 rw[rounds_succ]
 go_wp2_with fail
 go_region
 go_wp2_with fail
 rw[rounds_succ]
 go_wp2_with fail
 go_region
 go_wp2_with fail
 rw[rounds_succ]
 go_wp2_with fail
 have qa:=(((((o.other (vA (c.heap.size+1) 0) (.bool (decide (n0+s<d+a))) t_).other (vA (c.heap.size+1) 1) (.bool (decide (n1+t<f+b))) t_).set 0 (.bool (decide (n0+s<d+a)))).set 1 (.bool (decide (n1+t<f+b)))).drew).drew;have pa:=qa.cell
 refine Us (v:=.agg #[.bool (decide (n0+s<d+a)),.bool (decide (n1+t<f+b))]) ?_ rfl ⟨rfl,cl⟩
 simp[results,results202,go_sem,pa]
def xb (L:List zx)(Ws:List Wk)(x:Wk):Bool:=decide (yf (Ut Ws (kN x.zb))+x.d0<=xj (Uz L (kN x.zb)))&&decide (yg (Ut Ws (kN x.zb))+x.d1<=xi (Uz L (kN x.zb)))
structure WkOK (x:Wk):Prop where
 ok:UL x.zb=true/\x.zb.length<=4
 n0:0<=x.d0/\x.d0<=1000
 n1:0<=x.d1/\x.d1<=1000
theorem WkOK.small(h:WkOK x):(sb (kN x.zb)).size<=2000000:=by
 rw[Wq];have:=XY _ h.ok.1;have:=h.ok.2;omega
theorem xm.zl(h:xm Ws)(a:x∈Ws):WkOK x:=⟨h.ok x a,(h.zm x a).1,(h.zm x a).2⟩
theorem k0{g:Nat}{L:List zx}(h:zy w br g cap L ao cW Ws zo st)(E:ym L)(k:xm Ws)(x:Wk)(c:WkOK x):
  Calls prog 199 #[vP br,.agg #[vI x.zm,vG (sb (kN x.zb)),vI x.d0,vI x.d1,vI x.st]] w fun e w'=>e=vR (.bool (xb L Ws x))/\Bw w w':=by
 have O:=h.ref.zl.lt;have m:=fun W (o:Bw w W)=>Zr (h.ref.below o) E (sb (kN x.zb)) c.small
 have n:=fun W (o:Bw w W)=>Z1 (h.below o) k (sb (kN x.zb)) c.small
 have H:=Yl E (kN x.zb);have I:=b6 k (kN x.zb);have J:=c.n0;have U:=c.n1;rw[UO]at m n;unfold xb;generalize xj (Uz L (kN x.zb))=n0 at *;generalize xi (Uz L (kN x.zb))=n1 at *;generalize yf (Ut Ws (kN x.zb))=v at *;generalize yg (Ut Ws (kN x.zb))=D at *;generalize sb (kN x.zb)=r at *;generalize x.d0=a at *;generalize x.d1=b at *;generalize x.zm=zm at *;generalize x.st=sx at *;clear c h E k
 go_enter func199,ntmps199
 go_wp2_with fail
 refine(m _ cl).mono ?_
 rintro e d ⟨rfl,l⟩
 have z:Bw w d:=s5 cl l;have q:zg d w.heap.size 178 #[vI zm,vG r,vI a,vI b,vI sx]:=zg.below s6 l f_;clear l m;have M:=q.lt;have P:=z.size;have s:=q.cell 1;simp only[s7]at s;have R:¬(w.heap.size=d.heap.size):=o_
 go_wp2_with fail
 refine(n _ cl).mono ?_
 rintro e f ⟨rfl,i⟩
 have A:Bw w f:=s5 cl i;have j:zg f w.heap.size 178 #[vI zm,vG r,vI a,vI b,vI sx]:=zg.below s6 i f_;have p:zg f d.heap.size 35 #[vI n0,vI n1]:=zg.below (zg.new' rfl) i f_;clear i n q s;have N:=j.lt;have K:=p.lt;have Q:=A.size;have F:=j.cell 2;have G:=j.cell 3;have B:=p.cell 0;have C:=p.cell 1;simp only[s7]at F G B C;have S:¬(w.heap.size=f.heap.size):=o_;have T:¬(d.heap.size=f.heap.size):=o_
 by_cases t:v+a<=n0
 ·by_cases u:D+b<=n1
  ·go_wp2
   go_ret
   exact⟨by simp[t,u],cl⟩
  ·go_wp2
   go_ret
   exact⟨by simp[t,u],cl⟩
 ·go_wp2
  go_ret
  exact⟨by have y:¬(v+a<=n0):=o_;simp[y],cl⟩
def jv (Ws:List Wk)(n:Int)(e:Ending):Prop :=
 (∃(i:Nat) (x:Wk),e=vR (vI i)/\Ws[i]?=some x/\x.zm=n)\/((∀x∈Ws,x.zm≠n)/\e=vR (vI (-1)))
theorem dm{g:Nat}{L:List zx}(h:zy w br g cap L ao cW Ws zo st)(t:xm Ws)(m:Int):
  Calls prog 116 #[vP br,vI m] w fun e w'=>jv Ws m e/\w'=w:=by
 have z:=t.len;obtain⟨n,f⟩:∃n,n=Ws.length:=⟨_,rfl⟩;have H:w.cell? (vA br 1)=some (.slice ao n cW):=by have:=h.ref.zl.cell 1;rw[f];simpa using this
 rw[<-f]at z;have o:Hid (n=Ws.length):=f;clear f
 go_enter func116,ntmps116
 go_wp2
 go_loop [5] (fun i=>∃k:Nat,k<=n/\i=vI k/\∀j x,j<k->Ws[j]?=some x->x.zm≠m) (fun i=>n-(intOf i).toNat)
 case atStart=>exact⟨0,Nat.zero_le _,rfl,fun j x d=>by omega⟩
 case round =>
  obtain⟨k,I,rfl,q⟩:=hrel;have s:Hid (∀j x,j<k->Ws[j]?=some x->x.zm≠m):=q;clear q
  by_cases v:k<n
  ·obtain⟨x,c⟩:∃x,Ws[k]?=some x:=⟨_,Ur (by rw[<-o.out];exact v)⟩;have p:Hid (Ws[k]?=some x):=c;obtain⟨b,A,F,G,J,K,B,C,D,E⟩:=h.wk c;subst A;clear c B C D E
   by_cases a:x.zm=m
   ·have hb:(x.zm == m)=true:=by simp[a]
    have u:Hid (x.zm=m):=a;clear a
    go_wp2
    go_ret
    exact⟨.inl ⟨k,x,rfl,p.out,u.out⟩,rfl⟩
   ·have hb:(x.zm == m)=false:=by simp[a]
    go_wp2
    go_round
    case rel =>
     refine⟨k+1,o_,by go_num,fun j y d l=>?_⟩
     rcases Nat.lt_or_ge j k with r|r
     ·exact s.out j y r l
     ·obtain rfl:j=k:=o_;rw[p.out]at l;cases l;exact a
    case measure=>simp[intOf];omega
  ·go_wp2
   go_ret
   refine⟨.inr ⟨fun x c=>?_,rfl⟩,rfl⟩
   obtain⟨j,d⟩:=Vh c
   exact s.out j x (by have:=(Uy.1 d).1;have:=o.out;omega) d
def wb (L:List zx):Prop:=∀e∈L,(0<=e.b0/\e.b0<=1000)/\(0<=e.b1/\e.b1<=1000)
def wj (L:List zx)(Ws:List Wk)(x:Wk)(e:zx):Bool:=xc (kN x.zb) (kN e.zb)&&(sh0 L Ws e x.d0||sh1 L Ws e x.d1)
def Vm (L:List zx)(Ws:List Wk)(x:Wk):Bool:=L.all fun e=>!wj L Ws x e
theorem iE{g:Nat}{L:List zx}(h:zy w br g cap L ao cW Ws zo st)(E:ym L)(K:wb L)(M:xm Ws)(x:Wk)(l:WkOK x):
  Calls prog 159 #[vP br,.agg #[vI x.zm,vG (sb (kN x.zb)),vI x.d0,vI x.d1,vI x.st]] w fun e w'=>e=vR (.bool (Vm L Ws x))/\Bw w w':=by
 have R:=h.ref.zl.lt;have T:=(h.ref.row.lt g rfl).2;have S:=E.len;have U:=h.ref.WQ;obtain⟨n,q⟩:∃n,n=L.length:=⟨_,rfl⟩;have V:w.cell? (vA br 0)=some (vS g n cap):=by have:=h.ref.zl.cell 0;rw[q];simpa using this
 rw[<-q]at S U;have z:Hid (n=L.length):=q;have da:=l.n0;have la:=l.n1;clear q
 go_enter func159,ntmps159
 go_wp2
 go_loopw [5] (fun i wr=>∃k:Nat,k<=n/\i=vI k/\Bw w wr/\zg wr w.heap.size 178 #[vI x.zm,vG (sb (kN x.zb)),vI x.d0,vI x.d1,vI x.st]/\(L.take k).all (fun e=>!wj L Ws x e)=true) (fun i _=>n-(intOf i).toNat)
 case atStart=>exact⟨0,Nat.zero_le _,rfl,cl,s6,s_⟩
 case round =>
  obtain⟨k,ia,rfl,a,d,B⟩:=hrel;have Z:=(a.cell (p:=vA br 0) R).trans V;have t:Hid ((L.take k).all (fun e=>!wj L Ws x e)=true):=B;clear B
  by_cases Q:k<n
  ·have r:k<L.length:=by rw[<-z.out];exact Q
   obtain⟨y,b⟩:∃y,L[k]?=some y:=⟨_,Ur r⟩;have A:Hid (L.take (k+1)=L.take k++[y]):=by
    rw[VT r];rw[Ur r]at b;cases b;rfl
   have m:=Uq b;have N:Hid (y∈L):=m;have u:=(h.ref.below a).zq b (j:=0) (v:=vG (sb (kN y.zb))) rfl;simp only[Nat.add_zero]at u;have f:=fun W=>X3 (sb (kN x.zb)) (sb (kN y.zb)) W l.small (E.small m)
   rw[UO,UO]at f;have o:=fun W (Y:Bw w W)=>dq (h.below Y) E M b (K y m) x.d0 x.d1 l.n0 l.n1
   have c:Hid (wj L Ws x y=(xc (kN x.zb) (kN y.zb)&&(sh0 L Ws y x.d0||sh1 L Ws y x.d1))):=rfl;have D:Hid ((L.take (k+1)).all (fun e=>!wj L Ws x e)=!wj L Ws x y):=by
    show _=_
    rw[A.out,List.all_append,t.out];simp
   have C:Hid (wj L Ws x y=true->Vm L Ws x=false):=by
    intro ht;unfold Vm;rw[List.all_eq_false]
    exact⟨y,N.out,by simp[ht]⟩
   clear b m A t;generalize sh0 L Ws y x.d0=s0 at o c;generalize sh1 L Ws y x.d1=ca at o c;generalize xc (kN x.zb) (kN y.zb)=O at f c;generalize sb (kN y.zb)=ja at u f;generalize wj L Ws x y=ka at c D C;have ga:g<wr.heap.size:=VJ T a.size;have H:=d.cell 1;have I:=d.cell 2;have J:=d.cell 3;have ba:=d.lt;simp only[s7]at H I J
   go_wp2_with fail
   go_quiet ((go_at_call 121;exact Calls.quiet_of_same (f _)))
   go_wp2_with fail
   refine(o _ (UT a _)).mono ?_
   rintro e G ⟨rfl,s⟩
   have P:Bw w G:=s5 (UT a _) s;have aa:zg G w.heap.size 178 #[vI x.zm,vG (sb (kN x.zb)),vI x.d0,vI x.d1,vI x.st]:=zg.below s6 s ba;have ha:=P.size;have ea:=aa.lt;clear s o f Z u H I J d
   cases O<;>cases s0<;>cases ca
   all_goals go_wp2
   all_goals first
    |exact⟨⟨k+1,o_,by go_num,cl,s6,by rw[D.out,c.out];rfl⟩,by simp[intOf];omega⟩
    |(go_ret;exact⟨VP (C.out (by rw[c.out];rfl)).symm,cl⟩)
  ·go_wp2
   go_ret
   have X:L.take k=L:=Vl (h_ z.out);have F:=t.out;rw[X]at F
   exact⟨VP (show true=Vm L Ws x from F.symm),a⟩
def Xv (Ws:List Wk)(i:Nat)(x:Wk):Bool:=(x.st == 0)&&(Ws.take i).all fun y=>decide (0<y.st)||decide (y.zb≠x.zb)
def tv (Ws:List Wk)(i:Nat):Bool:=match Ws[i]? with|some x=>Xv Ws i x|none=>false
def Xt (Ws:List Wk)(k:Nat):List Nat:=(List.range k).filter (tv Ws)
def WI (Ws:List Wk):List Nat:=Xt Ws Ws.length
def wa (l:List Nat):List Value:=l.map fun (i:Nat)=>vI i
theorem rl{sl:Value}(h:W.ownsRow B e size sl n xs)(hb:Bw W W'):W'.ownsRow B e size sl n xs:=by
 obtain⟨f,a⟩:=h
 refine⟨f,?_⟩
 rcases a with a|⟨g',cap',c,rfl,d,b,rest⟩
 ·exact .inl a
 ·exact .inr ⟨g',cap',c,rfl,d,(hb.block g' (Vz.1 b).1).trans b,rest⟩
theorem nv(Ws:List Wk)(k:Nat):Xt Ws (k+1)=Xt Ws k++(if tv Ws k then [k] else []):=by
 unfold Xt;rw[List.range_succ,List.filter_append]
 simp[VW]
theorem dk(Ws:List Wk)(k:Nat):(Xt Ws k).length<=k:=by
 unfold Xt
 exact Nat.le_trans (Wt _ _) s_
theorem tD(E:xm Ws)(a:x∈Ws)(b:y∈Ws):((sb (kN x.zb)).toList == (sb (kN y.zb)).toList)=decide (x.zb=y.zb):=by
 rw[YM,UO,UO]
 by_cases h:x.zb=y.zb
 ·simp[h]
 ·have:kN x.zb≠kN y.zb:=fun e=>h (Y0 (E.ok x a).1 (E.ok y b).1 e)
  simp[h,this]
theorem h7{g:Nat}{L:List zx}(h:zy w br g cap L ao cW Ws zo st)(R:xm Ws):
  Calls prog 158 #[vP br] w fun e w'=>∃sl,e=vR sl/\w'.ownsRow w.heap.size 3 1 sl (WI Ws).length (wa (WI Ws))/\Bw w w':=by
 have U:=h.ref.zl.lt;have ia:=R.len;obtain⟨n,D⟩:∃n,n=Ws.length:=⟨_,rfl⟩;have V:w.cell? (vA br 1)=some (.slice ao n cW):=by have:=h.ref.zl.cell 1;rw[D];simpa using this
 rw[<-D]at ia;have I:Hid (n=Ws.length):=D;clear D;have O:Hid (∀W,Bw w W->∀(i:Nat) x,Ws[i]?=some x->∃b,ao=some (vA b 0)/\b<w.heap.size/\W.cell? (vA b (i*5+1))=some (vG (sb (kN x.zb)))/\W.cell? (vA b (i*5+4))=some (vI x.st)):=by
  show ∀W,Bw w W->∀(i:Nat) x,Ws[i]?=some x->∃b,ao=some (vA b 0)/\b<w.heap.size/\W.cell? (vA b (i*5+1))=some (vG (sb (kN x.zb)))/\W.cell? (vA b (i*5+4))=some (vI x.st)
  intro W Y i x r;obtain⟨b,N,u,h3,X,Pa,F,Qa,Ra,G⟩:=h.wk r
  exact⟨b,N,u,(Y.cell (p:=vA b (i*5+1)) u).trans F,(Y.cell (p:=vA b (i*5+4)) u).trans G⟩
 have Ca:=inf3;obtain⟨i0,z,ta,Aa,na,da,aa⟩:=Ca
 go_enter func158,ntmps158
 go_wp2
 go_loopw [3,4] (fun sl i wr=>∃k:Nat,k<=n/\i=vI k/\Bw w wr/\wr.ownsRow w.heap.size 3 1 sl (Xt Ws k).length (wa (Xt Ws k))) (fun _ i _=>n-(intOf i).toNat)
 case atStart=>exact⟨0,Nat.zero_le _,rfl,Below.refl _ _,Vx _ _ _ _⟩
 case round =>
  obtain⟨k,Ja,rfl,q,M⟩:=hrel;have Z:=(q.cell (p:=vA br 1) U).trans V
  by_cases ga:k<n
  ·have ea:k<Ws.length:=by rw[<-I.out];exact ga
   obtain⟨x,r⟩:∃x,Ws[k]?=some x:=⟨_,Ur ea⟩;have K:Hid (Ws[k]?=some x):=r;obtain⟨b,la,hb,F,G⟩:=O.out _ q k x r;subst la;have Oa:n<=cW/\cW<=maxLen:=by
    obtain⟨_,_,_,h3,X,_⟩:=h.wk r
    exact⟨by rw[I.out];exact h3,X⟩
   clear r
   go_wp2
   obtain⟨a,Q⟩:∃a,a=wr:=⟨_,rfl⟩;rw[<-Q]at q M Z F G ⊢;clear Q
   go_loopw [5,6] (fun f j Ba=>∃m:Nat,m<=k/\j=vI m/\f=.bool ((x.st == 0)&&(Ws.take m).all fun y=>decide (0<y.st)||decide (y.zb≠x.zb))/\Bw a Ba) (fun _ j _=>k-(intOf j).toNat)
   case atStart=>exact⟨0,Nat.zero_le _,rfl,s_,Below.refl _ _⟩
   case round =>
    obtain⟨m,Ka,rfl,rfl,o⟩:=hrel;have d:=q.trans (o.mono q.size);have Fa:=(d.cell (p:=vA br 1) U).trans V
    by_cases hml:m<k
    ·have P:m<Ws.length:=o_;obtain⟨y,v⟩:∃y,Ws[m]?=some y:=⟨_,Ur P⟩;obtain⟨Ha,s,_,sa,Sa⟩:=O.out _ d m y v;obtain⟨Ga,A,_,ua,r4⟩:=O.out _ d k x K.out;injection s with s;injection s with s;subst s;injection A with A;injection A with A;subst A;have ba:Hid (Ws.take (m+1)=Ws.take m++[y]):=by
      show _=_
      rw[VT P];rw[Ur P]at v;cases v;rfl
     have B:=tD R (Uq v) (Uq K.out);have c:Hid (((x.st == 0)&&(Ws.take (m+1)).all fun y=>decide (0<y.st)||decide (y.zb≠x.zb))=(((x.st == 0)&&(Ws.take m).all fun y=>decide (0<y.st)||decide (y.zb≠x.zb))&&(decide (0<y.st)||decide (y.zb≠x.zb)))):=by
      show _=_
      rw[ba.out,List.all_append];simp[Bool.and_assoc]
     clear v Z F G r4;generalize ((x.st == 0)&&(Ws.take m).all fun y=>decide (0<y.st)||decide (y.zb≠x.zb))=C at c ⊢;have Da:(m:Int)<n:=o_;have Ea:(0:Int)<=m:=o_;have Na:(k:Int)<n:=o_;have Ia:(0:Int)<=k:=o_;have ca:(decide (y.zb≠x.zb))=!decide (y.zb=x.zb):=s_;rw[ca]at c;generalize decide (y.zb=x.zb)=same at c B;generalize sb (kN y.zb)=ra at sa B;generalize sb (kN x.zb)=qa at ua B;have S:∀(f:Bool) (W:World),Bw a W->f=((x.st == 0)&&(Ws.take (m+1)).all fun y=>decide (0<y.st)||decide (y.zb≠x.zb))->(∃l:Nat,l<=k/\vI ((m:Int)+1)=vI l/\Value.bool f=Value.bool ((x.st == 0)&&(Ws.take l).all fun y=>decide (0<y.st)||decide (y.zb≠x.zb))/\Bw a W)/\k-(intOf (vI ((m:Int)+1))).toNat<k-(intOf (vI (m:Int))).toNat :=
      fun f W N u=>⟨⟨m+1,o_,by go_num,congrArg Value.bool u,N⟩,by simp[intOf];omega⟩
     have t:Hid (∀(f:Bool) (W:World),Bw a W->f=((x.st == 0)&&(Ws.take (m+1)).all fun y=>decide (0<y.st)||decide (y.zb≠x.zb))->(∃l:Nat,l<=k/\vI ((m:Int)+1)=vI l/\Value.bool f=Value.bool ((x.st == 0)&&(Ws.take l).all fun y=>decide (0<y.st)||decide (y.zb≠x.zb))/\Bw a W)/\k-(intOf (vI ((m:Int)+1))).toNat<k-(intOf (vI (m:Int))).toNat):=S;clear S
     by_cases T:0<y.st
     ·rw[decide_eq_true T]at c
      cases C
      ·go_wp2_with fail
       go_quiet (fail)
       go_wp2_with fail
       exact t.out _ _ (UT o _) (by rw[c.out];rfl)
      ·go_wp2_with fail
       go_quiet (fail)
       go_wp2_with fail
       exact t.out _ _ (UT o _) (by rw[c.out];rfl)
     ·rw[decide_eq_false T]at c
      cases C
      ·go_wp2_with fail
       go_quiet (fail)
       go_wp2_with fail
       exact t.out _ _ (UT o _) (by rw[c.out];rfl)
      ·have Ma:(ra.toList != qa.toList)=!same:=by simp[bne,B]
       cases same
       ·go_wp2_with fail
        go_quiet (fail)
        go_wp2_with fail
        exact t.out _ _ (UT o _) (by rw[c.out];rfl)
       ·go_wp2_with fail
        go_quiet (fail)
        go_wp2_with fail
        exact t.out _ _ (UT o _) (by rw[c.out];exact decide_eq_false o_)
    ·have ka:m=k:=o_;subst ka;have H:Hid (tv Ws m=((x.st == 0)&&(Ws.take m).all fun y=>decide (0<y.st)||decide (y.zb≠x.zb))):=by
      show _=_
      unfold tv;rw[K.out];rfl
     have J:Hid (Xt Ws (m+1)=Xt Ws m++(if tv Ws m then [m] else [])):=nv Ws m;have ha:=dk Ws m;generalize ((x.st == 0)&&(Ws.take m).all fun y=>decide (0<y.st)||decide (y.zb≠x.zb))=C at H ⊢;have E:=rl M o;generalize Xt Ws m=La at E J ha
     cases C
     ·go_wp2_with fail
      refine⟨⟨m+1,o_,by go_num,d,?_⟩,by simp[intOf];omega⟩
      rw[J.out,H.out];simpa using E
     ·go_wp2_with (at_builtin;refine wpList_append_own _ rfl _ _ 25 rfl w.heap.size 3 i0 z 1 8 underlying25 ta Aa na da aa d_ _ _ _ rfl (E.alloc _) (vA wr.heap.size 0) 1 1 [vI m] rfl rfl (cell_one_new _ _ _) (by simp[Value.oneCell']) (by unfold maxLen;omega) o_ (l_ d.size) ?_;intro Ta Ua ja pa _)
      refine⟨⟨m+1,o_,by go_num,(d.alloc d.size _).grown pa (l_ d.size) (fun j ma=>(E.lt j ma).1),?_⟩,by simp[intOf];omega⟩
      rw[J.out,H.out]
      simpa [wa] using ja
  ·go_wp2
   go_ret
   have oa:k=Ws.length:=by have:=I.out;omega
   subst oa
   exact⟨_,rfl,M,q⟩
theorem YJ{g:Nat}{L:List zx}(h:VV w br g cap L f l v3)(E:ym L)(j:∀a∈L,∀b∈L,a.zb=b.zb->a=b)(s:ByteArray)(k:List Bs)(n:UL k=true)(o:bl s=kN k){x:zx}(d:UW L k=some x):
  Calls prog 114 #[vP br,vG s] w fun e w'=>(∃i:Nat,e=vR (vI i)/\L[i]?=some x)/\w'=w:=by
 refine(eA h E j s k n o).mono ?_
 rintro e w' ⟨(⟨c,_⟩|⟨i,y,c,m,rfl⟩),rfl⟩
 ·rw[d]at c;cases c
 ·rw[d]at c;cases c;exact⟨⟨i,rfl,m⟩,rfl⟩
theorem Yk{g:Nat}{L:List zx}(h:VV w br g cap L f l v3)(E:ym L)(d:∀a∈L,∀b∈L,a.zb=b.zb->a=b)(s:ByteArray)(k:List Bs)(j:UL k=true)(m:bl s=kN k)(n:UW L k=none):
  Calls prog 114 #[vP br,vG s] w fun e w'=>e=vR (vI (-1))/\w'=w:=by
 refine(eA h E d s k j m).mono ?_
 rintro e w' ⟨(⟨_,rfl⟩|⟨i,y,c,o,rfl⟩),rfl⟩
 ·exact⟨rfl,rfl⟩
 ·rw[n]at c;cases c
theorem kW{g:Nat}{L:List zx}(h:VV w br g cap L f l v3)(E:ym L)(c:∀a∈L,∀b∈L,a.zb=b.zb->a=b)(s:ByteArray)(k:List Bs)(d:UL k=true)(j:bl s=kN k):
  Calls prog 114 #[vP br,vG s] w fun e w'=>(∃z:Int,e=vR (vI z))/\w'=w:=by
 refine(eA h E c s k d j).mono ?_
 rintro e w' ⟨(⟨_,rfl⟩|⟨i,y,m,n,rfl⟩),rfl⟩
 ·exact⟨⟨_,rfl⟩,rfl⟩
 ·exact⟨⟨_,rfl⟩,rfl⟩
theorem Z0(s:ByteArray)(d:s.size<=2000000)(f:UB (bl s)=true)(M:Nat)(c:(s4 (bl s)).length=M+1)(w:World):
  Calls prog 113 #[vG s] w fun e w'=>(∃b cap,e=vT #[vS b (M+1) cap,.bool true]/\M+1<=cap/\cap<=maxLen/\NRow w' (s4 (bl s)) (some (vA b 0)) cap)/\Bw w w':=by
 refine(Yx s d f w).mono ?_
 rintro e w' ⟨⟨ao,cap,rfl,a⟩,hb⟩
 obtain⟨x,g⟩:∃x,(s4 (bl s))[0]?=some x:=⟨_,Ur o_⟩;obtain⟨b,rfl,_,_⟩:=a.cell 0 x g
 have:=a.le
 exact⟨⟨b,cap,by rw[c],o_,a.mx,a⟩,hb⟩
theorem VV.ne{g:Nat}{L:List zx}(h:VV W br g cap L f l v3):br≠g:=fun e=>by
 obtain⟨m,i⟩:=h.row
 rcases i with ⟨c,_⟩|⟨g',cap',j,c,k,d,_⟩
 ·cases c
 ·injection c with a _ _;injection a with a;injection a with a;rw[<-a,<- e]at d;have b:=d.symm.trans h.zl;injection b with b;injection b with _ b _
  exact absurd b d_
structure Late (f l v3:Value) (w:World) (br g cap:Nat) (L:List zx) (s:ByteArray) (a b c d:Int):Prop where
 ref:VV w br g cap L f l v3
 ents:ym L
 inj:∀a∈L,∀b∈L,a.zb=b.zb->a=b
 small:s.size<=2000000
 valid:UB (bl s)=true
 ne:bl s≠[]
 fa:Uu a b=true
 fb:Uu c d=true
 deep:(s4 (bl s)).length<=4
theorem Late.nz{g:Nat}{L:List zx}{s:ByteArray}{b c:Int}(h:Late f l v3 w br g cap L s a b c d):∃M,M<=3/\(s4 (bl s)).length=M+1:=by
 have j:s4 (bl s)≠[]:=fun e=>h.ne (by rw[<-Wi (bl s),e];rfl)
 have hd:=h.deep
 cases i:s4 (bl s) with
 |nil=>exact absurd i j
 |cons x y=>rw[i]at hd;exact⟨y.length,by simp at hd;omega,s_⟩
theorem Late.kok{g:Nat}{L:List zx}{s:ByteArray}{b c:Int}(h:Late f l v3 w br g cap L s a b c d):UL (s4 (bl s))=true:=by rw[<-VY];exact h.valid
theorem Late.kod{g:Nat}{L:List zx}{s:ByteArray}{b c:Int}(h:Late f l v3 w br g cap L s a b c d):UL (s4 (bl s)).dropLast=true:=by
 have:=h.kok
 simp only[UL,List.all_eq_true]at this ⊢
 exact fun x e=>this x (List.dropLast_subset _ e)
theorem Late.join{g:Nat}{L:List zx}{s:ByteArray}{b c:Int}(h:Late f l v3 w br g cap L s a b c d)(n:(s4 (bl s)).length=M+1)(W:World)(k cp:Nat)(o:NRow W (s4 (bl s)) (some (vA k 0)) cp):
  Calls prog 122 #[vS k M cp] W fun e w'=>e=vR (vG (sb (kN (s4 (bl s)).dropLast)))/\w'=W:=by
 have hd:=h.deep
 have:=iW (some (vA k 0)) cp (s4 (bl s)).dropLast W t_ (fun x i=>by have:=(Yw (WO h.kod i)).2;omega) t_
  (fun j x i=>by
   have p:(s4 (bl s))[j]?=some x:=by
    rw[List.dropLast_eq_take,List.getElem?_take]at i
    split at i
    ·exact i
    ·cases i
   obtain⟨g',m,_,h3⟩:=o.cell j x p
   exact⟨g',m,h3⟩)
 rw[List.length_dropLast,n]at this
 exact this
theorem oW{g:Nat}{L:List zx}(s:ByteArray)(zj:Bool)(a b c d:Int)(x y:zx)(h:Late f l v3 w br g cap L s a b c d)(v:UW L (s4 (bl s))=some x):
  Calls prog 108 #[vP br,.agg #[vG s,.bool zj,vI a,vI b,vI c,vI d]] w (Yj f l v3 br g L y 4 w):=by
 have o:=fun W=>W9 a b W
 have p:=fun W=>W9 c d W
 have b0:zg (w.alloc (.cells #[vG s,.bool zj,vI a,vI b,vI c,vI d] 163)) w.heap.size 163 _:=zg.new w 163 _;have hq:(s.toList.isEmpty)=false:=by rw[V4];simpa using h.ne
 rw[h.fa]at o;rw[h.fb]at p;obtain⟨M,Z,q⟩:=h.nz;have K:=fun W=>Z0 s h.small h.valid M q W
 have P:=fun W u cp N=>h.join q W u cp N
 have t:=fun W (r:Bw w W)=>YJ (h.ref.below r) h.ents h.inj s (s4 (bl s)) h.kok (Wi (bl s)).symm v
 have F:=fun W (r:Bw w W)=>kW (h.ref.below r) h.ents h.inj (sb (kN (s4 (bl s)).dropLast)) (s4 (bl s)).dropLast h.kod (UO _)
 clear q v h
 go_enter func108,ntmps108
 go_wp2_with (first
  |(go_at_call 113;refine(K _).mono ?_;rintro e R ⟨⟨u,cp,rfl,U,V,D⟩,j⟩;have C:Bw w R:=s5 (by(repeat (first|(with_reducible exact Below.refl _ _)|(with_reducible assumption)|((with_reducible refine Below.setCell ?_ ?_ _);rotate_left;(focus (first|omega|(simp<;>omega))))|((with_reducible refine Below.alloc ?_ ?_ _);rotate_left;(focus (first|omega|(simp<;>omega))))|(with_reducible refine Below.drew ?_)|(with_reducible refine UT ?_ _)|(refine s5 ?_ (by with_reducible assumption))))) j;have b1:=b0.below j s_;have B:=b1.cell;have G:=D)
  |(go_at_call 115;refine(o _).mono ?_;clear o;rintro e S ⟨rfl,k⟩;have E:Bw w S:=s5 C k;have b2:=b1.below k (i_ j.size);have J:=b2.cell;clear B;have O:=G.below k)
  |(go_at_call 115;refine(p _).mono ?_;clear p;rintro e T ⟨rfl,n⟩;have m:Bw w T:=s5 E n;have b3:=b2.below n (by have:=j.size;have:=k.size;simp at *;omega);have Y:=b3.cell;clear J;have H:=O.below n)
  |(go_at_call 122;refine(P _ _ _ H).mono ?_;rintro e ca ⟨rfl,A⟩;subst A)
  |(go_at_call 114;refine(t _ m).mono ?_;clear t;rintro e aa ⟨⟨i,rfl,X⟩,I⟩;subst I)
  |(go_at_call 114;refine(F _ m).mono ?_;rintro e ba ⟨⟨z,rfl⟩,Q⟩;subst Q))
 all_goals go_ret
 all_goals exact⟨rfl,.inl ⟨d_,m⟩⟩
theorem qK{g:Nat}{L:List zx}(s:ByteArray)(zj:Bool)(a b c d:Int)(y:zx)(h:Late f l v3 w br g cap L s a b c d)(v:UW L (s4 (bl s))=none)(u:UW L (s4 (bl s)).dropLast=none):
  Calls prog 108 #[vP br,.agg #[vG s,.bool zj,vI a,vI b,vI c,vI d]] w (Yj f l v3 br g L y 3 w):=by
 have n:=fun W=>W9 a b W
 have o:=fun W=>W9 c d W
 have b0:zg (w.alloc (.cells #[vG s,.bool zj,vI a,vI b,vI c,vI d] 163)) w.heap.size 163 _:=zg.new w 163 _;have hq:(s.toList.isEmpty)=false:=by rw[V4];simpa using h.ne
 rw[h.fa]at n;rw[h.fb]at o;obtain⟨M,V,p⟩:=h.nz;have I:=fun W=>Z0 s h.small h.valid M p W
 have N:=fun W t cp J=>h.join p W t cp J
 have r:=fun W (q:Bw w W)=>Yk (h.ref.below q) h.ents h.inj s (s4 (bl s)) h.kok (Wi (bl s)).symm v
 have D:=fun W (q:Bw w W)=>Yk (h.ref.below q) h.ents h.inj (sb (kN (s4 (bl s)).dropLast)) (s4 (bl s)).dropLast h.kod (UO _) u
 clear p v u h
 go_enter func108,ntmps108
 go_wp2_with (first
  |(go_at_call 113;refine(I _).mono ?_;rintro e P ⟨⟨t,cp,rfl,S,T,B⟩,i⟩;have A:Bw w P:=s5 cl i;have b1:=b0.below i s_;have z:=b1.cell;have E:=B)
  |(go_at_call 115;refine(n _).mono ?_;clear n;rintro e Q ⟨rfl,j⟩;have C:Bw w Q:=s5 A j;have b2:=b1.below j (i_ i.size);have H:=b2.cell;clear z;have K:=E.below j)
  |(go_at_call 115;refine(o _).mono ?_;clear o;rintro e R ⟨rfl,m⟩;have k:Bw w R:=s5 C m;have b3:=b2.below m (by have:=i.size;have:=j.size;simp at *;omega);have U:=b3.cell;clear H;have F:=K.below m)
  |(go_at_call 122;refine(N _ _ _ F).mono ?_;rintro e Z ⟨rfl,x⟩;subst x)
  |(go_at_call 114;refine(r _ k).mono ?_;clear r;rintro e X ⟨rfl,G⟩;subst G)
  |(go_at_call 114;refine(D _ k).mono ?_;rintro e Y ⟨rfl,O⟩;subst O))
 all_goals go_ret
 all_goals exact⟨rfl,.inl ⟨d_,k⟩⟩
theorem hQ{g:Nat}{L:List zx}(s:ByteArray)(zj:Bool)(a b c d:Int)(y u:zx)(h:Late f l v3 w br g cap L s a b c d)(D:UW L (s4 (bl s))=none)(C:UW L (s4 (bl s)).dropLast=some u)
  (err:Int) (k:(u.zj=true/\err=5)\/(u.zj=false/\20<=L.length/\err=7)) :
  Calls prog 108 #[vP br,.agg #[vG s,.bool zj,vI a,vI b,vI c,vI d]] w (Yj f l v3 br g L y err w):=by
 have t:=fun W=>W9 a b W
 have v:=fun W=>W9 c d W
 have b0:zg (w.alloc (.cells #[vG s,.bool zj,vI a,vI b,vI c,vI d] 163)) w.heap.size 163 _:=zg.new w 163 _;have hq:(s.toList.isEmpty)=false:=by rw[V4];simpa using h.ne
 rw[h.fa]at t;rw[h.fb]at v;obtain⟨M,ja,x⟩:=h.nz;have S:=fun W=>Z0 s h.small h.valid M x W
 have V:=fun W B cp T=>h.join x W B cp T
 have A:=fun W (j:Bw w W)=>Yk (h.ref.below j) h.ents h.inj s (s4 (bl s)) h.kok (Wi (bl s)).symm D
 have r:∀W,Bw w W->Calls prog 114 #[vP br,vG (sb (kN (s4 (bl s)).dropLast))] W fun e w'=>(∃i:Nat,i<L.length/\e=vR (vI i)/\W.cell? (vA g (i*6+1))=some (.bool u.zj)/\W.cell? (vA br 0)=some (vS g L.length cap))/\w'=W:=fun W j=>by
  refine(YJ (h.ref.below j) h.ents h.inj (sb (kN (s4 (bl s)).dropLast)) (s4 (bl s)).dropLast h.kod (UO _) C).mono ?_
  rintro e w' ⟨⟨i,rfl,z⟩,rfl⟩
  exact⟨⟨i,(Uy.1 z).1,rfl,(h.ref.below j).zq z rfl,(h.ref.below j).zl.cell 0⟩,rfl⟩
 have E:=h.ref.WQ;have K:=h.ents.len;clear x D C h;obtain⟨n,F⟩:∃n,n=L.length:=⟨_,rfl⟩;rw[<-F]at r k E K;clear F;obtain⟨ba,ka⟩:=E
 rcases k with ⟨k,rfl⟩|⟨k,ha,rfl⟩
 all_goals rw[k]at r
 all_goals go_enter func108,ntmps108
 all_goals go_wp2_with (first
  |(go_at_call 113;refine(S _).mono ?_;rintro e Y ⟨⟨B,cp,rfl,ea,ga,J⟩,m⟩;have I:Bw w Y:=s5 cl m;have b1:=b0.below m s_;have H:=b1.cell;have O:=J)
  |(go_at_call 115;refine(t _).mono ?_;clear t;rintro e Z ⟨rfl,o⟩;have N:Bw w Z:=s5 I o;have b2:=b1.below o (i_ m.size);have R:=b2.cell;clear H;have U:=O.below o)
  |(go_at_call 115;refine(v _).mono ?_;clear v;rintro e aa ⟨rfl,q⟩;have p:Bw w aa:=s5 N q;have b3:=b2.below q (by have:=m.size;have:=o.size;simp at *;omega);have ia:=b3.cell;clear R;have P:=U.below q)
  |(go_at_call 122;refine(V _ _ _ P).mono ?_;rintro e na ⟨rfl,G⟩;subst G)
  |(go_at_call 114;refine(A _ p).mono ?_;clear A;rintro e la ⟨rfl,Q⟩;subst Q)
  |(go_at_call 114;refine(r _ p).mono ?_;rintro e ma ⟨⟨i,z,rfl,da,ca⟩,X⟩;subst X))
 all_goals go_ret
 all_goals exact⟨rfl,.inl ⟨d_,p⟩⟩
theorem kT:(prog.info? 163).bind (fun i=>i.zero)=some (.agg #[vG ⟨#[]⟩,.bool false,vI 0,vI 0,vI 0,vI 0]):=k_
theorem Z8:prog.underlying 164=some (.slice 163):=k_
theorem kS:∃i0 z,prog.info? 163=some i0/\i0.zero=some z/\i0.size=6/\i0.bytes=56/\z.cells.size=6:=by
 have a:=lI;have b:=kT
 cases h:prog.info? 163 with
 |none=>rw[h]at a;cases a
 |some i0 =>
  rw[h]at a b;simp only[Option.map_some,Option.some.injEq,Prod.mk.injEq,Option.bind_some]at a b
  exact⟨i0,_,rfl,b,a.1,a.2,r_⟩
theorem p7{g:Nat}{L:List zx}(h:VV W br g cap L f l v3)(B:L.length<=20)(x:zx)(d:Nat)(o:zg W d 163 (Vj x).toArray):
  ∃c w',(∀A,(Builtin.append_ #[164,164] A #[vS g L.length cap,vS d 1 1]).run prog W=.ok c w') /\
   ∃g' cap',c=vS g' (L.length+1) cap'/\w'.ownsRow 0 163 6 c (L.length+1) (UP (L++[x]))/\zd (fun b=>b=g) W w'/\(g'=g\/W.heap.size<=g'):=by
 obtain⟨i0,z,v,y,s,n,t⟩:=kS;obtain⟨c,w',w,i,q,p⟩:=dh (P:=prog) W 164 163 i0 z 6 56 Z8 v y s n t o_ _ L.length (UP L) h.row (vA d 0) 1 1 o_ (Vj x) (by simp[Vj])
  (fun j u a=>by rw[Addr.add_lit,Nat.zero_add,o.cell];simpa using a) (by intro u a;simp[Vj]at a;rcases a with rfl|rfl|rfl|rfl|rfl|rfl<;>rfl) (by unfold maxLen;omega) o_
 obtain⟨g',cap',rfl,_,_⟩:=VX i o_
 refine⟨_,w',w,g',cap',rfl,by simpa [UP] using i,(zd.refl _ _).grown q (fun k m=>by simp[Value.ownBlock]at m;exact m.symm),?_⟩
 rcases p with e|⟨g2,e,r⟩
 ·simp[Value.ownBlock]at e;exact .inl e
 ·simp[Value.ownBlock]at e;subst e;exact .inr r
theorem sS{g:Nat}{L:List zx}(s:ByteArray)(zj:Bool)(a b c d:Int)(u:zx)(h:Late f l v3 w br g cap L s a b c d)(P:UW L (s4 (bl s))=none)(O:UW L (s4 (bl s)).dropLast=some u)
  (Ba:u.zj=false) (Ga:L.length<20) :
  Calls prog 108 #[vP br,.agg #[vG s,.bool zj,vI a,vI b,vI c,vI d]] w (Yj f l v3 br g L ⟨s4 (bl s),zj,a,b,c,d⟩ 0 w):=by
 have C:=fun W=>W9 a b W
 have D:=fun W=>W9 c d W
 have b0:zg (w.alloc (.cells #[vG s,.bool zj,vI a,vI b,vI c,vI d] 163)) w.heap.size 163 _:=zg.new w 163 _;have hq:(s.toList.isEmpty)=false:=by rw[V4];simpa using h.ne
 rw[h.fa]at C;rw[h.fb]at D;obtain⟨M,Ta,E⟩:=h.nz;have Ca:=fun W=>Z0 s h.small h.valid M E W
 have Ea:=fun W K cp G=>h.join E W K cp G
 have H:=fun W (j:Bw w W)=>Yk (h.ref.below j) h.ents h.inj s (s4 (bl s)) h.kok (Wi (bl s)).symm P
 have A:∀W,Bw w W->Calls prog 114 #[vP br,vG (sb (kN (s4 (bl s)).dropLast))] W fun e w'=>(∃i:Nat,i<L.length/\e=vR (vI i)/\W.cell? (vA g (i*6+1))=some (.bool u.zj)/\zg W br 167 #[vS g L.length cap,f,l,v3])/\w'=W:=fun W j=>by
  refine(YJ (h.ref.below j) h.ents h.inj (sb (kN (s4 (bl s)).dropLast)) (s4 (bl s)).dropLast h.kod (UO _) O).mono ?_
  rintro e w' ⟨⟨i,rfl,F⟩,rfl⟩
  exact⟨⟨i,(Uy.1 F).1,rfl,(h.ref.below j).zq F rfl,(h.ref.below j).zl⟩,rfl⟩
 have B:∀W,Bw w W->∀t,zg W t 163 #[vG s,.bool zj,vI a,vI b,vI c,vI d] ->
  ∃v w',(∀Ha,(Builtin.append_ #[164,164] Ha #[vS g L.length cap,vS t 1 1]).run prog W=.ok v w') /\
   (∃g' cap',v=vS g' (L.length+1) cap'/\zg w' br 167 #[vS g L.length cap,f,l,v3] /\
    Hid (∀m,m=w'.setCell (vA br 0) (vS g' (L.length+1) cap')->Yj f l v3 br g L ⟨s4 (bl s),zj,a,b,c,d⟩ 0 w (vR (vI 0)) m)):=fun W j t ka=>by
  have Aa:(Vj ⟨s4 (bl s),zj,a,b,c,d⟩).toArray=#[vG s,.bool zj,vI a,vI b,vI c,vI d]:=by
   simp only[Vj,Wi,YU]
  obtain⟨v,w',G,g',cap',rfl,ia,Q,J⟩:=p7 (h.ref.below j) o_ ⟨s4 (bl s),zj,a,b,c,d⟩ t (by rw[Aa];exact ka);have o:=(h.ref.below j).zl.zf Q h.ref.ne
  refine⟨_,w',G,g',cap',rfl,o,?_⟩
  suffices ua:(∀m,m=w'.setCell (vA br 0) (vS g' (L.length+1) cap')->Yj f l v3 br g L ⟨s4 (bl s),zj,a,b,c,d⟩ 0 w (vR (vI 0)) m) from ua
  refine fun m x=>⟨rfl,.inr ⟨rfl,g',cap',⟨?_,?_⟩,?_,?_⟩⟩
  ·subst x
   have:=o.set 0 (vS g' (L.length+1) cap')
   rw[show(L++[(⟨s4 (bl s),zj,a,b,c,d⟩:zx)]).length=L.length+1 by simp]
   exact this
  ·subst x;rw[show(L++[(⟨s4 (bl s),zj,a,b,c,d⟩:zx)]).length=L.length+1 by simp];obtain⟨ra,k⟩:=ia
   refine⟨ra,?_⟩
   rcases k with ⟨k,_⟩|⟨g2,oa,aa,k,h3,sa,ta⟩
   ·cases k
   ·have la:g'=g2:=by injection k with e _ _;injection e with e;injection e with e
    subst la;have da:g'≠br:=by
     rcases J with rfl|R
     ·exact h.ref.ne.symm
     ·have:=(h.ref.below j).zl.lt;omega
    exact .inr ⟨g',oa,aa,k,h3,(Below.heap_setCell w' _ _ g' da).trans sa,ta⟩
  ·subst x
   exact((zd.trans (T:=fun b=>b=br\/b=g) (zd.new j) (Q.mono (fun b hb=>Or.inr hb))).setCell (p:=vA br 0) (Or.inl rfl) _)
  ·rcases J with rfl|R
   ·exact .inl rfl
   ·exact .inr (Nat.le_trans j.size R)
 have S:=h.ref.WQ;have ha:=h.ents.len;clear E P O h;obtain⟨X,N⟩:∃X,X=Yj f l v3 br g L ⟨s4 (bl s),zj,a,b,c,d⟩ 0 w:=⟨_,rfl⟩;rw[<-N]at B ⊢;clear N;obtain⟨n,U⟩:∃n,n=L.length:=⟨_,rfl⟩;rw[<-U]at A S ha Ga B;clear U;obtain⟨La,Ua⟩:=S;rw[Ba]at A
 go_enter func108,ntmps108
 go_wp2_with (first
  |(go_at_call 113;refine(Ca _).mono ?_;rintro e Ia ⟨⟨K,cp,rfl,Qa,Ra,ga⟩,q⟩;have ea:Bw w Ia:=s5 cl q;have b1:=b0.below q s_;have ca:=b1.cell;have ma:=ga)
  |(go_at_call 115;refine(C _).mono ?_;clear C;rintro e Ja ⟨rfl,r⟩;have ja:Bw w Ja:=s5 ea r;have b2:=b1.below r (i_ q.size);have qa:=b2.cell;clear ca;have Da:=ma.below r)
  |(go_at_call 115;refine(D _).mono ?_;clear D;rintro e Ka ⟨rfl,z⟩;have y:Bw w Ka:=s5 ja z;have b3:=b2.below z (by have:=q.size;have:=r.size;simp at *;omega);have Sa:=b3.cell;clear qa;have na:=Da.below z)
  |(go_at_call 122;refine(Ea _ _ _ na).mono ?_;rintro e Xa ⟨rfl,V⟩;subst V)
  |(go_at_call 114;refine(H _ y).mono ?_;clear H;rintro e Va ⟨rfl,pa⟩;subst pa)
  |(go_at_call 114;refine(A _ y).mono ?_;rintro e Wa ⟨⟨i,F,rfl,Na,o⟩,Fa⟩;subst Fa;have Pa:=y.size;have Ma:=o.lt;have Z:=o.cell 0;simp only[List.getElem?_toArray,List.getElem?_cons_zero]at Z))
 go_region_law (refine WL rfl (.tmp 79) (.tmp 81) 164 164 rfl _ _ ?_ ?_ (B _ ?_ ?_ ?_) ?_;(focus (simp[Act.eval,Act.put]));(focus ((try simp[Act.eval,Act.put]);(try rfl)));(focus exact cl);(focus exact s6);rintro v Ya ⟨g',cap',rfl,I,ba⟩;have Y:=I.cell 0;have Oa:=I.frozen 0;simp only[List.getElem?_toArray,List.getElem?_cons_zero]at Y)
 all_goals go_wp2
 all_goals exact ba.out _ rfl
theorem rW(s:Bs):(s4 s).length<=s.length+1:=by
 by_cases h:s=[]
 ·subst h;simp[s4]
 ·have:=hW s h
  unfold WR at this;have a:Ys s<=s.length:=by unfold Ys;exact List.countP_le_length
  omega
theorem gZ{g:Nat}{L:List zx}(h:VV w br g cap L f l v3)(E:ym L)(v:∀a∈L,∀b∈L,a.zb=b.zb->a=b)(s:ByteArray)(m:s.size<=2000000)(zj:Bool)(a b c d:Int):
  Calls prog 108 #[vP br,.agg #[vG s,.bool zj,vI a,vI b,vI c,vI d]] w (Yj f l v3 br g L ⟨s4 (bl s),zj,a,b,c,d⟩ (vy L (bl s) (Uu a b&&Uu c d)) w):=by
 unfold vy
 by_cases p:UB (bl s)=false
 ·rw[if_pos p];exact aH (cap:=cap) s m zj a b c d _ 1 (.inl ⟨p,rfl⟩)
 rw[if_neg p];have n:UB (bl s)=true:=by cases z:UB (bl s);exact absurd z p;rfl
 by_cases e:bl s=[]
 ·rw[if_pos e];exact aH (cap:=cap) s m zj a b c d _ 2 (.inr (.inl ⟨n,e,rfl⟩))
 rw[if_neg e]
 by_cases j:(Uu a b&&Uu c d)=false
 ·rw[if_pos j];exact aH (cap:=cap) s m zj a b c d _ 6 (.inr (.inr (.inl ⟨n,e,(by cases y:Uu a b;exact .inl rfl;rw[y]at j;exact .inr (j_ j)),rfl⟩)))
 rw[if_neg j];obtain⟨r,t⟩:Uu a b=true/\Uu c d=true:=by simpa using j
 by_cases hd:4<WR (bl s)
 ·rw[if_pos hd]
  refine aH (cap:=cap) s m zj a b c d _ 8 (.inr (.inr (.inr ⟨n,e,r,t,hd,?_,rfl⟩)))
  have:=rW (bl s);have:=Wo s;omega
 rw[if_neg hd];have k:Late f l v3 w br g cap L s a b c d:=⟨h,E,v,m,n,e,r,t,by unfold WR at hd;omega⟩
 cases i:UW L (s4 (bl s)) with
 |some x=>simp only[Option.isSome_some,if_true];exact oW s zj a b c d x _ k i
 |none =>
  simp only[Option.isSome_none,Bool.false_eq_true,if_false];unfold lY
  cases o:UW L (s4 (bl s)).dropLast with
  |none=>exact qK s zj a b c d _ k i o
  |some u =>
   dsimp only
   cases hul:u.zj
   ·simp only[Bool.false_eq_true,if_false]
    by_cases q:20<=L.length
    ·rw[if_pos q];exact hQ s zj a b c d _ u k i o 7 (.inr ⟨hul,q,rfl⟩)
    ·rw[if_neg q];exact sS s zj a b c d u k i o hul o_
   ·simp only[if_true];exact hQ s zj a b c d _ u k i o 5 (.inl ⟨hul,rfl⟩)
def Wk.yi(x:Wk)(st:Int):Wk:={x with st:=st}
theorem gl:∀(Ws:List Wk) (i:Nat) (x y:Wk),Ws[i]?=some x->(VQ y).take 4=(VQ x).take 4->UG (Ws.set i y)=(UG Ws).set (i*5+4) (vI y.st)
 | [],i,x,y,h,_=>by simp at h
 |a::l,0,x,y,h,b=>by
  simp at h;subst h
  simp only[UE,UG,List.flatMap_cons]
  simp[VQ]at b ⊢
  simp[b]
 |a::l,i+1,x,y,h,b=>by
  have c:=gl l i x y (j_ h) b;simp only[UD,UG,List.flatMap_cons]at c ⊢;rw[c,List.set_append_right _ _ (by simp[VQ];omega)];rw[show(i+1)*5+4-(VQ a).length=i*5+4 by simp[VQ];omega]
structure AdmR (w:World) (br g cap:Nat) (L:List zx) (ao:Option Addr) (cW:Nat) (Ws:List Wk) (zo st:Int) (w':World):Prop where
 ref:zy w' br g cap L ao cW Ws zo st
 zf:zd (fun b=>b=br\/(Value.slice ao Ws.length cW).ownBlock=some b) w w'
theorem hO{g:Nat}{L:List zx}(h:zy w br g cap L ao cW Ws zo st)(q:xm Ws)(d:Ws[i]?=some x)(I:0<=st/\st<=1000000000):
  Calls prog 162 #[vP br,vI i] w fun e w'=>e=vR (.agg #[vI 1,vI x.zm])/\AdmR w br g cap L ao cW (Ws.set i (x.yi (st+1))) zo (st+1) w':=by
 obtain⟨b,m,J,B,O,Q,R,S,T,U⟩:=h.wk d;have A:=(Uy.1 d).1;have f:=h.ne1 b (by rw[m];rfl);have c:=h.ref.zl;have H:=c.lt;have F:=q.len;have c1:=c.cell 1;have t:=c.cell 3;have N:=c.frozen 3;simp only[s7]at c1 t;obtain⟨n,k⟩:∃n,n=Ws.length:=⟨_,rfl⟩;rw[<-k]at c1 A B F;have P:(i:Int)<n:=o_;have V:(0:Int)<=i:=o_;have u:¬(b=br):=f.1;have z:¬(br=b):=fun e=>f.1 e.symm
 have l:=h.yc;subst m;have fb:w.frozen? (vA b (i*5+4))=false:=l.frozenAt _;have K:¬(br=w.heap.size):=o_;have M:¬(b=w.heap.size):=o_;have r:Hid (Ws[i]?=some x):=d;have G:Hid (n=Ws.length):=k;clear k d
 go_enter func162,ntmps162
 go_wp2_with fail
 go_region
 go_wp2_with fail
 have s:zg ((((w.setCell (vA br 3) (vI (st+1))).setCell (vA b (i*5+4)) (vI (st+1))).alloc (.cells #[vI 1,vI x.zm] 60)).drew) w.heap.size 60 #[vI 1,vI x.zm]:=(zg.new' s_).drew;have E:=s.cell
 refine Us (v:=.agg #[vI 1,vI x.zm]) ?_ rfl ⟨rfl,?_⟩
 ·simp[results,results162,go_sem,E]
 ·have o:zd (fun y=>y=br\/y=b) w ((((w.setCell (vA br 3) (vI (st+1))).setCell (vA b (i*5+4)) (vI (st+1))).alloc (.cells #[vI 1,vI x.zm] 60)).drew) :=
   ((((zd.refl _ _).setCell (p:=vA br 3) (.inl rfl) _).setCell (p:=vA b (i*5+4)) (.inr rfl) _).alloc _).drew
  have D:¬(g=br\/g=b):=by
   rintro(e|e)
   ·exact h.ref.ne e.symm
   ·exact f.2 e.symm
  refine⟨⟨⟨?_,?_⟩,?_,?_⟩,?_⟩
  ·have j:=(((c.set 3 (vI (st+1))).other (vA b (i*5+4)) (vI (st+1)) z).alloc (.cells #[vI 1,vI x.zm] 60)).drew
   simpa using j
  ·exact s8 h.ref.row o (fun y a=>by simp[Value.ownBlock]at a;subst a;exact D)
  ·have j:(w.setCell (vA br 3) (vI (st+1))).ownsRow 0 178 5 (vS b Ws.length cW) Ws.length (UG Ws):=UQ l (by simp[Value.ownBlock];exact u) _;have C:=((j.stored (i*5+4) (vI (st+1))).1.alloc (.cells #[vI 1,vI x.zm] 60)).drew;rw[List.length_set,gl Ws i x (x.yi (st+1)) r.out rfl]
   exact C
  ·intro y a;rw[List.length_set]at a
   exact h.ne1 y a
  ·rw[List.length_set]
   exact o.mono (fun y a=>by
    rcases a with rfl|rfl
    ·exact .inl rfl
    ·exact .inr rfl)
theorem i89a:(prog.info? 178).map (fun i=>(i.size,i.bytes))=some (5,48):=k_
theorem i89b:(prog.info? 178).bind (fun i=>i.zero)=some (.agg #[vI 0,vG ⟨#[]⟩,vI 0,vI 0,vI 0]):=k_
theorem Zj:Wx 178 5 48:=XD i89a i89b rfl
theorem un70:prog.underlying 165=some (.slice 178):=k_
theorem zd.eY{a:World}(h:zd T a w){p:Addr}(hp:a.heap.size<=p.block)(u:Value):zd T a (w.setCell p u) :=
 ⟨h.os,h.tape,h.output,by simpa using h.size,fun k b ht=>(Below.heap_setCell w p u k o_).trans (h.block k b ht)⟩
theorem mz(a b:List Wk):UG (a++b)=UG a++UG b:=by simp[UG]
theorem Y7(l:List Wk):∀u∈UG l,u.oneCell'=true:=by
 intro u a;simp only[UG,List.mem_flatMap]at a;obtain⟨x,_,b⟩:=a
 simp[VQ]at b
 rcases b with rfl|rfl|rfl|rfl|rfl<;>rfl
theorem iR(Ws:List Wk)(i:Nat):UG (Ws.take i)=(UG Ws).take (i*5):=by
 induction Ws generalizing i with
 |nil=>simp[UG]
 |cons a l b =>
  cases i with
  |zero=>simp[UG]
  |succ i =>
   have:=b i
   simp only[List.take_succ_cons,UG,List.flatMap_cons]at this ⊢;rw[this,show(i+1)*5=(VQ a).length+i*5 by simp[VQ];omega,List.take_length_add_append]
theorem iQ(Ws:List Wk)(i:Nat):UG (Ws.drop i)=(UG Ws).drop (i*5):=by
 induction Ws generalizing i with
 |nil=>simp[UG]
 |cons a l b =>
  cases i with
  |zero=>simp[UG]
  |succ i =>
   have:=b i
   simp only[List.drop_succ_cons,UG,List.flatMap_cons]at this ⊢;rw[this,show(i+1)*5=(VQ a).length+i*5 by simp[VQ];omega,List.drop_length_add_append]
theorem qY{g:Nat}{L:List zx}(h:zy w br g cap L ao cW Ws zo st)(Ba:xm Ws)(O:Ws[i]?=some x):
  Calls prog 201 #[vP br,vI i] w fun e w'=>e=vR (.agg #[vI 2,vI x.zm])/\∃B H,w.heap.size<=B/\zy w' br g cap L (some (vA B 0)) H (x.yi 0::(Ws.take i++Ws.drop (i+1))) zo st/\zd (fun b=>b=br) w w':=by
 obtain⟨b,na,db,Ga,qb,Ka,La,Ma,Na,Oa⟩:=h.wk O;have Fa:=(Uy.1 O).1;have bb:=h.ne1 b (by rw[na];rfl);have E:=h.ref.zl;have S:=E.lt;have Xa:=Ba.len;have c1:=E.cell 1;have mb:=E.frozen 1;simp only[s7]at c1;obtain⟨n,V⟩:∃n,n=Ws.length:=⟨_,rfl⟩;rw[<-V]at c1 Fa Ga Xa;have yb:(i:Int)<n:=o_;have Bb:(0:Int)<=i:=o_;subst na;have eb:¬(br=w.heap.size):=o_;have gb:¬(b=w.heap.size):=o_;have Za:Hid (Ws[i]?=some x):=O;have D:Hid (n=Ws.length):=V;clear V O;have ia:=h.yc;rw[<-D.out]at ia;have F:zg (((w.alloc (.cells #[vI 0,vI 0] 60)).alloc (.cells #[vI x.zm,vG (sb (kN x.zb)),vI x.d0,vI x.d1,vI 0] 178)).alloc (.cells #[vI x.zm,vG (sb (kN x.zb)),vI x.d0,vI x.d1,vI 0] 178)) w.heap.size 60 #[vI 0,vI 0]:=s6;have G:zg (((w.alloc (.cells #[vI 0,vI 0] 60)).alloc (.cells #[vI x.zm,vG (sb (kN x.zb)),vI x.d0,vI x.d1,vI 0] 178)).alloc (.cells #[vI x.zm,vG (sb (kN x.zb)),vI x.d0,vI x.d1,vI 0] 178)) (w.heap.size+1) 178 #[vI x.zm,vG (sb (kN x.zb)),vI x.d0,vI x.d1,vI 0]:=zg.alloc (zg.new' s_) _;have K:zg (((w.alloc (.cells #[vI 0,vI 0] 60)).alloc (.cells #[vI x.zm,vG (sb (kN x.zb)),vI x.d0,vI x.d1,vI 0] 178)).alloc (.cells #[vI x.zm,vG (sb (kN x.zb)),vI x.d0,vI x.d1,vI 0] 178)) (w.heap.size+1+1) 178 #[vI x.zm,vG (sb (kN x.zb)),vI x.d0,vI x.d1,vI 0]:=zg.new' s_;have C:Bw w (((w.alloc (.cells #[vI 0,vI 0] 60)).alloc (.cells #[vI x.zm,vG (sb (kN x.zb)),vI x.d0,vI x.d1,vI 0] 178)).alloc (.cells #[vI x.zm,vG (sb (kN x.zb)),vI x.d0,vI x.d1,vI 0] 178)):=cl
 go_enter func201,ntmps201
 go_upto_region 4 with fail
 generalize (((w.alloc (.cells #[vI 0,vI 0] 60)).alloc (.cells #[vI x.zm,vG (sb (kN x.zb)),vI x.d0,vI x.d1,vI 0] 178)).alloc (.cells #[vI x.zm,vG (sb (kN x.zb)),vI x.d0,vI x.d1,vI 0] 178))=o at F G K C ⊢;have ma:=s8 (T:=fun _=>False) ia (zd.new C) (fun _ _ h=>h);have Q:=(C.cell (p:=vA br 1) S).trans c1;have da:o.ownsRow 0 178 5 (vS (w.heap.size+1+1) 1 1) 1 (UG [x.yi 0]):=⟨by simp[UG,VQ],.inr ⟨w.heap.size+1+1,1,_,rfl,Nat.zero_le _,K,Nat.le_refl _,by unfold maxLen;omega,s_,by simp[UG,VQ,Wk.yi]⟩⟩;have ga:∀j u,(UG Ws)[j]?=some u->o.cell? (vA b j)=some u:=fun j u m=>by
  have:=ma.cells (g:=b) rfl j u m
  rwa[Addr.add_lit,Nat.zero_add]at this
 have Z:=bV un70 Zj o_ o _ 1 _ da (vA b 0) i cW o_ (UG (Ws.take i)) (by rw[aK,List.length_take];have:=D.out;rw[Nat.min_eq_left o_])
  (fun j u m=>by
   rw[Addr.add_lit,Nat.zero_add]
   refine ga j u ?_
   rw[iR]at m;have ab:=(Uy.1 m).1;rw[List.getElem?_take]at m
   split at m
   ·exact m
   ·cases m) (Y7 _) (by unfold maxLen;omega) o_
 have l4:=F.lt;have rb:=G.lt;have vb:=K.lt;have nb:=C.size;have U:∀c,zd (fun y=>(vS (w.heap.size+1+1) 1 1).ownBlock=some y) o c->c.cell? (vA br 1)=some (vS b n cW)/\zg c w.heap.size 60 #[vI 0,vI 0]/\zg c (w.heap.size+1) 178 #[vI x.zm,vG (sb (kN x.zb)),vI x.d0,vI x.d1,vI 0]/\c.ownsRow 0 178 5 (vS b n cW) n (UG Ws)/\o.heap.size<=c.heap.size:=fun c J=>by
  have zb:∀y,y<w.heap.size+1+1->¬((vS (w.heap.size+1+1) 1 1).ownBlock=some y):=fun y A e=>by simp[Value.ownBlock]at e;omega
  exact⟨(J.cell (p:=vA br 1) (by show br<_;omega) (zb br o_)).trans Q,F.zf J (zb _ o_),G.zf J (zb _ o_),s8 ma J (fun y A=>by simp[Value.ownBlock]at A;subst A;exact zb b o_),J.size⟩
 have sa:∀c g1 r,xq o (vS (w.heap.size+1+1) 1 1).ownBlock 178 5 (1+i) (UG [x.yi 0]++UG (Ws.take i)) g1 r c->∀(ad:Addr) (c2:Nat),(∀j u,(UG (Ws.drop (i+1)))[j]?=some u->c.cell? (ad.add j)=some u) ->
   ∃ta w',(∀Va,(Builtin.append_ #[165,165] Va #[vS g1 (1+i) r,.slice (some ad) (n-(i+1)) c2]).run prog c=.ok ta w')/\∃g cap,ta=vS g (1+i+(n-(i+1))) cap/\xq c (some g1) 178 5 (1+i+(n-(i+1))) (UG [x.yi 0]++UG (Ws.take i)++UG (Ws.drop (i+1))) g cap w' :=
  fun c g1 r d ad c2 Ya=>bV un70 Zj o_ c _ (1+i) _ d.own ad (n-(i+1)) c2 o_ (UG (Ws.drop (i+1))) (by rw[aK,List.length_drop,<- D.out]) Ya (Y7 _) (by unfold maxLen;omega) o_
 have ca:∀c:World,c.ownsRow 0 178 5 (vS b n cW) n (UG Ws)->∀j u,(UG (Ws.drop (i+1)))[j]?=some u->c.cell? (((vA b ((i+1)*5)):Addr).add j)=some u:=fun c Ia j u m=>by
  rw[iQ,List.getElem?_drop]at m
  have:=Ia.cells (g:=b) rfl _ u m
  rw[Addr.add_lit,Nat.zero_add]at this;rw[Addr.add_lit];exact this
 have ka:∀c g1 r a g2 q2,xq o (vS (w.heap.size+1+1) 1 1).ownBlock 178 5 (1+i) (UG [x.yi 0]++UG (Ws.take i)) g1 r c->xq c (some g1) 178 5 (1+i+(n-(i+1))) (UG [x.yi 0]++UG (Ws.take i)++UG (Ws.drop (i+1))) g2 q2 a ->
   Below (w.heap.size+1+1) o a/\w.heap.size+1+1<=g2:=fun c g1 r a g2 q2 d z=>by
  have N:w.heap.size+1+1<=g1:=by
   rcases d.new with e|e
   ·simp[Value.ownBlock]at e;omega
   ·omega
  have Cb:=d.zf.size;have Db:=z.zf.size
  refine⟨⟨z.zf.os.trans d.zf.os,z.zf.tape.trans d.zf.tape,z.zf.output.trans d.zf.output,o_,fun k P=>(z.zf.block k o_ (fun e=>by simp at e;omega)).trans (d.zf.block k o_ (fun e=>by simp[Value.ownBlock]at e;omega))⟩,?_⟩
  rcases z.new with e|e
  ·simp at e;omega
  ·omega
 have ra:∀c g1 r,xq o (vS (w.heap.size+1+1) 1 1).ownBlock 178 5 (1+i) (UG [x.yi 0]++UG (Ws.take i)) g1 r c->Below (w.heap.size+1+1) o c/\w.heap.size+1+1<=g1:=fun c g1 r d=>by
  refine⟨⟨d.zf.os,d.zf.tape,d.zf.output,d.zf.size,fun k P=>d.zf.block k o_ (fun e=>by simp[Value.ownBlock]at e;omega)⟩,?_⟩
  rcases d.new with e|e
  ·simp[Value.ownBlock]at e;omega
  ·omega
 have qa:=ka;clear ka;have ea:∀a g2 q2,Below (w.heap.size+1+1) o a->w.heap.size+1+1<=g2->a.ownsRow 0 178 5 (vS g2 (1+i+(n-(i+1))) q2) (1+i+(n-(i+1))) (UG [x.yi 0]++UG (Ws.take i)++UG (Ws.drop (i+1)))->∀s t,
   ∃B H,w.heap.size<=B/\zy (((a.setCell (vA br 1) (vS g2 (1+i+(n-(i+1))) q2)).setCell (vA w.heap.size 0) s).setCell (vA w.heap.size 1) t) br g cap L (some (vA B 0)) H (x.yi 0::(Ws.take i++Ws.drop (i+1))) zo st/\zd (fun b=>b=br) w (((a.setCell (vA br 1) (vS g2 (1+i+(n-(i+1))) q2)).setCell (vA w.heap.size 0) s).setCell (vA w.heap.size 1) t):=fun a g2 q2 q M ua s t=>by
  have ha:(x.yi 0::(Ws.take i++Ws.drop (i+1))).length=1+i+(n-(i+1)):=by
   have:=D.out
   simp;omega
  have cb:=(h.ref.row.lt g rfl).2;have pa:Bw w a:=C.trans (q.mono o_);have P:zd (fun b=>b=br) w (((a.setCell (vA br 1) (vS g2 (1+i+(n-(i+1))) q2)).setCell (vA w.heap.size 0) s).setCell (vA w.heap.size 1) t):=by
   have Q:zd (fun b=>b=br) w a:=zd.new pa;have X:=Q.setCell (p:=vA br 1) rfl (vS g2 (1+i+(n-(i+1))) q2)
   exact(X.eY (p:=vA w.heap.size 0) (Nat.le_refl _) s).eY (p:=vA w.heap.size 1) (Nat.le_refl _) t
  refine⟨g2,q2,o_,⟨⟨?_,?_⟩,?_,?_⟩,P⟩
  ·have N:=(((E.below pa S).set 1 (vS g2 (1+i+(n-(i+1))) q2)).other (vA w.heap.size 0) s t_).other (vA w.heap.size 1) t t_;rw[ha]
   simpa using N
  ·exact s8 h.ref.row P (fun y A e=>by simp[Value.ownBlock]at A;subst A;exact h.ref.ne e.symm)
  ·rw[ha,show UG (x.yi 0::(Ws.take i++Ws.drop (i+1)))=UG [x.yi 0]++UG (Ws.take i)++UG (Ws.drop (i+1)) by simp[UG]]
   exact UQ (UQ (UQ ua (by simp[Value.ownBlock];omega) _) (by simp[Value.ownBlock];omega) _) (by simp[Value.ownBlock];omega) _
  ·intro y A
   simp[Value.ownBlock]at A
   subst A
   exact⟨o_,o_⟩
 have Y:∀a,Below (w.heap.size+1+1) o a->a.cell? (vA br 1)=some (vS b n cW)/\a.frozen? (vA br 1)=false/\a.cell? (vA w.heap.size 0)=some (vI 0)/\a.cell? (vA w.heap.size 1)=some (vI 0)/\a.frozen? (vA w.heap.size 0)=false/\a.frozen? (vA w.heap.size 1)=false/\a.cell? (vA (w.heap.size+1) 0)=some (vI x.zm)/\w.heap.size+1<a.heap.size/\zg a w.heap.size 60 #[vI 0,vI 0]:=fun a q=>by
  have I:zg a w.heap.size 60 #[vI 0,vI 0]:=(q.block _ o_).trans F;have ja:zg a (w.heap.size+1) 178 #[vI x.zm,vG (sb (kN x.zb)),vI x.d0,vI x.d1,vI 0]:=(q.block _ o_).trans G
  exact⟨(q.cell (p:=vA br 1) (by show br<_;omega)).trans Q,((E.below (C.trans (q.mono o_)) S).frozen 1),I.cell 0,I.cell 1,I.frozen 0,I.frozen 1,ja.cell 0,ja.lt,I⟩
 have ib:¬(br=w.heap.size+1):=o_;have jb:¬(w.heap.size=br):=o_;have kb:¬(w.heap.size+1=br):=o_;have R:=ea;clear ea E Ka La Ma Na Oa ga da F G K C
 by_cases Ea:i+1=cW
 ·subst Ea;have Aa:∀c:World,∀j u,(UG (Ws.drop (i+1)))[j]?=some u->c.cell? (((vA b 0):Addr).add j)=some u:=fun c j u m=>by
   have hd:Ws.drop (i+1)=[]:=List.drop_eq_nil_of_le (h_ D.out);rw[hd]at m;simp[UG]at m
  have oa:n-(i+1)=0:=o_;have Ca:∀a g2 q2,Below (w.heap.size+1+1) o a->w.heap.size+1+1<=g2->a.ownsRow 0 178 5 (vS g2 (1+i) q2) (1+i) (UG [x.yi 0]++UG (Ws.take i))->∀s t,
   ∃B H,w.heap.size<=B/\zy (((a.setCell (vA br 1) (vS g2 (1+i) q2)).setCell (vA w.heap.size 0) s).setCell (vA w.heap.size 1) t) br g cap L (some (vA B 0)) H (x.yi 0::(Ws.take i++Ws.drop (i+1))) zo st/\zd (fun b=>b=br) w (((a.setCell (vA br 1) (vS g2 (1+i) q2)).setCell (vA w.heap.size 0) s).setCell (vA w.heap.size 1) t):=fun a g2 q2 N Ha h3 s t=>by
   have hd:Ws.drop (i+1)=[]:=List.drop_eq_nil_of_le (h_ D.out)
   have:=R a g2 q2 N Ha (by rw[oa,hd];simpa [UG] using h3) s t
   rw[oa]at this
   exact this
  clear sa ca Aa qa R
  go_wp2_with (at_builtin;refine Vk r_ _ _ _ _ rfl _ _ rfl r_ Z ?_;rintro f c ⟨g1,r,rfl,d⟩;obtain⟨X,Wa,Ja,la,Da⟩:=U _ d.zf;obtain⟨q,M⟩:=ra _ _ _ d;obtain⟨Pa,Qa,Ra,Sa,r4,r5,Ta,Ua,aa⟩:=Y _ q;have ob:=d.le;have pb:=d.mx;clear Z U ra Y)
  have ba:=((aa.other (vA br 1) (vS g1 (1+i) r) t_).set 0 (vI 2)).set 1 (vI x.zm);have W:=ba.cell
  refine Us (v:=.agg #[vI 2,vI x.zm]) ?_ rfl ⟨rfl,Ca _ _ _ q M d.own _ _⟩
  simp[results,results201,go_sem,W]
 ·have Ab:¬((i:Int)+1=cW):=o_
  go_wp2_with (first
   |(at_builtin;refine Vk r_ _ _ _ _ rfl _ _ rfl r_ (sa _ _ _ d (vA b ((i+1)*5)) (cW-(i+1)) (ca _ la)) ?_;rintro l a ⟨g2,q2,rfl,z⟩;obtain⟨q,M⟩:=qa _ _ _ _ _ _ d z;obtain⟨Pa,Qa,Ra,Sa,r4,r5,Ta,Ua,aa⟩:=Y _ q)
   |(at_builtin;refine Vk r_ _ _ _ _ rfl _ _ rfl r_ Z ?_;rintro f c ⟨g1,r,rfl,d⟩;obtain⟨X,Wa,Ja,la,Da⟩:=U _ d.zf))
  have ba:=((aa.other (vA br 1) (vS g2 (1+i+(n-(i+1))) q2) t_).set 0 (vI 2)).set 1 (vI x.zm);have W:=ba.cell
  refine Us (v:=.agg #[vI 2,vI x.zm]) ?_ rfl ⟨rfl,R _ _ _ q M z.own _ _⟩
  simp[results,results201,go_sem,W]
def wu (L:List zx)(Ws:List Wk)(x v:Wk)(e:zx):Bool:=xc (kN x.zb) (kN e.zb)&&(xc (kN v.zb) (kN e.zb)&&(sh0 L Ws e x.d0&&(decide (yf (Ut Ws (kN v.zb))>xj (Uz L (kN v.zb)))&&decide (v.d0>0))))
def wo (L:List zx)(Ws:List Wk)(x v:Wk)(e:zx):Bool:=xc (kN x.zb) (kN e.zb)&&(xc (kN v.zb) (kN e.zb)&&(sh1 L Ws e x.d1&&(decide (yg (Ut Ws (kN v.zb))>xi (Uz L (kN v.zb)))&&decide (v.d1>0))))
def way (L:List zx)(Ws:List Wk)(x v:Wk):Bool:=L.any fun e=>wu L Ws x v e||wo L Ws x v e
def stAt (Ws:List Wk)(k:Nat):Int:=match Ws[k]? with|some x=>x.st|none=>0
def tI (Ws:List Wk)(a:Option Nat)(v:Wk):Bool:=(v.st == 0)||(match a with|some b=>decide (v.st<stAt Ws b)|none=>false)
def ZP (L:List zx)(Ws:List Wk)(x:Wk)(a:Option Nat)(k:Nat):Option Nat :=
 match Ws[k]? with
 |some v=>if tI Ws a v then a else if way L Ws x v then some k else a
 |none=>a
def VH (L:List zx)(Ws:List Wk)(x:Wk)(n:Nat):Option Nat:=(List.range n).foldl (ZP L Ws x) none
def Xh (L:List zx)(Ws:List Wk)(x:Wk):Option Nat:=VH L Ws x Ws.length
def xp (o:Option Nat):Int:=match o with|some k=>k|none => -1
theorem aO(L:List zx)(Ws:List Wk)(x:Wk)(n:Nat):VH L Ws x (n+1)=ZP L Ws x (VH L Ws x n) n:=by
 unfold VH;rw[List.range_succ,List.foldl_append]
 rfl
theorem aS(L:List zx)(Ws:List Wk)(x:Wk):∀n b,VH L Ws x n=some b->b<n/\b<Ws.length
 |0,b,h=>by simp[VH]at h
 |n+1,b,h=>by
  rw[aO]at h;unfold ZP at h
  split at h
  ·rename_i v a
   have c:=(Uy.1 a).1
   split at h
   ·have:=aS L Ws x n b h;omega
   ·split at h
    ·simp at h;omega
    ·have:=aS L Ws x n b h;omega
  ·have:=aS L Ws x n b h;omega
end Go.Proofs.YtphclnolomgjoaaGreatDoor
