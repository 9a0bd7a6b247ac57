import Derived.Test.YtphclnolomgjoaaGreatDoorE16
import Derived.Test.YtphclnolomgjoaaGreatDoorE08
set_option linter.unusedVariables false
set_option linter.unusedSimpArgs false
set_option maxRecDepth 100000
set_option maxHeartbeats 4000000
namespace Go.Proofs.YtphclnolomgjoaaGreatDoor
open Tryz
open Go.RowKit
variable {er:Int}{M bytes c2 g2 n q2 size:Nat}{nm:Bs}{e:TypeId}{d k:List Bs}{f:World}{Ws':List Wk}{a2:Option Addr}{o:ByteArray}
def ay (L:List zx)(s s2:Bs):Int :=
 if (UB s&&UB s2)=false then 1 else if yv L s≠0 then yv L s else match UW L (s4 s2) with
 |none=>3
 |some y=>if y.zj=true then 5 else if xc s2 s=true then 10 else if (UW L (s4 s2++[mN (s4 s)])).isSome=true then 4
  else if L.any (fun e=>decide (4<(xz (s4 s) (s4 s2++[mN (s4 s)]) e.zb).length))=true then 8 else 0
theorem XW(s:ByteArray)(b:s.size<=2000000)(w:World):
  Calls prog 113 #[vG s] w fun e w'=>(∃sl,e=vR (.tuple #[sl,.bool (UB (bl s))]))/\Bw w w':=by
 refine(bA s b w).mono ?_
 rintro e w' ⟨h,hb⟩
 refine⟨?_,hb⟩
 rcases h with ⟨a,rfl⟩|⟨a,sl,rfl,_⟩<;>rw[a]<;>exact⟨_,rfl⟩
theorem dA(s:ByteArray)(n:s.size<=2000000)(o:UB (bl s)=true)(w:World):
  Calls prog 113 #[vG s] w fun e w'=>(∃ao cap,e=vR (.tuple #[.slice ao (s4 (bl s)).length cap,.bool true])/\(s4 (bl s)).length<=cap/\cap<=maxLen/\w'.ownsRow 0 9 1 (.slice ao (s4 (bl s)).length cap) (s4 (bl s)).length (strs (s4 (bl s)))/\(∀b,(Value.slice ao (s4 (bl s)).length cap).ownBlock=some b->w.heap.size<=b))/\Bw w w':=by
 refine(bA s n w).mono ?_
 rintro e w' ⟨(⟨h,_⟩|⟨_,sl,rfl,j⟩),hb⟩
 ·rw[o]at h;cases h
 ·refine⟨?_,hb⟩
  obtain⟨f,m⟩:=j
  rcases m with ⟨rfl,a⟩|⟨g,cap,i,rfl,p,l,c,d,h3,k⟩
  ·exact⟨none,0,by rw[a],o_,Nat.zero_le _,⟨f,.inl ⟨by rw[a],a⟩⟩,fun b hb=>by simp[Value.ownBlock]at hb⟩
  ·exact⟨_,_,rfl,c,d,⟨f,.inr ⟨g,cap,i,rfl,Nat.zero_le _,l,c,d,h3,k⟩⟩,fun b hb=>by simp[Value.ownBlock]at hb;omega⟩
theorem sW{w:World}{br:Nat}(s s2:ByteArray)(h:s.size<=2000000)(g:s2.size<=2000000)(i:(UB (bl s)&&UB (bl s2))=false):
  Calls prog 73 #[vP br,vG s,vG s2] w fun e w'=>e=vT #[v0_,vI 1]/\Bw w w':=by
 have a:=fun W=>XW s h W
 have f:=fun W=>XW s2 g W
 generalize UB (bl s)=b1 at *;generalize UB (bl s2)=b2 at *
 cases b1<;>cases b2
 all_goals first|cases i|skip
 all_goals
  go_enter func73,ntmps73
  go_wp2_with (first
   |(go_at_call 113;refine(a _).mono ?_;clear a;rintro e l ⟨⟨j,rfl⟩,b⟩)
   |(go_at_call 113;refine(f _).mono ?_;rintro e m ⟨⟨k,rfl⟩,c⟩;have d:=s5 b c))
  exact Us (v:=.tuple #[v0_,vI 1]) (by simp[results,results73,go_sem]) rfl ⟨rfl,d⟩
section
variable {w:World}{br g cap:Nat}{L:List zx}{ao:Option Addr}{cW:Nat}{Ws:List Wk}{zo st:Int}
theorem sq(h:zy w br g cap L ao cW Ws zo st)(E:ym L)(r:∀a∈L,∀b∈L,a.zb=b.zb->a=b)(s s2:ByteArray)(o:s.size<=2000000)(z:s2.size<=2000000)(p:(UB (bl s)&&UB (bl s2))=true)(j:yv L (bl s)=er)(c:er≠0):
  Calls prog 73 #[vP br,vG s,vG s2] w fun e w'=>e=vT #[v0_,vI er]/\Bw w w':=by
 have d:=fun W=>XW s o W
 have l:=fun W=>XW s2 z W
 obtain⟨m,n⟩:UB (bl s)=true/\UB (bl s2)=true:=by simpa using p
 rw[m]at d;rw[n]at l;clear m n;have x:∀W,Bw w W->Calls prog 117 #[vP br,vG s] W fun e w'=>e=vT #[vI 0,vI er]/\Bw W w':=fun W B=>(ZW (h.below B).ref E r s o).mono fun e w' hp=>by
  obtain⟨A,hb⟩:=hp
  rcases A with ⟨_,i⟩|⟨i,_⟩
  ·rw[<-j];exact⟨i,hb⟩
  ·exact absurd (j.symm.trans i) c
 have C:(er != 0)=true:=by simp[c]
 have G:(er == 0)=false:=by simp[c]
 clear h j p c
 go_enter func73,ntmps73
 go_wp2_with (first
  |(go_at_call 113;refine(d _).mono ?_;clear d;rintro e H ⟨⟨D,rfl⟩,t⟩)
  |(go_at_call 113;refine(l _).mono ?_;rintro e I ⟨⟨F,rfl⟩,u⟩;have k:=s5 t u)
  |(go_at_call 117;refine(x _ k).mono ?_;rintro e f ⟨rfl,y⟩;have q:=s5 k y))
 exact Us (v:=.tuple #[v0_,vI er]) (by simp[results,results73,go_sem]) rfl ⟨rfl,q⟩
theorem sX(h:zy w br g cap L ao cW Ws zo st)(E:ym L)(l:∀a∈L,∀b∈L,a.zb=b.zb->a=b)(s s2:ByteArray)(p:s.size<=2000000)(C:s2.size<=2000000)(q:UB (bl s)=true)(d:UB (bl s2)=true)(o:yv L (bl s)=0){x:zx}(r:UW L (s4 (bl s))=some x)(t:UW L (s4 (bl s2))=none):
  Calls prog 73 #[vP br,vG s,vG s2] w fun e w'=>e=vT #[v0_,vI 3]/\Bw w w':=by
 have c:=fun W=>XW s p W
 have n:=fun W=>XW s2 C W
 rw[q]at c;rw[d]at n;have z:=fun W (j:Bw w W)=>YK (h.below j).ref E l s p o r
 have B:=fun W (j:Bw w W)=>Yk (h.below j).ref E l s2 (s4 (bl s2)) (by rw[<-VY];exact d) (Wi _).symm t
 clear h o q d r t
 go_enter func73,ntmps73
 go_wp2_with (first
  |(go_at_call 113;refine(c _).mono ?_;clear c;rintro e I ⟨⟨G,rfl⟩,u⟩)
  |(go_at_call 113;refine(n _).mono ?_;rintro e J ⟨⟨H,rfl⟩,y⟩;have m:=s5 u y)
  |(go_at_call 117;refine(z _ m).mono ?_;rintro e f ⟨⟨i,rfl,F⟩,A⟩;have k:=s5 m A;clear F)
  |(go_at_call 114;refine(B _ k).mono ?_;rintro e K ⟨rfl,D⟩;subst D))
 exact Us (v:=.tuple #[v0_,vI 3]) (by simp[results,results73,go_sem]) rfl ⟨rfl,k⟩
theorem bW(h:zy w br g cap L ao cW Ws zo st)(E:ym L)(f:∀a∈L,∀b∈L,a.zb=b.zb->a=b)(s2:ByteArray)(i:UB (bl s2)=true){y:zx}(l:UW L (s4 (bl s2))=some y)(k:L.length=n):
  ∀W,Bw w W->Calls prog 114 #[vP br,vG s2] W fun e w'=>(∃j:Nat,e=vR (vI j)/\(j:Int)<n/\¬((j:Int)<0)/\W.cell? (vA br 0)=some (vS g n cap)/\W.cell? (vA g (j*6+1))=some (.bool y.zj))/\w'=W:=fun W c=>by
 refine(YJ (h.below c).ref E f s2 (s4 (bl s2)) (by rw[<-VY];exact i) (Wi _).symm l).mono ?_
 rintro e w' ⟨⟨j,rfl,d⟩,rfl⟩
 refine⟨⟨j,rfl,?_,o_,?_,?_⟩,rfl⟩
 ·have:=(Uy.1 d).1;omega
 ·have:=(h.below c).ref.zl.cell 0;rw[k]at this;simpa using this
 ·exact(h.below c).ref.zq d (j:=1) rfl
theorem sZ(h:zy w br g cap L ao cW Ws zo st)(E:ym L)(m:∀a∈L,∀b∈L,a.zb=b.zb->a=b)(s s2:ByteArray)(u:s.size<=2000000)(I:s2.size<=2000000)(z:UB (bl s)=true)(d:UB (bl s2)=true)(r:yv L (bl s)=0){x y:zx}(A:UW L (s4 (bl s))=some x)(B:UW L (s4 (bl s2))=some y)(t:y.zj=true):
  Calls prog 73 #[vP br,vG s,vG s2] w fun e w'=>e=vT #[v0_,vI 5]/\Bw w w':=by
 have H:=h.ref.WQ;obtain⟨n,k⟩:∃n,L.length=n:=⟨_,rfl⟩;rw[k]at H;have c:=fun W=>XW s u W
 have q:=fun W=>XW s2 I W
 rw[z]at c;rw[d]at q;have F:=fun W (K:Bw w W)=>YK (h.below K).ref E m s u r A
 have p:=bW h E m s2 d B k;rw[t]at p;clear h r z d A B t k
 go_enter func73,ntmps73
 go_wp2_with (first
  |(go_at_call 113;refine(c _).mono ?_;clear c;rintro e T ⟨⟨P,rfl⟩,C⟩)
  |(go_at_call 113;refine(q _).mono ?_;rintro e U ⟨⟨Q,rfl⟩,D⟩;have o:=s5 C D)
  |(go_at_call 117;refine(F _ o).mono ?_;rintro e f ⟨⟨i,rfl,M⟩,G⟩;have l:=s5 o G;clear M)
  |(go_at_call 114;refine(p _ l).mono ?_;rintro e V ⟨⟨j,rfl,R,S,N,O⟩,J⟩;subst J))
 exact Us (v:=.tuple #[v0_,vI 5]) (by simp[results,results73,go_sem]) rfl ⟨rfl,l⟩
theorem rz(h:zy w br g cap L ao cW Ws zo st)(E:ym L)(o:∀a∈L,∀b∈L,a.zb=b.zb->a=b)(s s2:ByteArray)(l:s.size<=2000000)(u:s2.size<=2000000)(C:UB (bl s)=true)(d:UB (bl s2)=true)(A:yv L (bl s)=0){x y:zx}(D:UW L (s4 (bl s))=some x)(F:UW L (s4 (bl s2))=some y)(B:y.zj=false)(t:xc (bl s2) (bl s)=true):
  Calls prog 73 #[vP br,vG s,vG s2] w fun e w'=>e=vT #[v0_,vI 10]/\Bw w w':=by
 have K:=h.ref.WQ;obtain⟨n,k⟩:∃n,L.length=n:=⟨_,rfl⟩;rw[k]at K;have c:=fun W=>XW s l W
 have r:=fun W=>XW s2 u W
 rw[C]at c;rw[d]at r;have I:=fun W (N:Bw w W)=>YK (h.below N).ref E o s l A D
 have q:=bW h E o s2 d F k;rw[B]at q;have z:=fun W=>X3 s2 s W u l
 rw[t]at z;clear h A C d D F B k t
 go_enter func73,ntmps73
 go_wp2_with (first
  |(go_at_call 113;refine(c _).mono ?_;clear c;rintro e X ⟨⟨S,rfl⟩,G⟩)
  |(go_at_call 113;refine(r _).mono ?_;rintro e Y ⟨⟨T,rfl⟩,H⟩;have p:=s5 G H)
  |(go_at_call 117;refine(I _ p).mono ?_;rintro e f ⟨⟨i,rfl,O⟩,J⟩;have m:=s5 p J;clear O)
  |(go_at_call 114;refine(q _ m).mono ?_;rintro e Z ⟨⟨j,rfl,U,V,Q,R⟩,M⟩;subst M)
  |(go_at_call 121;refine(z _).mono ?_;rintro e aa ⟨rfl,P⟩;subst P))
 exact Us (v:=.tuple #[v0_,vI 10]) (by simp[results,results73,go_sem]) rfl ⟨rfl,m⟩
end
theorem jJ{l:List Bs}(h:l.length=M+1):l[M]?=some (mN l):=by
 have a:l≠[]:=fun e=>by rw[e]at h;simp at h
 have:M=l.length-1:=o_
 rw[this,<- List.getLast?_eq_getElem?,List.getLast?_eq_some_getLast a];unfold mN;rw[List.getLastD_eq_getLast?,List.getLast?_eq_some_getLast a];rfl
theorem b7{l:List Bs}(a:UL l=true)(h:l.length=M+1):Vs (mN l)=true:=WO a (Uq (jJ h))
theorem dV{l:List Bs}(a:UL l=true)(h:Vs nm=true):UL (l++[nm])=true:=by
 simp only[UL,List.all_append,List.all_cons,List.all_nil,Bool.and_true,Bool.and_eq_true]at a ⊢
 exact⟨a,h⟩
theorem hk(s:ByteArray)(i:s.size<=2000000)(j:UB (bl s)=true)(M:Nat)(c:(s4 (bl s)).length=M+1)(w:World):
  Calls prog 113 #[vG s] w fun e w'=>(∃b cap,e=vT #[vS b (M+1) cap,.bool true]/\M+1<=cap/\cap<=maxLen/\b<w'.heap.size/\w'.cell? (vA b M)=some (vG (sb (mN (s4 (bl s))))))/\Bw w w':=by
 refine(Z0 s i j M c w).mono ?_
 rintro e w' ⟨⟨b,cap,rfl,d,f,h⟩,hb⟩
 obtain⟨g',a,h3,g⟩:=h.cell M _ (jJ c);injection a with a;injection a with a;subst a
 exact⟨⟨b,cap,rfl,d,f,h3,g⟩,hb⟩
theorem iF{l:List Bs}(m:l.length<=4)(nm:Bs)(W:World)(a:Option Addr)(c d:Nat)(g:l.length<=c)(h:c<=maxLen)(i:W.ownsRow 0 9 1 (.slice a l.length c) l.length (strs l))(hb:zg W d 9 #[vG (sb nm)]):
  ∃f w',(∀k,(Builtin.append_ #[46,46] k #[.slice a l.length c,vS d 1 1]).run prog W=.ok f w')/\∃e cap',f=.slice e (l.length+1) cap'/\vn W (Value.slice a l.length c).ownBlock 9 1 (l.length+1) (strs (l++[nm])) e cap' w':=by
 rw[dt]
 exact XN cE inf9 o_ W a l.length c g h (strs l) i (some (vA d 0)) 1 1 [vG (sb nm)] rfl (fun _=>⟨_,rfl,fun j u b=>by
  rw[Addr.add_lit,Nat.zero_add,hb.cell];simpa using b⟩) (fun u b=>by simp at b;subst b;rfl) (by unfold maxLen;omega) o_
theorem h5{l:List Bs}(o:l.length<=4)(i:UL l=true)(nm:Bs)(k:Vs nm=true)(W:World)(a:Option Addr)(c:Nat)(f:W.ownsRow 0 9 1 (.slice a (l.length+1) c) (l.length+1) (strs (l++[nm]))):
  Calls prog 122 #[.slice a (l.length+1) c] W fun e w'=>e=vR (vG (sb (kN (l++[nm]))))/\w'=W:=by
 have:=iW a c (l++[nm]) W t_ (fun x b=>by have:=(Yw (WO (dV i k) b)).2;omega) t_
  (fun j x b=>by
   obtain⟨d,n,m,_,_⟩:=VX f o_;injection m with h _ _;subst h
   have:=f.cells (g:=d) rfl j (vG (sb x)) (by unfold strs;rw[VB,b];rfl)
   rw[Addr.add_lit,Nat.zero_add]at this
   exact⟨d,rfl,this⟩)
 simpa using this
section
variable {w:World}{br g cap:Nat}{L:List zx}{ao:Option Addr}{cW:Nat}{Ws:List Wk}{zo st:Int}
theorem sY(h:zy w br g cap L ao cW Ws zo st)(E:ym L)(r:∀a∈L,∀b∈L,a.zb=b.zb->a=b)(s s2:ByteArray)(P:s.size<=2000000)(ca:s2.size<=2000000)(q:UB (bl s)=true)(c:UB (bl s2)=true)(d:yv L (bl s)=0){x y:zx}(B:UW L (s4 (bl s))=some x)(C:UW L (s4 (bl s2))=some y)(da:y.zj=false)(ba:xc (bl s2) (bl s)=false){z:zx}(ea:UW L (s4 (bl s2)++[mN (s4 (bl s))])=some z):
  Calls prog 73 #[vP br,vG s,vG s2] w fun e w'=>e=vT #[v0_,vI 4]/\Bw w w':=by
 have Sa:=h.Wf;have pa:=h.ref.WQ;have R:(s4 (bl s2)).length<=4:=by
  have:=E.ok y (List.mem_of_find?_eq_some C)
  have e:y.zb=s4 (bl s2):=by have:=List.find?_some C;simpa using this
  rw[<-e];exact this.2
 have Ea:(s4 (bl s)).length<=4:=by
  have:=E.ok x (List.mem_of_find?_eq_some B)
  have e:x.zb=s4 (bl s):=by have:=List.find?_some B;simpa using this
  rw[<-e];exact this.2
 obtain⟨n,O⟩:∃n,L.length=n:=⟨_,rfl⟩;rw[O]at pa;obtain⟨M,A⟩:∃M,(s4 (bl s)).length=M+1:=by
  refine⟨(s4 (bl s)).length-1,?_⟩
  have:s4 (bl s)≠[]:=fun e=>by
   have Aa:bl s=[]:=by rw[<-Wi (bl s),e];rfl
   unfold yv at d;rw[q,if_neg s_,if_pos Aa]at d
   cases d
  have:=List.length_pos_iff.2 this
  omega
 have H:=fun W=>hk s P q M A W
 have F:=fun W=>dA s2 ca c W
 have Y:=fun W (N:Bw w W)=>YK (h.below N).ref E r s P d B
 have D:=bW h E r s2 c C O;rw[da]at D;have J:=fun W=>X3 s2 s W ca P
 rw[ba]at J;have I:=fun W a2 c2 ua=>iF (l:=s4 (bl s2)) R (mN (s4 (bl s))) W a2 c2 ua
 have Q:=fun W na oa=>h5 (l:=s4 (bl s2)) R (by rw[<-VY];exact c) (mN (s4 (bl s))) (b7 (by rw[<-VY];exact q) A) W na oa
 have ja:UL (s4 (bl s2)++[mN (s4 (bl s))])=true:=dV (by rw[<-VY];exact c) (b7 (by rw[<-VY];exact q) A);have aa:=fun W (N:Bw w W)=>YJ (h.below N).ref E r (sb (kN (s4 (bl s2)++[mN (s4 (bl s))]))) _ ja (UO _) ea
 obtain⟨o,S⟩:∃z,z=sb (kN (s4 (bl s2)++[mN (s4 (bl s))])):=⟨_,rfl⟩;rw[<-S]at Q aa;obtain⟨Ca,ia⟩:∃m,(s4 (bl s2)).length=m:=⟨_,rfl⟩;rw[ia]at F I Q R;obtain⟨Za,ha⟩:∃z,z=sb (mN (s4 (bl s))):=⟨_,rfl⟩;rw[<-ha]at H I;have Ma:M<=3:=o_;have Qa:((M:Int)+1)-1=M:=o_;clear h d q c B C da O ba ea ja A Ea S ia ha E r
 go_enter func73,ntmps73
 go_upto_region 16 with (first
  |(go_at_call 113;refine(H _).mono ?_;clear H;rintro e cb ⟨⟨K,cp,rfl,Va,Wa,G,ka⟩,X⟩)
  |(go_at_call 113;refine(F _).mono ?_;rintro e db ⟨⟨a2,c2,rfl,Fa,Ga,sa,ra⟩,t⟩;have Z:=s5 X t;have Ha:=(t.cell (p:=vA K M) G).trans ka)
  |(go_at_call 117;refine(Y _ Z).mono ?_;rintro e f ⟨⟨i,rfl,Ba⟩,u⟩;have V:=s5 Z u;clear Ba;have Na:=(u.cell (p:=vA K M) (VJ G t.size)).trans Ha)
  |(go_at_call 114;refine(D _ V).mono ?_;rintro e Ia ⟨⟨j,rfl,Ya,ab,La,Oa⟩,ta⟩;subst ta;have qa:=s8 (T:=fun _=>False) sa (zd.new u) (fun _ _ h=>h);have Ka:K<Ia.heap.size:=VJ G (Nat.le_trans t.size u.size))
  |(go_at_call 121;refine(J _).mono ?_;rintro e eb ⟨rfl,Da⟩;subst Da;have Pa:=V.size))
 clear F Y D J
 go_wp2_with (first
  |(at_builtin;refine Vk r_ _ _ _ _ rfl _ _ rfl r_ (I _ _ _ _ Fa Ga (s8 (T:=fun _=>False) qa (zd.new cl) (fun _ _ h=>h)) s6) ?_;rintro bb Ja ⟨Ra,Ta,rfl,U⟩;have ga:Bw w Ja:=YN (sl:=.slice a2 Ca c2) cl U.zf (fun b hb=>Nat.le_trans X.size (ra b hb)))
  |(go_at_call 122;refine(Q _ _ _ U.own).mono ?_;rintro e gb ⟨rfl,la⟩;subst la)
  |(go_at_call 114;refine(aa _ ga).mono ?_;rintro e ib ⟨⟨k,rfl,Xa⟩,ma⟩;subst ma;have Ua:(k:Int) >= 0:=o_))
 exact Us (v:=.tuple #[v0_,vI 4]) (by simp[results,results73,go_sem]) rfl ⟨rfl,ga⟩
end
theorem step_take{α β : Type _}(f : α -> β)(l:List α)(k:Nat)(y : α)(h:l[k]?=some y):(l.take (k+1)).map f=(l.take k).map f++[f y]:=by
 have a:=(Uy.1 h).1;rw[VT a,List.map_append];rw[Ur a]at h
 cases h
 rfl
theorem eh{t:TypeId}(ht:prog.underlying t=some (.slice e))(n:Wx e size bytes)(i:0<size)(h:bytes<=1000)(W:World)(a:Option Addr)(k c b:Nat)(xs:List Value)(new:Array Value)(o:new.size=size)(l:∀u∈new,u.oneCell'=true)(v:k<=1000)(m:k<=c)(q:c<=maxLen)(p:W.ownsRow 0 e size (.slice a k c) k xs)(hb:zg W b e new):
  ∃g w',(∀r,(Builtin.append_ #[t,t] r #[.slice a k c,vS b 1 1]).run prog W=.ok g w')/\∃f cap',g=.slice f (k+1) cap'/\vn W (Value.slice a k c).ownBlock e size (k+1) (xs++new.toList) f cap' w':=by
 have s:(k+1)*bytes<=1001*1000:=Nat.mul_le_mul o_ h
 exact XN ht n i W a k c m q xs p (some (vA b 0)) 1 1 new.toList (by simp[o]) (fun _=>⟨_,rfl,fun j u d=>by
  rw[Addr.add_lit,Nat.zero_add,hb.cell];simpa using d⟩) (fun u d=>l u (j_ d)) (by unfold maxLen;omega) o_
theorem eO{K:List Bs}(b:UL k=true)(a:UL K=true):xc (kN k) (kN K)=K.isPrefixOf k:=by
 rw[Bool.eq_iff_iff,ZI b a,WK]
def MovG (br g:Nat)(a:Option Nat)(L L':List zx)(Ws Ws':List Wk)(zo st:Int)(w:World)(e:Ending)(w':World):Prop :=
 (VU L' Ws'=true/\e=vT #[v0_,vI 11]/\V_ w br g a L zo ⟨Ws,st,[]⟩ v0_ w') \/
 (VU L' Ws'=false/\∃sl,e=vT #[sl,vI 0]/\V_ w br g a L' zo (UH L' ⟨Ws',st,[]⟩) sl w')
def Xf (L:List zx)(K d:List Bs):Bool:=L.any fun e=>decide (4<(xz K d e.zb).length)
theorem zy.putB{w:World}{br g cap:Nat}{L L':List zx}{ao:Option Addr}{cW:Nat}{Ws:List Wk}{zo st:Int}(h:zy w br g cap L ao cW Ws zo st)(c:Bw w f)(j:f.ownsRow 0 163 6 (vS g2 L'.length q2) L'.length (UP L'))(l:w.heap.size<=g2)
  (k:f.ownsRow 0 178 5 (.slice a2 Ws'.length c2) Ws'.length (UG Ws')) (a:∀b,(Value.slice a2 Ws'.length c2).ownBlock=some b->w.heap.size<=b/\b≠g2) :
  zy ((f.setCell (vA br 0) (vS g2 L'.length q2)).setCell (vA br 1) (.slice a2 Ws'.length c2)) br g2 q2 L' a2 c2 Ws' zo st/\zd (fun y=>y=br) w ((f.setCell (vA br 0) (vS g2 L'.length q2)).setCell (vA br 1) (.slice a2 Ws'.length c2)):=by
 have d:=h.Wf
 refine⟨⟨⟨?_,?_⟩,?_,?_⟩,((zd.new (T:=fun y=>y=br) c).setCell (p:=vA br 0) rfl _).setCell (p:=vA br 1) rfl _⟩
 ·have i:=((h.ref.zl.below c d).set 0 (vS g2 L'.length q2)).set 1 (.slice a2 Ws'.length c2)
  simpa using i
 ·exact UQ (UQ j (fun e=>by simp[Value.ownBlock]at e;omega) _) (fun e=>by simp[Value.ownBlock]at e;omega) _
 ·exact UQ (UQ k (fun e=>by have:=(a _ e).1;simp at this;omega) _) (fun e=>by have:=(a _ e).1;simp at this;omega) _
 ·intro b hb
  have:=a b hb
  exact⟨o_,this.2⟩
theorem lK{K:List Bs}(h:UL k=true)(a:UL d=true):UL (xz K d k)=true:=by
 unfold xz
 split
 ·simp only[UL,List.all_append,Bool.and_eq_true]at h a ⊢
  refine⟨a,?_⟩
  rw[List.all_eq_true]at h ⊢
  exact fun x b=>h x (List.mem_of_mem_drop b)
 ·exact h
theorem jM(K d k:List Bs):(xz K d k).length<=d.length+k.length:=by
 unfold xz
 split
 ·simp<;>omega
 ·omega
theorem kU{s:ByteArray}{K:List Bs}(d:bl s=kN K)(b:s.size<=2000000)(c:UL K=true)(a:UL k=true)(f:k.length<=4)(W:World):
  Calls prog 121 #[vG (sb (kN k)),vG s] W fun e w'=>e=vR (.bool (K.isPrefixOf k))/\w'=W:=by
 have:=X3 (sb (kN k)) s W (by rw[Wq];have:=XY _ a;omega) b
 rw[UO,d,eO a c]at this
 exact this
theorem kq{s:ByteArray}{K:List Bs}(f:bl s=kN K)(g:bl o=kN d)(j:K≠[])(i:d≠[])(h:UL d=true)(a:d.length<=5)(b:UL k=true)(c:k.length<=4)(hp:K.isPrefixOf k=true)(W:World):
  Calls prog 123 #[vG (sb (kN k)),vG s,vG o] W fun e w'=>e=vR (vG (sb (kN (xz K d k))))/\w'=W:=by
 obtain⟨tl,rfl⟩:=WK.1 hp
 have:=ry (k:=K) (k':=d) (tl:=tl) j i b h c a W
 rw[<-f,<- g,YU,YU]at this;rw[WC (aE _ _),List.drop_left]
 exact this
theorem kr{K:List Bs}(h:UL d=true)(i:d.length<=5)(g:UL k=true)(l:k.length<=4)(W:World):
  Calls prog 113 #[vG (sb (kN (xz K d k)))] W fun e w'=>(∃a c,e=vT #[.slice a (xz K d k).length c,.bool true]/\(xz K d k).length<=c/\c<=maxLen)/\Bw W w':=by
 have b:=lK (K:=K) g h;have j:=jM K d k;have f:s4 (bl (sb (kN (xz K d k))))=xz K d k:=by rw[UO];exact Zn b
 refine(dA (sb (kN (xz K d k))) (by rw[Wq];have:=XY _ b;omega) (by rw[VY,f];exact b) W).mono ?_
 rw[f]
 rintro e w' ⟨⟨a,c,rfl,g1,g2,_⟩,hb⟩
 exact⟨⟨a,c,rfl,g1,g2⟩,hb⟩
theorem kK(x:zx):∀u∈(Vj x).toArray,u.oneCell'=true:=fun u a=>bJ [x] u (by simpa [UP] using a)
theorem lv(x:Wk):∀u∈(VQ x).toArray,u.oneCell'=true:=fun u a=>Y7 [x] u (by simpa [UG] using a)
theorem qV(l:List zx)(x:zx):UP (l++[x])=UP l++Vj x:=by simp[UP]
theorem ko(l:List Wk)(x:Wk):UG (l++[x])=UG l++VQ x:=by simp[UG]
section
variable {w:World}{br g cap:Nat}{L:List zx}{ao:Option Addr}{cW:Nat}{Ws:List Wk}{zo st:Int}
theorem ih(h:zy w br g cap L ao cW Ws zo st)(E:ym L)(ib:∀a∈L,∀b∈L,a.zb=b.zb->a=b)(s s2:ByteArray)(nb:s.size<=2000000)(Ic:s2.size<=2000000)(Ma:UB (bl s)=true)(Qa:UB (bl s2)=true)(Sa:yv L (bl s)=0){x y:zx}(ob:UW L (s4 (bl s))=some x)(A:UW L (s4 (bl s2))=some y)(ha:y.zj=false)(Hc:xc (bl s2) (bl s)=false)(Mc:UW L (s4 (bl s2)++[mN (s4 (bl s))])=none)(I:ye ⟨Ws,st,[]⟩)(Xd:st<=900000000)
  (tc:Xf L (s4 (bl s)) (s4 (bl s2)++[mN (s4 (bl s))])=false->ym (L.map (wg (s4 (bl s)) (s4 (bl s2)++[mN (s4 (bl s))])))/\wb (L.map (wg (s4 (bl s)) (s4 (bl s2)++[mN (s4 (bl s))])))/\ye ⟨Ws.map (we (s4 (bl s)) (s4 (bl s2)++[mN (s4 (bl s))])),st,[]⟩) :
  Calls prog 73 #[vP br,vG s,vG s2] w fun e w'=>(Xf L (s4 (bl s)) (s4 (bl s2)++[mN (s4 (bl s))])=true/\e=vT #[v0_,vI 8]/\Bw w w')\/(Xf L (s4 (bl s)) (s4 (bl s2)++[mN (s4 (bl s))])=false/\MovG br g (Value.slice ao Ws.length cW).ownBlock L (L.map (wg (s4 (bl s)) (s4 (bl s2)++[mN (s4 (bl s))]))) Ws (Ws.map (we (s4 (bl s)) (s4 (bl s2)++[mN (s4 (bl s))]))) zo st w e w'):=by
 have Ye:=h.Wf;have Zd:=h.ref.WQ;have cc:(s4 (bl s2)).length<=4:=by
  have:=E.ok y (List.mem_of_find?_eq_some A)
  have e:y.zb=s4 (bl s2):=by have:=List.find?_some A;simpa using this
  rw[<-e];exact this.2
 have Ee:(s4 (bl s)).length<=4:=by
  have:=E.ok x (List.mem_of_find?_eq_some ob)
  have e:x.zb=s4 (bl s):=by have:=List.find?_some ob;simpa using this
  rw[<-e];exact this.2
 obtain⟨n,La⟩:∃n,L.length=n:=⟨_,rfl⟩;rw[La]at Zd;obtain⟨M,Ja⟩:∃M,(s4 (bl s)).length=M+1:=by
  refine⟨(s4 (bl s)).length-1,?_⟩
  have:s4 (bl s)≠[]:=fun e=>by
   have me:bl s=[]:=by rw[<-Wi (bl s),e];rfl
   unfold yv at Sa;rw[Ma,if_neg s_,if_pos me]at Sa
   cases Sa
  have:=List.length_pos_iff.2 this
  omega
 have Pb:=fun W=>hk s nb Ma M Ja W
 have Ob:=fun W=>dA s2 Ic Qa W
 have Gc:=fun W (Ta:Bw w W)=>YK (h.below Ta).ref E ib s nb Sa ob
 have Y:=bW h E ib s2 Qa A La;rw[ha]at Y;have Rb:=fun W=>X3 s2 s W Ic nb
 rw[Hc]at Rb;have mb:=fun W a2 c2 Ra=>iF (l:=s4 (bl s2)) cc (mN (s4 (bl s))) W a2 c2 Ra
 have Na:=fun W gb jb=>h5 (l:=s4 (bl s2)) cc (by rw[<-VY];exact Qa) (mN (s4 (bl s))) (b7 (by rw[<-VY];exact Ma) Ja) W gb jb
 have pb:UL (s4 (bl s2)++[mN (s4 (bl s))])=true:=dV (by rw[<-VY];exact Qa) (b7 (by rw[<-VY];exact Ma) Ja);have Lb:=fun W (Ta:Bw w W)=>Yk (h.below Ta).ref E ib (sb (kN (s4 (bl s2)++[mN (s4 (bl s))]))) _ pb (UO _) Mc
 obtain⟨o,vb⟩:∃z,z=sb (kN (s4 (bl s2)++[mN (s4 (bl s))])):=⟨_,rfl⟩;rw[<-vb]at Na Lb;obtain⟨te,Xb⟩:∃m,(s4 (bl s2)).length=m:=⟨_,rfl⟩;rw[Xb]at Ob mb Na cc;obtain⟨hf,Oc⟩:∃z,z=sb (mN (s4 (bl s))):=⟨_,rfl⟩;rw[<-Oc]at Pb mb;have Pe:M<=3:=o_;have Se:((M:Int)+1)-1=M:=o_;have Yc:=fun W (Ta:Bw w W)=>di (h.below Ta) E.len E.pos I.yh.yh.len
 have pd:s4 (bl s)≠[]:=fun e=>by rw[e]at Ja;simp at Ja
 have Bc:UL (s4 (bl s))=true:=by rw[<-VY];exact Ma
 have Gb:bl s=kN (s4 (bl s)):=(Wi _).symm;have Cc:bl o=kN (s4 (bl s2)++[mN (s4 (bl s))]):=by rw[vb,UO]
 have Ac:(s4 (bl s2)++[mN (s4 (bl s))]).length<=5:=by rw[List.length_append,Xb];simp;omega
 have gd:s4 (bl s2)++[mN (s4 (bl s))]≠[]:=s_;generalize s4 (bl s2)++[mN (s4 (bl s))]=d at *;generalize s4 (bl s)=K at *;have ic:=fun {k:List Bs} (pa:UL k=true) (ha:k.length<=4) (W:World)=>kU Gb nb Bc pa ha W
 have kc:=fun {k:List Bs} (pa:UL k=true) (ha:k.length<=4) (hp:K.isPrefixOf k=true) (W:World)=>kq Gb Cc pd gd pb Ac pa ha hp W
 have oc:=fun {k:List Bs} (pa:UL k=true) (ha:k.length<=4) (W:World)=>kr (K:=K) pb Ac pa ha W
 have Yd:=E.len;have Pc:=I.yh.yh.len;have Ce:=Y1 h.yc;obtain⟨m,Ub⟩:∃m,Ws.length=m:=⟨_,rfl⟩
 simp only at Pc
 rw[Ub]at Pc Ce;rw[La]at Yd;have R:Hid (L.length=n/\Ws.length=m):=⟨La,Ub⟩;have Hd:Hid (0<n):=by show 0<n;rw[<-La];exact E.pos
 clear Sa Ma Qa ob A ha La Hc Mc Ja Ee vb Xb Oc ib Ub Gb Cc pd gd pb Bc
 go_enter func73,ntmps73
 go_upto_region 16 with (first
  |(go_at_call 113;refine(Pb _).mono ?_;clear Pb;rintro e kf ⟨⟨Sb,cp,rfl,ee,ke,kb,mc⟩,Jb⟩)
  |(go_at_call 113;refine(Ob _).mono ?_;rintro e ea ⟨⟨a2,c2,rfl,jd,kd,aa,Z⟩,Pa⟩;have Kb:=s5 Jb Pa;have od:=(Pa.cell (p:=vA Sb M) kb).trans mc)
  |(go_at_call 117;refine(Gc _ Kb).mono ?_;rintro e f ⟨⟨i,rfl,oe⟩,N⟩;have Ib:=s5 Kb N;clear oe;have Ed:=(N.cell (p:=vA Sb M) (VJ kb Pa.size)).trans od)
  |(go_at_call 114;refine(Y _ Ib).mono ?_;rintro e Le ⟨⟨j,rfl,re,Ie,Bd,Gd⟩,je⟩;subst je;have Jc:=s8 (T:=fun _=>False) aa (zd.new N) (fun _ _ h=>h);have Ad:Sb<Le.heap.size:=VJ kb (Nat.le_trans Pa.size N.size))
  |(go_at_call 121;refine(Rb _).mono ?_;rintro e mf ⟨rfl,Ae⟩;subst Ae;have Qe:=Ib.size))
 clear Ob Gc Y Rb
 go_wp2_with (first
  |(at_builtin;refine Vk r_ _ _ _ _ rfl _ _ rfl r_ (mb _ _ _ _ jd kd (s8 (T:=fun _=>False) Jc (zd.new cl) (fun _ _ h=>h)) s6) ?_;rintro jf Me ⟨Xe,Ze,rfl,Hb⟩;have Va:Bw w Me:=YN (sl:=.slice a2 te c2) cl Hb.zf (fun b hb=>Nat.le_trans Jb.size (Z b hb)))
  |(go_at_call 122;refine(Na _ _ _ Hb.own).mono ?_;rintro e nf ⟨rfl,Qd⟩;subst Qd)
  |(go_at_call 114;refine(Lb _ Va).mono ?_;rintro e qf ⟨rfl,Sd⟩;subst Sd)
  |(go_at_call 119;refine(Yc _ Va).mono ?_;rintro e t ⟨Nb,g2,Lc,Yb,Zb,rfl,Zc,sc,m1,Dc,Wa⟩))
 have Ca:Bw w t:=s5 Va sc;have Vd:=Va.size;have m1:w.heap.size<=Nb:=o_;have Dc:w.heap.size<=g2:=o_;have Wa:∀b,(Value.slice Yb Ws.length Zb).ownBlock=some b->w.heap.size<=b:=fun b hb=>by have:=Wa b hb;omega
 have Da:=h.below Ca;clear mb Na Lb Yc Hb Va sc Vd Jc mc od Ed aa Z Jb Pa N Kb Ib re Ie Bd Gd jd kd ee ke kb Ad;have rf:g<t.heap.size:=(Da.ref.row.lt g rfl).2;have af:br<t.heap.size:=Da.Wf
 go_loopw [19,20] (fun l i wr=>∃(k:Nat) (a:Option Addr) (c:Nat),k<=n/\i=vI k/\l=.slice a k c/\k<=c/\c<=maxLen/\Bw t wr/\wr.ownsRow 0 163 6 (.slice a k c) k (UP ((L.take k).map (wg K d)))/\(∀b,(Value.slice a k c).ownBlock=some b->t.heap.size<=b)/\(∀e∈L.take k,(xz K d e.zb).length<=4)) (fun _ i _=>n-(intOf i).toNat)
 case atStart=>exact⟨0,none,0,Nat.zero_le _,rfl,rfl,Nat.le_refl _,Nat.zero_le _,Below.refl _ _,Vx _ _ _ _,(fun b hb=>by simp[Value.ownBlock]at hb),fun e Ka=>by simp at Ka⟩
 case round =>
  obtain⟨k,a,c,pa,rfl,rfl,td,Nc,da,ga,Ga,bb⟩:=hrel;have C:=Da.below da;have c0:wr.cell? (vA br 0)=some (vS g n cap):=by have:=C.ref.zl.cell 0;rw[R.out.1]at this;simpa using this
  have Ke:br<wr.heap.size:=C.Wf;have Nd:g<wr.heap.size:=(C.ref.row.lt g rfl).2
  by_cases Fa:k<n
  ·obtain⟨y,A⟩:∃y,L[k]?=some y:=⟨_,Ur (by rw[R.out.1];exact Fa)⟩;have Ia:=Uq A;obtain⟨ia,ja⟩:=E.ok y Ia;have jc:=ic ia ja;have ta:=kc ia ja;have qb:=oc ia ja;have cd:=C.ref.zq A (j:=0) rfl;have Fe:=C.ref.zq A (j:=1) rfl;have q2:=C.ref.zq A (j:=2) rfl;have dd:=C.ref.zq A (j:=3) rfl;have Ge:=C.ref.zq A (j:=4) rfl;have He:=C.ref.zq A (j:=5) rfl;simp only[Nat.add_zero]at cd;have ra:Hid (UP ((L.take (k+1)).map (wg K d))=UP ((L.take k).map (wg K d))++(Vj (wg K d y)).toArray.toList):=by
    show _=_
    rw[step_take _ _ _ _ A,qV]
   have Bb:Hid (4<(xz K d y.zb).length->Xf L K d=true):=fun hd=>by
    show Xf L K d=true
    unfold Xf;rw[W7];exact⟨y,Ia,decide_eq_true hd⟩
   have Ab:Hid ((xz K d y.zb).length<=4->∀e∈L.take (k+1),(xz K d e.zb).length<=4):=fun hd e Ka=>by
    have Fc:=(Uy.1 A).1;rw[VT Fc]at Ka
    rcases UU.1 Ka with Ha|Ha
    ·exact bb e Ha
    ·simp at Ha;rw[Ur Fc]at A;cases A;rw[Ha];exact hd
   have sa:=fun (W:World) (Ra:Nat)=>eh Z8 cg o_ o_ W a k c Ra (UP ((L.take k).map (wg K d))) (Vj (wg K d y)).toArray rfl (kK _) o_ td Nc
   have Oa:(Vj (wg K d y)).toArray=#[vG (sb (kN (xz K d y.zb))),.bool y.zj,vI y.n0,vI y.n1,vI y.b0,vI y.b1]:=rfl;rw[Oa]at sa ra;obtain⟨ka,Cb⟩:∃q,q=(xz K d y.zb).length:=⟨_,rfl⟩;rw[<-Cb]at Bb Ab qb;have Re:ka<=100:=by rw[Cb];have:=jM K d y.zb;omega
   have na:K.isPrefixOf y.zb=false->xz K d y.zb=y.zb:=fun e=>by unfold xz;rw[e];rfl
   generalize xz K d y.zb=G at *;have Be:(k:Int)<n:=o_;have ie:(0:Int)<=k:=o_;generalize UP ((L.take k).map (wg K d))=xs at *;clear bb A Ia ia ja C Cb Oa
   go_upto_region 27 with fail
   all_goals
    have oa:Bw wr (wr.alloc (.cells #[vG (sb (kN y.zb)),.bool y.zj,vI y.n0,vI y.n1,vI y.b0,vI y.b1] 163)):=cl;have B:zg (wr.alloc (.cells #[vG (sb (kN y.zb)),.bool y.zj,vI y.n0,vI y.n1,vI y.b0,vI y.b1] 163)) wr.heap.size 163 #[vG (sb (kN y.zb)),.bool y.zj,vI y.n0,vI y.n1,vI y.b0,vI y.b1]:=zg.new wr 163 _;have U:Bw t (wr.alloc (.cells #[vG (sb (kN y.zb)),.bool y.zj,vI y.n0,vI y.n1,vI y.b0,vI y.b1] 163)):=da.trans (oa.mono da.size);have V:=s8 (T:=fun _=>False) ga (zd.new oa) (fun _ _ h=>h);have Ua:t.heap.size<=wr.heap.size:=da.size;have cb:(Value.slice a k c).ownBlock≠some wr.heap.size:=fun e=>by have:=UI ga e;omega
    generalize wr.alloc (.cells #[vG (sb (kN y.zb)),.bool y.zj,vI y.n0,vI y.n1,vI y.b0,vI y.b1] 163)=Wd at B U V ⊢;generalize wr.heap.size=bq at B Ua cb ⊢;clear oa cd Fe q2 dd Ge He c0 ga da Ke Nd;have b0:=B.cell 0;have Mb:=B.frozen 0;have Eb:=B.lt;simp only[s7]at b0
    go_wp2_with fail
    refine(jc _).mono ?_
    rintro e ea ⟨rfl,Qb⟩
    subst Qb
    cases X:K.isPrefixOf y.zb
    ·have Ea:=na X;rw[X]at *;have r:zg ea bq 163 #[vG (sb (kN G)),.bool y.zj,vI y.n0,vI y.n1,vI y.b0,vI y.b1]:=by rw[Ea];exact B
     have D:=U;have S:=V;rw[<-Ea]at b0;clear B U V b0 ta na Ea X;have b0:=r.cell 0;have F:=r.cell 1;have Q:=r.cell 2;have O:=r.cell 3;have P:=r.cell 4;have ca:=r.cell 5;simp only[s7]at b0 F Q O P ca
     go_wp2_with fail
     refine(qb _).mono ?_
     rintro e f ⟨⟨gb,jb,rfl,Kd,Ld⟩,N⟩
     have ba:Bw t f:=D.trans (N.mono D.size);have H:=r.below N r.lt;have rb:=s8 (T:=fun _=>False) S (zd.new N) (fun _ _ h=>h);clear b0 F Q O P ca r D S;have b0:=H.cell 0;have F:=H.cell 1;have Q:=H.cell 2;have O:=H.cell 3;have P:=H.cell 4;have ca:=H.cell 5;have yb:=H.lt;simp only[s7]at b0 F Q O P ca
     by_cases Aa:4<ka
     ·have hc:(ka:Int)>4:=o_;have Fb:Hid (Xf L K d=true):=Bb.out Aa
      go_wp2_with fail
      exact Us (v:=.tuple #[v0_,vI 8]) (by simp[results,results73,go_sem]) rfl (.inl ⟨Fb.out,rfl,Ca.trans (ba.mono Ca.size)⟩)
     ·have hc:¬((ka:Int)>4):=o_
      go_wp2_with (at_builtin;refine Vk r_ _ _ _ _ rfl _ _ rfl r_ (sa _ _ (s8 (T:=fun _=>False) rb (zd.new cl) (fun _ _ h=>h)) s6) ?_;rintro fc Ba ⟨la,ma,rfl,u⟩;have qa:Bw t Ba:=YN (sl:=.slice a k c) (ba.trans ((by exact cl:Bw f _).mono ba.size)) u.zf Ga)
      go_round
      case rel=>exact⟨k+1,la,ma,o_,by go_num,rfl,u.le,u.mx,qa,by rw[ra.out];exact u.own,fun b hb=>by
       rcases u.new b hb with e|e
       ·exact Ga b e
       ·have Tb:=ba.size;simp at e;omega,Ab.out o_⟩
      case measure=>simp[intOf];omega
    ·have Xa:=ta X;clear na ta
     go_wp2_with fail
     refine(Xa _).mono ?_
     rintro e f ⟨rfl,Wb⟩
     subst Wb;have r:zg (f.setCell (vA bq 0) (vG (sb (kN G)))) bq 163 #[vG (sb (kN G)),.bool y.zj,vI y.n0,vI y.n1,vI y.b0,vI y.b1]:=by simpa using B.set 0 (vG (sb (kN G)))
     have D:Bw t (f.setCell (vA bq 0) (vG (sb (kN G)))):=U.setCell (p:=vA bq 0) Ua _;have S:(f.setCell (vA bq 0) (vG (sb (kN G)))).ownsRow 0 163 6 (.slice a k c) k xs:=UQ V cb _
     go_upto_region 30 with fail
     generalize f.setCell (vA bq 0) (vG (sb (kN G)))=Db at r D S ⊢;clear B U V b0 Mb Eb Xa X;have b0:=r.cell 0;have F:=r.cell 1;have Q:=r.cell 2;have O:=r.cell 3;have P:=r.cell 4;have ca:=r.cell 5;simp only[s7]at b0 F Q O P ca
     go_wp2_with fail
     refine(qb _).mono ?_
     rintro e f ⟨⟨gb,jb,rfl,Kd,Ld⟩,N⟩
     have ba:Bw t f:=D.trans (N.mono D.size);have H:=r.below N r.lt;have rb:=s8 (T:=fun _=>False) S (zd.new N) (fun _ _ h=>h);clear b0 F Q O P ca r D S;have b0:=H.cell 0;have F:=H.cell 1;have Q:=H.cell 2;have O:=H.cell 3;have P:=H.cell 4;have ca:=H.cell 5;have yb:=H.lt;simp only[s7]at b0 F Q O P ca
     by_cases Aa:4<ka
     ·have hc:(ka:Int)>4:=o_;have Fb:Hid (Xf L K d=true):=Bb.out Aa
      go_wp2_with fail
      exact Us (v:=.tuple #[v0_,vI 8]) (by simp[results,results73,go_sem]) rfl (.inl ⟨Fb.out,rfl,Ca.trans (ba.mono Ca.size)⟩)
     ·have hc:¬((ka:Int)>4):=o_
      go_wp2_with (at_builtin;refine Vk r_ _ _ _ _ rfl _ _ rfl r_ (sa _ _ (s8 (T:=fun _=>False) rb (zd.new cl) (fun _ _ h=>h)) s6) ?_;rintro fc Ba ⟨la,ma,rfl,u⟩;have qa:Bw t Ba:=YN (sl:=.slice a k c) (ba.trans ((by exact cl:Bw f _).mono ba.size)) u.zf Ga)
      go_round
      case rel=>exact⟨k+1,la,ma,o_,by go_num,rfl,u.le,u.mx,qa,by rw[ra.out];exact u.own,fun b hb=>by
       rcases u.new b hb with e|e
       ·exact Ga b e
       ·have Tb:=ba.size;simp at e;omega,Ab.out o_⟩
      case measure=>simp[intOf];omega
  ·have pe:k=n:=o_;subst pe;have db:L.take k=L:=Vl (h_ R.out.1);rw[db]at ga bb;have Aa:Xf L K d=false:=by
    unfold Xf;rw[List.any_eq_false];intro e Ka
    have:=bb e Ka
    simp;omega
   obtain⟨qc,sd,wc⟩:=tc Aa;obtain⟨g3,dd,Je,_,_⟩:=VX ga Hd.out;injection Je with Ha _ de;subst Ha de;have Md:t.heap.size<=g3:=Ga g3 rfl;have Te:g3<wr.heap.size:=UI ga rfl;obtain⟨J,Pd⟩:∃J,J=wr:=⟨_,rfl⟩;subst Pd;have vc:Hid (zy t br g cap L ao cW Ws zo st/\zy t Nb g2 Lc L Yb Zb Ws zo st/\J.ownsRow 0 163 6 (vS g3 k c) k (UP (L.map (wg K d)))/\ym (L.map (wg K d))/\wb (L.map (wg K d))/\ye ⟨Ws.map (we K d),st,[]⟩/\ye ⟨Ws,st,[]⟩):=⟨Da,Zc,ga,qc,sd,wc,I⟩;have Td:=I.yh.yh.ok;have nc:=Da.below da;have Ud:Hid (Xf L K d=false):=Aa;clear Aa qc sd wc db bb ga Ga oc tc C Da Zc E I h td Nc Fa pa
   go_wp2_with fail
   clear c0
   go_loopw [25,26] (fun l i ea=>∃(j:Nat) (a:Option Addr) (c:Nat),j<=m/\i=vI j/\l=.slice a j c/\j<=c/\c<=maxLen/\Bw J ea/\ea.ownsRow 0 178 5 (.slice a j c) j (UG ((Ws.take j).map (we K d)))/\(∀b,(Value.slice a j c).ownBlock=some b->J.heap.size<=b)) (fun _ i _=>m-(intOf i).toNat)
   case atStart=>exact⟨0,none,0,Nat.zero_le _,rfl,rfl,Nat.le_refl _,Nat.zero_le _,Below.refl _ _,Vx _ _ _ _,(fun b hb=>by simp[Value.ownBlock]at hb)⟩
   case round =>
    obtain⟨j,a2,c2,ef,rfl,rfl,Od,Dd,ua,aa,Z⟩:=hrel;have C:=nc.below ua;have c1:wr.cell? (vA br 1)=some (.slice ao m cW):=by have:=C.ref.zl.cell 1;rw[R.out.2]at this;simpa using this
    have Cd:br<wr.heap.size:=C.Wf
    by_cases Fa:j<m
    ·obtain⟨y,A⟩:∃y,Ws[j]?=some y:=⟨_,Ur (by rw[R.out.2];exact Fa)⟩;have Ia:=Uq A;obtain⟨ia,ja⟩:=Td y Ia;have jc:=ic ia ja;have ta:=kc ia ja;obtain⟨b,Kc,ae,fe,ff,De,Ya,Za,ab,ec⟩:=C.wk A;rw[R.out.2]at fe;rw[Kc]at c1;have ra:Hid (UG ((Ws.take (j+1)).map (we K d))=UG ((Ws.take j).map (we K d))++(VQ (we K d y)).toArray.toList):=by
      show _=_
      rw[step_take _ _ _ _ A,ko]
     have sa:=fun (W:World) (Ra:Nat)=>eh un70 Zj o_ o_ W a2 j c2 Ra (UG ((Ws.take j).map (we K d))) (VQ (we K d y)).toArray rfl (lv _) o_ Od Dd
     have Oa:(VQ (we K d y)).toArray=#[vI y.zm,vG (sb (kN (xz K d y.zb))),vI y.d0,vI y.d1,vI y.st]:=rfl;rw[Oa]at sa ra;have na:K.isPrefixOf y.zb=false->xz K d y.zb=y.zb:=fun e=>by unfold xz;rw[e];rfl
     generalize xz K d y.zb=G at *;have Be:(j:Int)<m:=o_;have ie:(0:Int)<=j:=o_;generalize UG ((Ws.take j).map (we K d))=xs at *;clear A Ia ia ja C Oa Kc
     go_upto_region 39 with fail
     have oa:Bw wr (wr.alloc (.cells #[vI y.zm,vG (sb (kN y.zb)),vI y.d0,vI y.d1,vI y.st] 178)):=cl;have B:zg (wr.alloc (.cells #[vI y.zm,vG (sb (kN y.zb)),vI y.d0,vI y.d1,vI y.st] 178)) wr.heap.size 178 #[vI y.zm,vG (sb (kN y.zb)),vI y.d0,vI y.d1,vI y.st]:=zg.new wr 178 _;have U:Bw J (wr.alloc (.cells #[vI y.zm,vG (sb (kN y.zb)),vI y.d0,vI y.d1,vI y.st] 178)):=ua.trans (oa.mono ua.size);have V:=s8 (T:=fun _=>False) aa (zd.new oa) (fun _ _ h=>h);have Ua:J.heap.size<=wr.heap.size:=ua.size;have cb:(Value.slice a2 j c2).ownBlock≠some wr.heap.size:=fun e=>by have:=UI aa e;omega
     generalize wr.alloc (.cells #[vI y.zm,vG (sb (kN y.zb)),vI y.d0,vI y.d1,vI y.st] 178)=Wd at B U V ⊢;generalize wr.heap.size=bq at B Ua cb ⊢;clear oa De Ya Za ab ec c1 aa ua Cd ae;have F:=B.cell 1;have Mb:=B.frozen 1;have Eb:=B.lt;simp only[s7]at F
     go_wp2_with fail
     refine(jc _).mono ?_
     rintro e ea ⟨rfl,Qb⟩
     subst Qb
     cases X:K.isPrefixOf y.zb
     ·have Ea:=na X;rw[X]at *;have r:zg ea bq 178 #[vI y.zm,vG (sb (kN G)),vI y.d0,vI y.d1,vI y.st]:=by rw[Ea];exact B
      have D:=U;have S:=V;clear B U V F ta na Ea X;have b0:=r.cell 0;have F:=r.cell 1;have Q:=r.cell 2;have O:=r.cell 3;have P:=r.cell 4;have yb:=r.lt;simp only[s7]at b0 F Q O P
      go_wp2_with (at_builtin;refine Vk r_ _ _ _ _ rfl _ _ rfl r_ (sa _ _ (s8 (T:=fun _=>False) S (zd.new cl) (fun _ _ h=>h)) s6) ?_;rintro fc Ba ⟨la,ma,rfl,u⟩;have qa:Bw J Ba:=YN (sl:=.slice a2 j c2) (D.trans ((by exact cl:Bw ea _).mono D.size)) u.zf Z)
      go_round
      case rel=>exact⟨j+1,la,ma,o_,by go_num,rfl,u.le,u.mx,qa,by rw[ra.out];exact u.own,fun b hb=>by
       rcases u.new b hb with e|e
       ·exact Z b e
       ·have Tb:=D.size;simp at e;omega⟩
      case measure=>simp[intOf];omega
     ·have Xa:=ta X;clear na ta
      go_wp2_with fail
      refine(Xa _).mono ?_
      rintro e f ⟨rfl,Wb⟩
      subst Wb;have r:zg (f.setCell (vA bq 1) (vG (sb (kN G)))) bq 178 #[vI y.zm,vG (sb (kN G)),vI y.d0,vI y.d1,vI y.st]:=by simpa using B.set 1 (vG (sb (kN G)))
      have D:Bw J (f.setCell (vA bq 1) (vG (sb (kN G)))):=U.setCell (p:=vA bq 1) Ua _;have S:(f.setCell (vA bq 1) (vG (sb (kN G)))).ownsRow 0 178 5 (.slice a2 j c2) j xs:=UQ V cb _
      go_upto_region 42 with fail
      generalize f.setCell (vA bq 1) (vG (sb (kN G)))=Db at r D S ⊢;clear B U V F Mb Eb Xa X;have b0:=r.cell 0;have F:=r.cell 1;have Q:=r.cell 2;have O:=r.cell 3;have P:=r.cell 4;have yb:=r.lt;simp only[s7]at b0 F Q O P
      go_wp2_with (at_builtin;refine Vk r_ _ _ _ _ rfl _ _ rfl r_ (sa _ _ (s8 (T:=fun _=>False) S (zd.new cl) (fun _ _ h=>h)) s6) ?_;rintro fc Ba ⟨la,ma,rfl,u⟩;have qa:Bw J Ba:=YN (sl:=.slice a2 j c2) (D.trans ((by exact cl:Bw Db _).mono D.size)) u.zf Z)
      go_round
      case rel=>exact⟨j+1,la,ma,o_,by go_num,rfl,u.le,u.mx,qa,by rw[ra.out];exact u.own,fun b hb=>by
       rcases u.new b hb with e|e
       ·exact Z b e
       ·have Tb:=D.size;simp at e;omega⟩
      case measure=>simp[intOf];omega
    ·have Na:j=m:=o_;subst Na;have db:Ws.take j=Ws:=Vl (h_ R.out.2);rw[db]at aa;obtain⟨Qc,Rc,Sc,Tc,Uc,Vc,qe⟩:=vc.out;have Xc:Bw t wr:=da.trans (ua.mono da.size);have Ec:(L.map (wg K d)).length=k:=by rw[List.length_map];exact R.out.1
     have eb:(Ws.map (we K d)).length=j:=by rw[List.length_map];exact R.out.2
     have qd:=s8 (T:=fun _=>False) Sc (zd.new ua) (fun _ _ h=>h);have Ue:=da.size;have Ve:=Ca.size;have Oe:Calls prog 120 #[vP br,vP Nb] ((wr.setCell (vA br 0) (vS g3 k c)).setCell (vA br 1) (.slice a2 j c2)) fun e w'=>∃sl er,e=vT #[sl,vI er]/\Hid (MovG br g (Value.slice ao Ws.length cW).ownBlock L (L.map (wg K d)) Ws (Ws.map (we K d)) zo st w (vT #[sl,vI er]) w'):=by
      obtain⟨Wc,Vb⟩:=Qc.putB (L':=L.map (wg K d)) (Ws':=Ws.map (we K d)) Xc (g2:=g3) (q2:=c) (by rw[Ec];exact qd) Md (a2:=a2) (c2:=c2) (by rw[eb];exact aa) (fun b hb=>by rw[eb]at hb;have:=Z b hb;exact⟨o_,o_⟩);rw[Ec,eb]at Wc Vb;have se:=Rc.cu Vb o_ o_ (fun b hb=>by have:=Wa b hb;omega);have ed:zd (fun b=>b=br\/b=g\/(Value.slice ao Ws.length cW).ownBlock=some b) w ((wr.setCell (vA br 0) (vS g3 k c)).setCell (vA br 1) (.slice a2 j c2)):=(zd.new Ca).step Vb (fun y _ e=>.inl e)
      exact(dH Wc Tc Uc Vc Xd se o_ o_ (fun b hb=>by have:=Wa b hb;omega)).mono fun e w' hp=>by
       rcases hp with ⟨Ya,Za,ab,ec⟩|⟨Ya,sl,gb,jb,Za,ab⟩
       ·exact⟨_,_,Za,.inl ⟨Ya,rfl,⟨⟨g2,Lc,Yb,Zb,ab,.inr Dc,fun b hb=>⟨fun Fa=>by have:=Wa b hb;omega,by simp[Value.ownBlock]⟩⟩,ed.step ec (fun y _ e=>.inl e),Vx _ _ _ _,fun b hb=>by simp[Value.ownBlock]at hb⟩⟩⟩
       ·exact⟨_,_,Za,.inr ⟨Ya,sl,rfl,V_.Zf ed ab (fun b hb Fa=>by rw[eb]at hb;have:=Z b hb;omega) (.inr o_)⟩⟩
     have Y:=C.ref.zl;rw[R.out.1,R.out.2]at Y;have bf:=Y.frozen 0;have cf:=Y.frozen 1;have c0:=Y.cell 0;simp only[s7]at c0;clear vc Qc Rc Sc qd Tc Uc Vc qe Y C nc ic kc aa Xc
     go_wp2_with (go_at_call 120;refine Oe.mono ?_;rintro e We ⟨sl,er,rfl,Jd⟩)
     exact Us (v:=.tuple #[sl,vI er]) (by simp[results,results73,go_sem]) rfl (.inr ⟨Ud.out,Jd.out⟩)
end
end Go.Proofs.YtphclnolomgjoaaGreatDoor
