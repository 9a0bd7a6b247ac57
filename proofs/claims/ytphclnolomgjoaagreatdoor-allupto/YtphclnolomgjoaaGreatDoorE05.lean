import GoSem.Op.String
import Derived.Test.YtphclnolomgjoaaGreatDoorE04
import Derived.Deep.LoopGhost
set_option linter.unusedVariables false
set_option linter.unusedSimpArgs false
set_option maxRecDepth 100000
set_option maxHeartbeats 4000000
namespace Go.Proofs.YtphclnolomgjoaaGreatDoor
open Tryz
section
theorem mJ(a:List UInt8):Op.bytesLess a []=false:=by cases a<;>rfl
theorem rT(a b:UInt8)(x y:List UInt8):Op.bytesLess (a::x) (b::y)=(decide (a<b)||(a == b&&Op.bytesLess x y)):=rfl
theorem cO(a b:UInt8)(x y:List UInt8):Op.bytesLess (a::x) (b::y)=true↔(a.toNat<b.toNat\/(a.toNat=b.toNat/\Op.bytesLess x y=true)):=by
 rw[rT];simp only[Bool.or_eq_true,Bool.and_eq_true,decide_eq_true_eq,beq_iff_eq,UInt8.lt_iff_toNat_lt,<- UInt8.toNat_inj]
theorem XT(a b:UInt8)(x y:List UInt8):Op.bytesLess (a::x) (b::y)=false↔(b.toNat<a.toNat\/(a.toNat=b.toNat/\Op.bytesLess x y=false)):=by
 have h:=cO a b x y
 constructor
 ·intro g;rw[g]at h;simp only[Bool.false_eq_true,false_iff,not_or,not_and,Bool.not_eq_true]at h
  rcases Nat.lt_trichotomy a.toNat b.toNat with c|c|c
  ·exact absurd c h.1
  ·exact .inr ⟨c,h.2 c⟩
  ·exact .inl c
 ·intro e
  cases hb:Op.bytesLess (a::x) (b::y)
  ·rfl
  ·rcases h.1 hb with c|⟨c,f⟩
   ·rcases e with h3|⟨h3,_⟩<;>omega
   ·rcases e with h3|⟨_,d⟩
    ·omega
    ·rw[f]at d;cases d
theorem YZ:∀(a b:List UInt8),Op.bytesLess a b=true->Op.bytesLess b a=false
 | [],[],h=>by cases h
 |a::x,[],h=>by cases h
 | [],b::y,h=>rfl
 |a::x,b::y,h=>by
  rcases(cO ..).1 h with c|⟨c,d⟩
  ·exact(XT ..).2 (.inl c)
  ·exact(XT ..).2 (.inr ⟨c.symm,YZ x y d⟩)
theorem ZU:∀(a b c:List UInt8),Op.bytesLess a b=false->Op.bytesLess b c=false->Op.bytesLess a c=false
 |a,b,[],_,_=>mJ a
 |a,[],c::z,_,h=>by cases h
 | [],b::y,c::z,h,_=>by cases h
 |a::x,b::y,c::z,d,e=>by
  rcases(XT ..).1 d with h3|⟨h3,f⟩<;>rcases(XT ..).1 e with g|⟨g,i⟩
  ·exact(XT ..).2 (.inl o_)
  ·exact(XT ..).2 (.inl o_)
  ·exact(XT ..).2 (.inl o_)
  ·exact(XT ..).2 (.inr ⟨o_,ZU x y z f i⟩)
theorem dx:∀(a b:List UInt8),Op.bytesLess a b=false->Op.bytesLess b a=false->a=b
 | [],[],_,_=>rfl
 | [],b::y,h,_=>by cases h
 |a::x,[],_,h=>by cases h
 |a::x,b::y,c,d=>by
  rcases(XT ..).1 c with h3|⟨h3,e⟩<;>rcases(XT ..).1 d with f|⟨f,g⟩
  ·omega
  ·omega
  ·omega
  ·rw[UInt8.toNat_inj.1 h3,dx x y e g]
theorem Yt(a:List UInt8):Op.bytesLess a a=false:=by
 cases h:Op.bytesLess a a
 ·rfl
 ·have:=YZ a a h;rw[h]at this;exact this
end
section
open Go.RowKit
variable {Ws Ws':List Wk}{B b br c cW cap g3 i n size:Nat}{x y:Wk}{a d st zo:Int}{W W' w l:World}{e:TypeId}{xs:List Value}{s f s0:SS}{ao:Option Addr}{o o3:Option Nat}{zt:List (Int×Int)}{T:Nat->Prop}
theorem bD(h:Ws[b]?=some x):Xl Ws b=kN x.zb:=by simp[Xl,h]
theorem jl(h:Ws[b]?=some x):ct Ws b=x.zm:=by simp[ct,h]
theorem nH(L:List zx)(Ws:List Wk)(a:Option Nat)(i:Nat):
  (∀b0,a=some b0->∃b,ik L Ws a i=some b/\Op.bytesLess (Xl Ws b0) (Xl Ws b)=false)/\(∀x,Ws[i]?=some x->xb L Ws x=true->∃b,ik L Ws a i=some b/\Op.bytesLess (Xl Ws i) (Xl Ws b)=false):=by
 unfold ik
 cases f:Ws[i]? with
 |none=>exact⟨fun b0 h=>⟨b0,h,Yt _⟩,fun x h=>by cases h⟩
 |some x =>
  have hp:=bD f
  simp only
  cases e:xb L Ws x with
  |false =>
   simp only[Bool.false_and,Bool.false_eq_true,if_false]
   exact⟨fun b0 h=>⟨b0,h,Yt _⟩,fun y h c=>by cases h;rw[e]at c;cases c⟩
  |true =>
   simp only[Bool.true_and]
   cases a with
   |none =>
    simp only[if_true]
    exact⟨fun b0 h=>(by cases h),fun y h c=>⟨i,rfl,Yt _⟩⟩
   |some b0 =>
    simp only
    by_cases d:Op.bytesLess (kN x.zb) (Xl Ws b0)=true
    ·simp only[d,if_true]
     exact⟨fun b1 h=>⟨i,rfl,by cases h;rw[hp];exact YZ _ _ d⟩,fun y h c=>⟨i,rfl,Yt _⟩⟩
    ·simp only[d,if_false]
     exact⟨fun b1 h=>⟨b1,h,Yt _⟩,fun y h c=>⟨b0,rfl,by rw[hp];simpa using d⟩⟩
theorem fG(L:List zx)(Ws:List Wk):∀(l:List Nat) (a:Option Nat),
  (∀b0,a=some b0->∃b,l.foldl (ik L Ws) a=some b/\Op.bytesLess (Xl Ws b0) (Xl Ws b)=false)/\(∀i∈l,∀x,Ws[i]?=some x->xb L Ws x=true->∃b,l.foldl (ik L Ws) a=some b/\Op.bytesLess (Xl Ws i) (Xl Ws b)=false)
 | [],a=>⟨fun b0 h=>⟨b0,h,Yt _⟩,fun i n=>by cases n⟩
 |i::l,a=>by
  obtain⟨o,s2⟩:=nH L Ws a i;obtain⟨g1,g2⟩:=fG L Ws l (ik L Ws a i);simp only[List.foldl_cons]
  refine⟨fun b0 h=>?_,fun j g x m k=>?_⟩
  ·obtain⟨b1,c,f⟩:=o b0 h;obtain⟨b2,d,e⟩:=g1 b1 c
   exact⟨b2,d,ZU _ _ _ f e⟩
  ·rcases List.mem_cons.1 g with rfl|g
   ·obtain⟨b1,c,f⟩:=s2 x m k;obtain⟨b2,d,e⟩:=g1 b1 c
    exact⟨b2,d,ZU _ _ _ f e⟩
   ·exact g2 j g x m k
theorem h6(f:∀x∈Ws,0<=x.st)(h:Vr Ws x.zb=some x):∃i,Ws[i]?=some x/\i∈WI Ws:=by
 unfold Vr at h;obtain⟨hp,l1,l2,b,e⟩:=List.find?_eq_some_iff_append.1 h;simp only[Bool.and_eq_true,beq_iff_eq,decide_eq_true_eq]at hp;have c:Ws[l1.length]?=some x:=by rw[b];simp
 refine⟨l1.length,c,?_⟩
 unfold WI Xt;rw[Vu,List.mem_range]
 refine⟨(Uy.1 c).1,?_⟩
 unfold tv;rw[c]
 show Xv Ws l1.length x=true
 unfold Xv;rw[b,List.take_left']
 ·simp only[Bool.and_eq_true,beq_iff_eq,List.all_eq_true,Bool.or_eq_true,decide_eq_true_eq]
  refine⟨hp.1,fun y d=>?_⟩
  have a:=e y d;have g:=f y (by rw[b];simp[d]);simp only[Bool.not_eq_true',Bool.and_eq_false_iff,beq_eq_false_iff_ne,decide_eq_false_iff_not]at a
  rcases a with a|a
  ·left;omega
  ·right;exact a
 ·rfl
theorem iH(a:Vr Ws x.zb=some x)(b:Vr Ws y.zb=some y)(e:x.zb=y.zb):x=y:=by
 rw[e,b]at a;cases a;rfl
theorem sw{L:List zx}(f:xm Ws)(e:∀x∈Ws,0<=x.st)(a:Vr Ws x.zb=some x)(o:xb L Ws x=true)(k:∀y,Vr Ws y.zb=some y->xb L Ws y=true->Op.bytesLess (kN y.zb) (kN x.zb)=false):∃b,YS L Ws=some b/\Ws[b]?=some x:=by
 obtain⟨i,g,n⟩:=h6 e a;obtain⟨b,hb,h⟩:=(fG L Ws (WI Ws) none).2 i n x g o;obtain⟨y,c,j,p⟩:=a6 hb;have d:=ZS e c j;have l:=k y d p;rw[bD g,bD c]at h;have m:=Y0 (f.ok y (VG d).1).1 (f.ok x (VG a).1).1 (dx _ _ l h)
 have:=iH d a m
 subst this
 exact⟨b,hb,c⟩
theorem sy{L:List zx}(d:∀x∈Ws,0<=x.st)(h:∀y,Vr Ws y.zb=some y->xb L Ws y=false):YS L Ws=none:=by
 cases hp:YS L Ws with
 |none=>rfl
 |some b =>
  obtain⟨y,e,c,a⟩:=a6 hp;rw[h y (ZS d e c)]at a;cases a
theorem ot{a b:Int×Int}(h:V2 a b=true):V2 b a=false:=by
 unfold V2 at *;simp only[decide_eq_true_eq,decide_eq_false_iff_not]at *
 omega
theorem nh(a:Int×Int):V2 a a=false:=by
 unfold V2
 simp
theorem cR{a b c:Int×Int}(i:0<a.2)(hb:0<b.2)(j:0<c.2)(g:V2 a b=false)(h:V2 b c=false):V2 a c=false:=by
 unfold V2 at *;simp only[decide_eq_false_iff_not,Int.not_lt]at *;have g1:b.1*a.2*c.2<=a.1*b.2*c.2:=Int.mul_le_mul_of_nonneg_right g o_;have g2:c.1*b.2*a.2<=b.1*c.2*a.2:=Int.mul_le_mul_of_nonneg_right h o_;have d:b.1*a.2*c.2=b.1*c.2*a.2:=by ac_rfl
 have e:c.1*b.2*a.2=c.1*a.2*b.2:=by ac_rfl
 have f:a.1*b.2*c.2=a.1*c.2*b.2:=by ac_rfl
 rw[d,f]at g1;rw[e]at g2
 exact Int.le_of_mul_le_mul_right (Int.le_trans g2 g1) hb
def icb (L:List zx)(Ws:List Wk)(x y:Wk):Bool:=V2 (Vg L Ws x) (Vg L Ws y)||(!V2 (Vg L Ws y) (Vg L Ws x)&&decide (x.zm<y.zm))
theorem Zu(L:List zx)(Ws:List Wk)(x:Wk):icb L Ws x x=false:=by
 unfold icb;rw[nh];simp
theorem dy{L:List zx}:icb L Ws x y=false↔(V2 (Vg L Ws x) (Vg L Ws y)=false/\(V2 (Vg L Ws y) (Vg L Ws x)=true\/y.zm<=x.zm)):=by
 unfold icb
 cases V2 (Vg L Ws x) (Vg L Ws y)<;>cases V2 (Vg L Ws y) (Vg L Ws x)<;>simp
theorem q9{L:List zx}(h:icb L Ws x y=true):icb L Ws y x=false:=by
 rw[dy];unfold icb at h;rw[Bool.or_eq_true,Bool.and_eq_true]at h
 rcases h with h|⟨a,b⟩
 ·exact⟨ot h,.inl h⟩
 ·simp at a b
  exact⟨a,.inr o_⟩
theorem jL{u n a:Int}(b:0<=a):0<(shr u d n a).2:=by
 unfold shr
 split<;>simp<;>omega
theorem gW{a b:Int×Int}(c:0<a.2)(hb:0<b.2):0<(yk a b).2:=by
 unfold yk
 split<;>assumption
theorem c9{L:List zx}(E:ym L)(Ws:List Wk)(x:Wk):0<(Vg L Ws x).2:=by
 have:=Yl E []
 exact gW (gW d_ (jL this.1.1)) (jL this.2.1)
theorem gK{L:List zx}(E:ym L){z:Wk}(a:icb L Ws x y=false)(b:icb L Ws y z=false):icb L Ws x z=false:=by
 rw[dy]at *;have d:=c9 E Ws x;have e:=c9 E Ws y;have f:=c9 E Ws z
 refine⟨cR d e f a.1 b.1,?_⟩
 cases g:V2 (Vg L Ws z) (Vg L Ws x) with
 |true=>exact .inl rfl
 |false =>
  right
  have a1:V2 (Vg L Ws y) (Vg L Ws x)=false:=cR e f d b.1 g;have a2:V2 (Vg L Ws z) (Vg L Ws y)=false:=cR f d e g a.1
  rcases a.2 with h3|h3
  ·rw[a1]at h3;cases h3
  ·rcases b.2 with c|c
   ·rw[a2]at c;cases c
   ·omega
def ZL (L:List zx)(Ws:List Wk)(a:Option Nat×(Int×Int)):Prop:=∀b0,a.1=some b0->∃y,Ws[b0]?=some y/\a.2=Vg L Ws y
def INlt (L:List zx)(Ws:List Wk)(x:Wk)(r:Option Nat×(Int×Int)):Prop:=∃b y,r.1=some b/\Ws[b]?=some y/\icb L Ws x y=false
theorem mO{L:List zx}(Ws:List Wk){a:Option Nat×(Int×Int)}(e:ZL L Ws a)(i:Nat):
  ZL L Ws (WG L Ws a i)/\(∀b0 y,a.1=some b0->Ws[b0]?=some y->INlt L Ws y (WG L Ws a i))/\(∀x,Ws[i]?=some x->Vm L Ws x=true->INlt L Ws x (WG L Ws a i)):=by
 unfold WG
 cases d:Ws[i]? with
 |none=>exact⟨e,fun b0 y h b=>⟨b0,y,h,b,Zu ..⟩,fun x h=>by cases h⟩
 |some x =>
  simp only
  cases n:Vm L Ws x with
  |false =>
   simp only[Bool.false_eq_true,if_false]
   exact⟨e,fun b0 y h b=>⟨b0,y,h,b,Zu ..⟩,fun y h c=>by cases h;rw[n]at c;cases c⟩
  |true =>
   simp only[if_true];obtain⟨a1,a2⟩:=a
   cases a1 with
   |none =>
    simp only[if_true]
    refine⟨fun b0 h=>?_,fun b0 y h=>(by cases h),fun y h c=>?_⟩
    ·cases h;exact⟨x,d,rfl⟩
    ·cases h;exact⟨i,x,rfl,d,Zu ..⟩
   |some b0 =>
    obtain⟨y,b,l⟩:=e b0 rfl
    simp only at l
    subst l;simp only[jl b]
    show ZL L Ws (if icb L Ws x y=true then _ else _)/\(∀j m,some b0=some j->Ws[j]?=some m->INlt L Ws m (if icb L Ws x y=true then _ else _))/\(∀g,some x=some g->Vm L Ws g=true->INlt L Ws g (if icb L Ws x y=true then _ else _))
    cases k:icb L Ws x y with
    |true =>
     simp only[if_true]
     refine⟨fun b0 h=>?_,fun b1 z h f=>?_,fun z h c=>?_⟩
     ·cases h;exact⟨x,d,rfl⟩
     ·cases h;rw[b]at f;cases f;exact⟨i,x,rfl,d,q9 k⟩
     ·cases h;exact⟨i,x,rfl,d,Zu ..⟩
    |false =>
     simp only[Bool.false_eq_true,if_false]
     refine⟨e,fun b1 z h f=>?_,fun z h c=>?_⟩
     ·cases h;exact⟨b0,z,rfl,f,Zu ..⟩
     ·cases h;exact⟨b0,y,rfl,b,k⟩
theorem cL{L:List zx}(E:ym L)(Ws:List Wk):∀(l:List Nat) (a:Option Nat×(Int×Int)),ZL L Ws a ->
  ZL L Ws (l.foldl (WG L Ws) a)/\(∀b0 y,a.1=some b0->Ws[b0]?=some y->INlt L Ws y (l.foldl (WG L Ws) a))/\(∀i∈l,∀x,Ws[i]?=some x->Vm L Ws x=true->INlt L Ws x (l.foldl (WG L Ws) a))
 | [],a,f=>⟨f,fun b0 y h m=>⟨b0,y,h,m,Zu ..⟩,fun i q=>by cases q⟩
 |i::l,a,f=>by
  obtain⟨s0,r,s2⟩:=mO Ws f i;obtain⟨g0,g1,g2⟩:=cL E Ws l _ s0;simp only[List.foldl_cons]
  refine⟨g0,fun b0 y h m=>?_,fun j g x p o=>?_⟩
  ·obtain⟨b1,z,b,n,e⟩:=r b0 y h m;obtain⟨b2,u,c,k,d⟩:=g1 b1 z b n
   exact⟨b2,u,c,k,gK E e d⟩
  ·rcases List.mem_cons.1 g with rfl|g
   ·obtain⟨b1,z,b,n,e⟩:=s2 x p o;obtain⟨b2,u,c,k,d⟩:=g1 b1 z b n
    exact⟨b2,u,c,k,gK E e d⟩
   ·exact g2 j g x p o
theorem eN(L:List zx)(Ws:List Wk):ZL L Ws (none,(0,0)):=fun b0 h=>by cases h
theorem eD(c:(Ws.map (·.zm)).Nodup)(d:x∈Ws)(f:y∈Ws)(e:x.zm=y.zm):x=y:=by
 obtain⟨i,b⟩:=Vh d;obtain⟨j,a⟩:=Vh f
 have:=bK c b a e
 subst this;rw[b]at a;cases a;rfl
theorem og{L:List zx}(E:ym L)(m:(Ws.map (·.zm)).Nodup)(g:∀x∈Ws,0<=x.st)(h:Vr Ws x.zb=some x)(p:Vm L Ws x=true)(l:∀y,Vr Ws y.zb=some y->Vm L Ws y=true->icb L Ws y x=false):∃b,YH L Ws=some b/\Ws[b]?=some x:=by
 obtain⟨i,n,o⟩:=h6 g h;obtain⟨b,y,hb,e,d⟩:=(cL E Ws (WI Ws) _ (eN L Ws)).2.2 i o x n p;obtain⟨r,f,k,q⟩:=aL hb;rw[e]at f;cases f;have j:=ZS g e k;have a:=l y j q;rw[dy]at a d
 have:x=y:=by
  refine eD m (VG h).1 (VG j).1 ?_
  rcases a.2 with c|c
  ·rw[d.1]at c;cases c
  ·rcases d.2 with h3|h3
   ·rw[a.1]at h3;cases h3
   ·omega
 subst this
 exact⟨b,hb,e⟩
theorem oh{L:List zx}(d:∀x∈Ws,0<=x.st)(h:∀y,Vr Ws y.zb=some y->Vm L Ws y=false):YH L Ws=none:=by
 cases hp:YH L Ws with
 |none=>rfl
 |some b =>
  obtain⟨y,e,c,a⟩:=aL hp;rw[h y (ZS d e c)]at a;cases a
theorem jR(h:Ws[b]?=some x):stAt Ws b=x.st:=by simp[stAt,h]
theorem cV(L:List zx)(Ws:List Wk)(x:Wk):∀n k u,k<n->Ws[k]?=some u->u.st≠0->way L Ws x u=true->∃b w,VH L Ws x n=some b/\Ws[b]?=some w/\u.st<=w.st
 |0,k,u,l,_,_,_=>by omega
 |n+1,k,u,l,c,g,h=>by
  rw[aO];unfold ZP
  cases d:Ws[n]? with
  |none =>
   have:k≠n:=fun e=>by subst e;rw[d]at c;cases c
   exact cV L Ws x n k u o_ c g h
  |some v =>
   simp only
   by_cases e:k=n
   ·subst e;rw[d]at c;cases c
    cases a:tI Ws (VH L Ws x k) u with
    |false =>
     simp only[Bool.false_eq_true,if_false,h,if_true]
     exact⟨k,u,rfl,d,Int.le_refl _⟩
    |true =>
     simp only[if_true];unfold tI at a;rw[show(u.st == 0)=false by simp[g],Bool.false_or]at a
     cases hb:VH L Ws x k with
     |none=>rw[hb]at a;cases a
     |some b =>
      rw[hb]at a;simp only[decide_eq_true_eq]at a;obtain⟨w,j,_⟩:=XU L Ws x k b hb;rw[jR j]at a
      exact⟨b,w,rfl,j,o_⟩
   ·obtain⟨b,w,hb,f,i⟩:=cV L Ws x n k u o_ c g h
    cases a:tI Ws (VH L Ws x n) v with
    |true=>simp only[if_true];exact⟨b,w,hb,f,i⟩
    |false =>
     simp only[Bool.false_eq_true,if_false]
     cases m:way L Ws x v with
     |false=>simp only[Bool.false_eq_true,if_false];exact⟨b,w,hb,f,i⟩
     |true =>
      simp only[if_true]
      refine⟨n,v,rfl,d,?_⟩
      unfold tI at a;rw[hb]at a;simp only[Bool.or_eq_false_iff,decide_eq_false_iff_not]at a
      have:=a.2
      rw[jR f]at this
      omega
theorem qA(f:((Ws.filter fun x=>decide (0<x.st)).map (·.st)).Nodup)(g:x∈Ws)(h:y∈Ws)(c:0<x.st)(l:0<y.st)(e:x.st=y.st):x=y:=by
 have k:x∈Ws.filter fun x=>decide (0<x.st):=Vu.2 ⟨g,by simpa using c⟩
 have d:y∈Ws.filter fun x=>decide (0<x.st):=Vu.2 ⟨h,by simpa using l⟩
 obtain⟨i,b⟩:=Vh k;obtain⟨j,a⟩:=Vh d
 have:=bK f b a e
 subst this;rw[b]at a;cases a;rfl
theorem pO{L:List zx}(e:vr Ws st)(x:Wk){v:Wk}(g:v∈Ws)(l:0<v.st)(m:way L Ws x v=true)(j:∀u∈Ws,0<u.st->way L Ws x u=true->u.st<=v.st):∃i,Xh L Ws x=some i/\Ws[i]?=some v:=by
 obtain⟨k,f⟩:=Vh g;obtain⟨b,w,hb,c,o⟩:=cV L Ws x Ws.length k v (Uy.1 f).1 f o_ m;obtain⟨w',d,p,h⟩:=XU L Ws x _ b hb;rw[c]at d;cases d;have a:=Uq c;have n:=(e.st w a).1
 have:=j w a o_ h
 have:=qA e.sts g a l o_ o_
 subst this
 exact⟨b,hb,c⟩
theorem hL{L:List zx}(h:∀u∈Ws,u.st≠0->way L Ws x u=false):Xh L Ws x=none:=by
 cases a:Xh L Ws x with
 |none=>rfl
 |some i =>
  obtain⟨v,a,c,b⟩:=XU L Ws x _ i a;rw[h v (Uq a) c]at b;cases b
theorem sH{L:List zx}(h:Vm L Ws x=true)(v:Wk):way L Ws x v=false:=by
 unfold Vm at h;rw[List.all_eq_true]at h;unfold way;rw[List.any_eq_false];intro e b
 have:=h e b
 unfold wj at this;unfold wu wo
 cases a:xc (kN x.zb) (kN e.zb)
 ·simp
 ·rw[a]at this;simp only[Bool.true_and,Bool.not_eq_true',Bool.or_eq_false_iff]at this;rw[this.1,this.2]
  simp
theorem cZ{L:List zx}(h:Vm L Ws x=true):Xh L Ws x=none:=hL fun u _ _=>sH h u
theorem fL{L:List zx}{s:MS}:tu L x s=none↔Xh L s.Ws x=none:=by
 constructor
 ·intro h
  cases a:Xh L s.Ws x with
  |none=>rfl
  |some i =>
   unfold tu at h
   split at h
   ·rename_i c;rw[cZ c]at a;cases a
   ·rw[a]at h;obtain⟨v,b,_⟩:=XU L s.Ws x _ i a
    simp only at h
    rw[b]at h
    cases h
 ·intro h;unfold tu
  split
  ·rfl
  ·rw[h]
theorem fy{L:List zx}{s:MS}{v:Wk}(h:Xh L s.Ws x=some i)(b:s.Ws[i]?=some v):tu L x s=some ⟨v.yi 0::(s.Ws.take i++s.Ws.drop (i+1)),s.zt++[(2,v.zm)]⟩:=by
 unfold tu
 split
 ·rename_i a;rw[cZ a]at h;cases h
 ·rw[h]
  simp only
  rw[b]
theorem jg{sl:Value}(h:W.ownsRow B e size sl n xs):W.ownsRow 0 e size sl n xs:=by
 obtain⟨d,a⟩:=h
 refine⟨d,?_⟩
 rcases a with a|⟨g',cap',b,rfl,f,c,rest⟩
 ·exact .inl a
 ·exact .inr ⟨g',cap',b,rfl,Nat.zero_le _,c,rest⟩
theorem jt{sl:Value}{l:List Nat}(h:W.ownsRow B 3 1 sl l.length (wa l)):∃d ch,sl=.slice d l.length ch/\∀(k i:Nat),l[k]?=some i->∃b,d=some (vA b 0)/\b<W.heap.size/\l.length<=ch/\ch<=maxLen/\W.cell? (vA b k)=some (vI i):=by
 have c:=jg h
 by_cases j:0<l.length
 ·obtain⟨g,cap,rfl,e,f⟩:=VX c j
  refine⟨some (vA g 0),cap,rfl,fun k i a=>⟨g,rfl,UI c rfl,e,f,?_⟩⟩
  have:=c.cells (g:=g) rfl k (vI i) (by unfold wa;rw[VB,a];rfl)
  rwa[Addr.add_lit,Nat.zero_add]at this
 ·have m:l=[]:=List.eq_nil_of_length_eq_zero o_;subst m
  rcases c.2 with ⟨rfl,_⟩|⟨g,cap,n,rfl,_⟩
  ·exact⟨none,0,rfl,fun k i a=>by simp at a⟩
  ·exact⟨_,_,rfl,fun k i a=>by simp at a⟩
structure Xi (L:List zx) (s0 s:SS):Prop where
 inv:ye s
 fin:wW (ej L) (x9 L s.Ws) s=VN L s0
 st:s.st+x9 L s.Ws<=s0.st+24
 ev:s.zt.length+25*x9 L s.Ws<=600
theorem ye.ownI{L:List zx}(s f:SS)(h:ye s)(a:ej L s=some f):ye f/\x9 L f.Ws<x9 L s.Ws:=⟨(h.own a).1,(h.own a).2.1⟩
theorem Xi.start{L:List zx}(h:ye s0)(b:s0.zt=[]):Xi L s0 s0:=by
 have a:=jF L s0.Ws;have c:=h.yh.yh.len
 refine⟨h,ZR (m:=fun s=>x9 L s.Ws) ye.ownI _ _ s0 h (Nat.le_refl _) a,o_,by rw[b];simp;omega⟩
theorem Xi.next{L:List zx}(h:Xi L s0 s)(b:ej L s=some f):Xi L s0 f/\x9 L f.Ws<x9 L s.Ws:=by
 obtain⟨a,c,h3,e,g⟩:=h.inv.own b
 refine⟨⟨a,?_,?_,?_⟩,c⟩
 ·rw[<-h.fin];obtain⟨m,d⟩:∃m,x9 L s.Ws=m+1:=⟨x9 L s.Ws-1,o_⟩;rw[d,aW b]
  exact ZR (m:=fun s=>x9 L s.Ws) ye.ownI _ _ f a (Nat.le_refl _) (by show x9 L f.Ws<=m;omega)
 ·have:=h.st;omega
 ·have:=h.ev;omega
theorem Xi.done{L:List zx}(h:Xi L s0 s)(a:ej L s=none):s=VN L s0:=by
 rw[<-h.fin,Yu a]
theorem ti{g:Nat}{L:List zx}(h:zy w br g cap L ao cW Ws zo st)(E:ym L)(EB:wb L)(I:ye ⟨Ws,st,[]⟩)(bR_:st<=900000000):
  Calls prog 157 #[vP br] w fun e w'=>∃sl gC iU,e=.returned sl/\VD w br g cap L (Value.slice ao Ws.length cW).ownBlock zo Ws.length w' gC iU (VN L ⟨Ws,st,[]⟩).Ws (VN L ⟨Ws,st,[]⟩).st sl (VN L ⟨Ws,st,[]⟩).zt:=by
 have bU_:=h.Wf;have ck_:g<w.heap.size:=(h.ref.row.lt g rfl).2;have vM:=VD.start h;have C3:=Xi.start (L:=L) I rfl;have jE_:=I.yh.yh.len
 simp only at jE_
 obtain⟨n,hn⟩:∃n,n=Ws.length:=⟨_,rfl⟩;rw[<-hn]at vM jE_ ⊢;generalize dh_:(⟨Ws,st,[]⟩:SS)=s0 at *;have oi_:s0.st<=900000000:=by rw[<-dh_];exact bR_
 have bL_:Ws=s0.Ws:=by rw[<-dh_]
 have uG:st=s0.st:=by rw[<-dh_]
 have tY:([]:List (Int×Int))=s0.zt:=by rw[<-dh_]
 rw[bL_,uG,tY]at vM;generalize (Value.slice ao n cW).ownBlock=o at *;clear dh_ uG bL_ tY h bR_ hn I
 go_enter func157,ntmps157
 go_wp2
 go_loopg [3] (x9 L s0.Ws) (fun k sl wr=>∃(s:SS) (a:Option Addr) (c:Nat),x9 L s.Ws<=k/\Xi L s0 s/\VD w br g cap L o zo n wr a c s.Ws s.st sl s.zt)
 case atStart=>exact⟨s0,ao,cW,Nat.le_refl _,C3,vM⟩
 case round =>
  clear C3 vM;obtain⟨s,a,c,hk_,hR_,hS_⟩:=hrel;obtain⟨GB,zG⟩:∃k,k=gk:=⟨_,rfl⟩;subst zG;have EW:=hR_.inv.yh.yh;have ar_:=hS_.len
  go_wp2_with fail
  refine(h7 hS_.ref EW).mono ?_
  rintro e w1 ⟨hl,rfl,an_,aa⟩
  obtain⟨ah_,ch,rfl,cr_⟩:=jt an_;have oK_:=hS_.below aa;have cI_:br<w1.heap.size:=oK_.ref.Wf;have qN_:Hid (∀i∈WI s.Ws,i<n/\tv s.Ws i=true):=fun i hi=>by rw[<-ar_];exact aV hi
  have rK_:(WI s.Ws).length<=24:=Nat.le_trans (dk _ _) (by omega);obtain⟨hs,zH⟩:∃hs,hs=WI s.Ws:=⟨_,rfl⟩;have BG:Hid (hs=WI s.Ws):=zH;rw[<-zH]at cr_ qN_ rK_ ⊢;clear zH an_;obtain⟨m,hm⟩:∃m,m=hs.length:=⟨_,rfl⟩;rw[<-hm]at cr_ rK_ ⊢;have HM:Hid (m=hs.length):=hm;clear hm;have jx_:w1.cell? (vA br 1)=some (.slice a n c):=by have:=oK_.ref.ref.zl.cell 1;rw[<-ar_];simpa using this
  have jJ_:Hid (∀W,Bw w1 W->∀(i:Nat) x,s.Ws[i]?=some x->∃b,a=some (vA b 0)/\b<w1.heap.size/\n<=c/\c<=maxLen/\W.cell? (vA b (i*5))=some (vI x.zm)/\W.cell? (vA b (i*5+1))=some (.string (sb (kN x.zb)))/\W.cell? (vA b (i*5+2))=some (vI x.d0)/\W.cell? (vA b (i*5+3))=some (vI x.d1)/\W.cell? (vA b (i*5+4))=some (vI x.st)):=by
   show ∀W,Bw w1 W->∀(i:Nat) x,s.Ws[i]?=some x->∃b,a=some (vA b 0)/\b<w1.heap.size/\n<=c/\c<=maxLen/\W.cell? (vA b (i*5))=some (vI x.zm)/\W.cell? (vA b (i*5+1))=some (.string (sb (kN x.zb)))/\W.cell? (vA b (i*5+2))=some (vI x.d0)/\W.cell? (vA b (i*5+3))=some (vI x.d1)/\W.cell? (vA b (i*5+4))=some (vI x.st)
   intro W hW_ i x hx;obtain⟨b,h1,h2,h3,h4_,p0_,p1_,p2_,p3_,p4_⟩:=(oK_.ref.below hW_).wk hx;have hb:b<w1.heap.size:=UI oK_.ref.yc (by rw[h1];rfl)
   exact⟨b,h1,hb,by rw[<-ar_];exact h3,h4_,p0_,p1_,p2_,p3_,p4_⟩
  go_wp2_with fail
  go_loopw [4,6] (fun fc i w2=>∃k:Nat,k<=m/\i=vI k/\fc=vI (xp (WZ L s.Ws (hs.take k)))/\Bw w1 w2) (fun _ i _=>m-(intOf i).toNat)
  case atStart=>exact⟨0,Nat.zero_le _,rfl,rfl,Below.refl _ _⟩
  case round =>
   obtain⟨k,zU,rfl,rfl,ae⟩:=hrel;have de:=(ae.cell (p:=vA br 1) cI_).trans jx_
   by_cases ak:k<m
   ·obtain⟨i,hi⟩:∃i,hs[k]?=some i:=⟨_,Ur (by rw[<-HM.out];exact ak)⟩;obtain⟨cM_,Ip⟩:=qN_.out i (Uq hi);obtain⟨x,hx⟩:∃x,s.Ws[i]?=some x:=⟨_,Ur (by omega)⟩;obtain⟨gh_,tI_,j8_,H6,H7,sG_⟩:=cr_ k i hi;subst tI_;have yR:=(ae.cell (p:=vA gh_ k) j8_).trans sG_;obtain⟨b,fK_,dR_,fE_,kd,p0_,p1_,p2_,p3_,p4_⟩:=jJ_.out _ ae i x hx;obtain⟨b',dY_,_,_,_,q0_,q1,q2,q3_,q4_⟩:=jJ_.out _ (Below.refl _ _) i x hx;subst fK_;injection dY_ with dY_;injection dY_ with dY_;subst dY_;have nX_:(k:Int)<m:=by omega
    have gP_:(0:Int)<=k:=by omega
    have mG_:(i:Int)<n:=by omega
    have zI:(0:Int)<=i:=by omega
    have ax_:=fun W (hW_:Bw w1 W)=>k0 (oK_.ref.below hW_) E EW x (EW.zl (Uq hx))
    have HX:Hid (s.Ws[i]?=some x):=hx;have HP:Hid (WZ L s.Ws (hs.take (k+1))=(if xb L s.Ws x&&(match WZ L s.Ws (hs.take k) with|none=>true|some b=>Op.bytesLess (kN x.zb) (Xl s.Ws b)) then some i else WZ L s.Ws (hs.take k))):=by
     show _=_
     rw[show hs.take (k+1)=hs.take k++[i] from by
      rw[VT (by rw[<-HM.out];exact ak)];rw[Ur (by rw[<-HM.out];exact ak)]at hi;cases hi;rfl]
     rw[mU];unfold ik;rw[hx]
     rfl
    have ig_:Hid (∀b0,WZ L s.Ws (hs.take k)=some b0->∃y,s.Ws[b0]?=some y):=fun b0 cL_=>by
     obtain⟨_,y,hy,_⟩:=gD cL_
     exact⟨y,hy⟩
    generalize WZ L s.Ws (hs.take k)=pk at HP ig_ ⊢;generalize hOW:xb L s.Ws x=ow_ at ax_ HP;clear cr_ hS_ hi hx Ip hOW;have Mq:=qN_;clear qN_;obtain⟨B,hB_⟩:∃B,B=xp pk:=⟨_,rfl⟩;rw[<-hB_];have HB:Hid (B=xp pk):=hB_;clear hB_
    go_upto_region 7 with fail
    go_cut [7] from 15 to 63 (fun q wx=>q=.bool ow_/\Bw w1 wx)
    case first =>
     go_region_held3 (fun w'=>w'.cell? (vA br 1)=some (vS b n c)/\w'.cell? (vA gh_ k)=some (vI i)/\w'.cell? (vA b (i*5))=some (vI x.zm)/\w'.cell? (vA b (i*5+1))=some (.string (sb (kN x.zb)))/\w'.cell? (vA b (i*5+2))=some (vI x.d0)/\w'.cell? (vA b (i*5+3))=some (vI x.d1)/\w'.cell? (vA b (i*5+4))=some (vI x.st)) (go_keep)
      (first
      |(go_at_call 199;refine(ax_ _ ?_).mono ?_;(focus exact cl);rintro e w2 ⟨rfl,af⟩;have ay_:Bw w1 w2:=s5 (by exact cl) af;have r0:=(ay_.cell (p:=vA br 1) cI_).trans jx_;have r1:=(ay_.cell (p:=vA gh_ k) j8_).trans sG_;have r2:=(ay_.cell (p:=vA b (i*5)) dR_).trans q0_;have r3:=(ay_.cell (p:=vA b (i*5+1)) dR_).trans q1;have r4:=(ay_.cell (p:=vA b (i*5+2)) dR_).trans q2;have r5:=(ay_.cell (p:=vA b (i*5+3)) dR_).trans q3_;have r6_:=(ay_.cell (p:=vA b (i*5+4)) dR_).trans q4_))
     all_goals go_wp2_with fail
     go_meet
     exact⟨rfl,ay_⟩
    case rest =>
     obtain⟨rfl,da⟩:=hcut;have d1:=(da.cell (p:=vA br 1) cI_).trans jx_;have d2:=(da.cell (p:=vA gh_ k) j8_).trans sG_;have d3:=(da.cell (p:=vA b (i*5+1)) dR_).trans q1;have b__:Hid (∀(bb:Int) (W:World),Bw w1 W->bb=xp (WZ L s.Ws (hs.take (k+1)))->(∃eY_:Nat,eY_<=m/\vI ((k:Int)+1)=vI eY_/\vI bb=vI (xp (WZ L s.Ws (hs.take eY_)))/\Bw w1 W)/\m-(intOf (vI ((k:Int)+1))).toNat<m-(intOf (vI (k:Int))).toNat) :=
      fun bb W h1 h2=>⟨⟨k+1,by omega,by go_num,by rw[h2],h1⟩,by simp[intOf];omega⟩
     clear ax_ de yR p0_ p1_ p2_ p3_ p4_ jx_ sG_ q0_ q1 q2 q3_ q4_ ae
     cases ow_
     ·go_wp2_with fail
      go_quiet (fail)
      go_wp2_with fail
      exact b__.out _ _ (UT da _) (by rw[HP.out,HB.out];simp)
     ·cases fk_:pk with
      |none =>
       have aj_:B = -1:=by rw[HB.out,fk_];rfl
       have lL_:Hid (WZ L s.Ws (hs.take (k+1))=some i):=by
        show _=_
        rw[HP.out,fk_];rfl
       subst aj_;clear HP HB fk_ ig_
       go_wp2_with fail
       go_quiet (fail)
       go_wp2_with fail
       exact b__.out _ _ (UT da _) (by rw[lL_.out];rfl)
      |some b0 =>
       have aj_:B=(b0:Int):=by rw[HB.out,fk_];rfl
       obtain⟨y,hy⟩:=ig_.out b0 fk_;have qX_:b0<n:=by rw[<-ar_];exact(Uy.1 hy).1
       obtain⟨b',dY_,_,_,_,_,t1,_,_,_⟩:=jJ_.out _ da b0 y hy;injection dY_ with dY_;injection dY_ with dY_;subst dY_;have lL_:Hid (WZ L s.Ws (hs.take (k+1))=if Op.bytesLess (kN x.zb) (kN y.zb) then some i else some b0):=by
        show _=_
        rw[HP.out,fk_,Bool.true_and];simp only[bD hy]
       have rE_:Op.bytesLess (sb (kN x.zb)).toList (sb (kN y.zb)).toList=Op.bytesLess (kN x.zb) (kN y.zb):=by rw[V4,V4,UO,UO]
       have HH:Hid (xp (some b0)=(b0:Int)/\xp (some i)=(i:Int)):=⟨rfl,rfl⟩;subst aj_;clear HP HB fk_ ig_ hy;generalize Op.bytesLess (kN x.zb) (kN y.zb)=lt at lL_ rE_;generalize sb (kN y.zb)=py_ at t1 rE_;generalize sb (kN x.zb)=px_ at d3 rE_;have tM:(b0:Int)<n:=by omega
       have re:(0:Int)<=b0:=by omega
       have tO:¬((b0:Int)<0):=by omega
       cases lt
       ·go_wp2_with fail
        go_quiet (fail)
        go_wp2_with fail
        exact b__.out _ _ (UT da _) (by rw[lL_.out];rfl)
       ·go_wp2_with fail
        go_quiet (fail)
        go_wp2_with fail
        exact b__.out _ _ (UT da _) (by rw[lL_.out];rfl)
   ·have I0:k=m:=by omega
    have BJ:Hid (WZ L s.Ws (hs.take k)=YS L s.Ws):=by
     show _=_
     rw[Vl (by rw[<-HM.out];omega),BG.out];rfl
    rw[BJ.out];have gJ_:=oK_.below ae;clear cr_ qN_ jJ_ jx_ de hS_ oK_ BJ BG HM
    cases pU_:YS L s.Ws with
    |none =>
     have fQ_:=hR_.done (show ej L s=none from by unfold ej;rw[pU_]);have HD:Hid (s=VN L s0):=fQ_;clear fQ_ pU_;have aj_:xp none=(-1:Int):=rfl;rw[aj_]
     go_wp2_with fail
     go_ret
     rw[<-HD.out]
     exact⟨_,_,_,rfl,gJ_⟩
    |some b0 =>
     obtain⟨x,hx,Fy,uL⟩:=a6 pU_;have mS_:ej L s=some (VS L x s):=by unfold ej;rw[pU_];simp only;rw[hx]
     have sw_:Hid (ej L s=some (VS L x s)):=mS_;have KZ:=hR_.inv.rinv hx Fy uL;have qX_:b0<n:=by rw[<-ar_];exact(Uy.1 hx).1
     obtain⟨b,fK_,dR_,fE_,kd,p0_,p1_,p2_,p3_,p4_⟩:=gJ_.ref.wk hx;rw[ar_]at fE_;subst fK_;have de:wr.cell? (vA br 1)=some (vS b n c):=by have:=gJ_.ref.ref.zl.cell 1;rw[<-ar_];simpa using this
     have CH:br<wr.heap.size:=gJ_.ref.Wf;have tM:(b0:Int)<n:=by omega
     have re:(0:Int)<=b0:=by omega
     have tO:¬((b0:Int)<0):=by omega
     have aj_:xp (some b0)=(b0:Int):=rfl;rw[aj_];have bx:zg (wr.alloc (.cells #[vI x.zm,.string (sb (kN x.zb)),vI x.d0,vI x.d1,vI x.st] 178)) wr.heap.size 178 #[vI x.zm,.string (sb (kN x.zb)),vI x.d0,vI x.d1,vI x.st]:=zg.new wr 178 _;have xM:Bw wr (wr.alloc (.cells #[vI x.zm,.string (sb (kN x.zb)),vI x.d0,vI x.d1,vI x.st] 178)):=by exact cl
     have Ha:=gJ_.below xM;have uF:u3.ownBlock≠some wr.heap.size:=fun e=>by have:=(gJ_.row.lt _ e).2;omega
     clear pU_ mS_ hx Fy uL
     go_wp2_with fail
     generalize (wr.alloc (.cells #[vI x.zm,.string (sb (kN x.zb)),vI x.d0,vI x.d1,vI x.st] 178))=W3 at bx xM Ha ⊢;have Ht:w.heap.size<=wr.heap.size:=gJ_.zf.size;have tY:s.zt.length+yo s.Ws<=624:=by
      have h1:=hR_.ev;have h2:yo s.Ws<=24:=Nat.le_trans (Wt _ _) EW.len
      omega
     clear gJ_ xM p0_ p1_ p2_ p3_ p4_ de ae dR_ CH tM re tO aj_;generalize wr.heap.size=b8_ at bx uF Ht ⊢
     go_loopg [3] (yo s.Ws) (fun q sl wv=>∃(ms:MS) (a':Option Addr) (c':Nat),yo ms.Ws<=q/\VD w br g cap L o zo n wv a' c' ms.Ws s.st sl ms.zt/\wi L x s.st ms.Ws/\room L x (yo ms.Ws) ms=room L x (yo s.Ws) ⟨s.Ws,s.zt⟩/\zg wv b8_ 178 #[vI x.zm,.string (sb (kN x.zb)),vI x.d0,vI x.d1,vI x.st]/\sl.ownBlock≠some b8_/\ms.zt.length+yo ms.Ws<=624)
     case atStart=>exact⟨⟨s.Ws,s.zt⟩,_,_,Nat.le_refl _,Ha,KZ,rfl,bx,uF,tY⟩
     case round =>
      clear Ha bx uF;obtain⟨ms,a',c',hq,EV,Ba,bH_,oF_,DG,Ig⟩:=hrel;have FY:Hid (room L x (yo ms.Ws) ms=room L x (yo s.Ws) ⟨s.Ws,s.zt⟩):=bH_;clear bH_;have wY:=Ba.yh.yh;have ct_:=(VG Ba.head).1;have oq_:=wY.zl ct_;have y0:=oF_.cell 0;have y1:=oF_.cell 1;have y2:=oF_.cell 2;have y3:=oF_.cell 3;have y4:=oF_.cell 4;simp only[s7]at y0 y1 y2 y3 y4
      go_wp2_with fail
      refine(iE EV.ref E EB wY x oq_).mono ?_
      rintro e w4 ⟨rfl,aZ_⟩
      have fB_:=EV.below aZ_;have lO_:=oF_.below aZ_ oF_.lt;clear y0 y1 y2 y3 y4;have y0:=lO_.cell 0;have y1:=lO_.cell 1;have y2:=lO_.cell 2;have y3:=lO_.cell 3;have y4:=lO_.cell 4;simp only[s7]at y0 y1 y2 y3 y4
      go_wp2_with fail
      refine(pP fB_.ref E EB wY x oq_).mono ?_
      rintro e w5 ⟨rfl,aJ_⟩
      have mZ_:=fB_.below aJ_;have sB_:=lO_.below aJ_ lO_.lt;clear y0 y1 y2 y3 y4
      cases hv_:Xh L ms.Ws x with
      |none =>
       have aj_:xp none=(-1:Int):=rfl;rw[aj_];have cQ_:ms=room L x (yo s.Ws) ⟨s.Ws,s.zt⟩:=by rw[<-FY.out,room_end (fL.2 hv_)]
       have nu_:Hid (ms=room L x (yo s.Ws) ⟨s.Ws,s.zt⟩):=cQ_;clear cQ_ FY hv_ aj_;have y0:=sB_.cell 0;simp only[s7]at y0;generalize Vm L ms.Ws x=ff;have db:=dm mZ_.ref wY x.zm;have Av:0<=s.st/\s.st<=1000000000:=⟨hR_.inv.st0,by have:=hR_.st;omega⟩;have eC_:=fun (i:Nat) (hi:ms.Ws[i]?=some x)=>hO mZ_.ref wY hi Av
       have cu_:∀W:World,W.ownsRow 0 60 2 u3 ms.zt.length (UZ ms.zt)->∃v' w',(∀ty,(Builtin.append_ #[48,48] ty #[u3,vS (W.heap.size+1) 1 1]).run prog ((W.alloc (.cells #[vI 1,vI x.zm] 60)).alloc (.cells #[vI 1,vI x.zm] 60))=.ok v' w')/\∃g cap,v'=vS g (ms.zt.length+1) cap/\xq ((W.alloc (.cells #[vI 1,vI x.zm] 60)).alloc (.cells #[vI 1,vI x.zm] 60)) u3.ownBlock 60 2 (ms.zt.length+1) (UZ ms.zt++UZ [(1,x.zm)]) g cap w' :=
        fun W an_=>Wv un48 Zi (by omega) _ u3 ms.zt.length (UZ ms.zt) ((an_.alloc _).alloc _) (W.heap.size+1) 1 1 (by omega) (UZ [(1,x.zm)]) rfl (zg.new' (by simp)) (eC _ _) (by unfold maxLen;omega) (by omega)
       have aI_:∀(i:Nat) (W W':World) (g' q':Nat),ms.Ws[i]?=some x->AdmR w5 br g cap L a' c' (ms.Ws.set i (x.yi (s.st+1))) zo (s.st+1) W->xq ((W.alloc (.cells #[vI 1,vI x.zm] 60)).alloc (.cells #[vI 1,vI x.zm] 60)) u3.ownBlock 60 2 (ms.zt.length+1) (UZ ms.zt++UZ [(1,x.zm)]) g' q' W'->∃(f:SS) (a2:Option Addr) (c2:Nat),x9 L f.Ws<GB/\x9 L f.Ws<=x9 L f.Ws/\Xi L s0 f/\VD w br g cap L o zo n W' a2 c2 f.Ws f.st (vS g' (ms.zt.length+1) q') f.zt:=by
        intro i W W' g' q' hi hA_ hP_;have hO_:VS L x s=⟨ms.Ws.set i (x.yi (s.st+1)),s.st+1,ms.zt++[(1,x.zm)]⟩:=by
         unfold VS;rw[<-nu_.out,a7 Ba.yh.nums hi]
        have hN_:=hR_.next sw_.out;have h7_:=mZ_.admit bU_ (by rw[List.length_set]) hA_;have h8_:=h7_.below (((Below.refl _ _).alloc (Nat.le_refl _) _).alloc (by simp) _:Bw W ((W.alloc (.cells #[vI 1,vI x.zm] 60)).alloc (.cells #[vI 1,vI x.zm] 60)));have h9_:=h8_.tell bU_ ck_ hP_
        refine⟨VS L x s,a',c',by omega,Nat.le_refl _,hN_.1,?_⟩
        rw[hO_]
        exact h9_
       have b__:Hid (∀(i:Nat) (W W':World) (g' q':Nat),ms.Ws[i]?=some x->AdmR w5 br g cap L a' c' (ms.Ws.set i (x.yi (s.st+1))) zo (s.st+1) W->xq ((W.alloc (.cells #[vI 1,vI x.zm] 60)).alloc (.cells #[vI 1,vI x.zm] 60)) u3.ownBlock 60 2 (ms.zt.length+1) (UZ ms.zt++UZ [(1,x.zm)]) g' q' W'->∃(f:SS) (a2:Option Addr) (c2:Nat),x9 L f.Ws<GB/\x9 L f.Ws<=x9 L f.Ws/\Xi L s0 f/\VD w br g cap L o zo n W' a2 c2 f.Ws f.st (vS g' (ms.zt.length+1) q') f.zt):=aI_;have F_:Hid (∀i W,ms.Ws[i]?=some x->AdmR w5 br g cap L a' c' (ms.Ws.set i (x.yi (s.st+1))) zo (s.st+1) W->W.ownsRow 0 60 2 u3 ms.zt.length (UZ ms.zt)):=fun i W hi hA_=>(mZ_.admit bU_ (by rw[List.length_set]) hA_).row
       have FP:Hid (∀y∈ms.Ws,y.zm=x.zm->y=x):=fun y hy e=>eD Ba.yh.nums hy ct_ e
       have du_:=sB_.lt;clear aI_ nu_ mZ_ fB_ EV Ba hR_ KZ sw_ lO_ sB_ oF_ EW wY aZ_ aJ_ oq_ E EB hq Ig
       cases ff
       all_goals go_wp2_with fail
       all_goals refine db.mono ?_
       all_goals rintro e w6 ⟨gG_,AD⟩
       all_goals subst AD
       all_goals rcases gG_ with ⟨i,y,rfl,hi,hy⟩|⟨a8_,_⟩
       all_goals first|exact absurd rfl (a8_ x ct_)|skip
       all_goals rw[FP.out y (Uq hi) hy]at hi
       all_goals clear hy db
       all_goals go_wp2_with fail
       all_goals refine(eC_ i hi).mono ?_
       all_goals rintro e w7 ⟨rfl,hA_⟩
       all_goals have yG:=cu_ w7 (F_.out i w7 hi hA_)
       all_goals clear cu_ eC_
       all_goals go_wp2_with (at_builtin;refine Vk (by rfl) _ _ _ _ rfl _ _ rfl (by rfl) yG ?_;rintro v1 w8 ⟨g8_,q8_,rfl,R8⟩)
       all_goals obtain⟨f,a2,c2,h1,h2,h3,h4_⟩:=b__.out i w7 w8 g8_ q8_ hi hA_ R8
       ·go_roundg (x9 L f.Ws)
        case measure=>exact h1
        case rel=>exact⟨f,a2,c2,h2,h3,h4_⟩
       ·go_roundg (x9 L f.Ws)
        case measure=>exact h1
        case rel=>exact⟨f,a2,c2,h2,h3,h4_⟩
      |some i =>
       obtain⟨v,uJ,ph_,ql_⟩:=XU L ms.Ws x _ i hv_;have pd:=fy (s:=ms) hv_ uJ;have zD:Vm L ms.Ws x=false:=by
        cases hf:Vm L ms.Ws x with
        |false=>rfl
        |true=>rw[cZ hf]at hv_;cases hv_
       rw[zD];have aj_:xp (some i)=(i:Int):=rfl;rw[aj_];have qi_:¬((i:Int)<0):=by omega
       have nP_:=qY mZ_.ref wY uJ;have du_:=sB_.lt;obtain⟨eM_,jj_,rl_,ie⟩:=Ba.step pd
       simp only at eM_ jj_ rl_ ie
       have eO_:yo (v.yi 0::(ms.Ws.take i++ms.Ws.drop (i+1)))<yo ms.Ws:=by simp at rl_;omega
       have FZ:Hid (room L x (yo (v.yi 0::(ms.Ws.take i++ms.Ws.drop (i+1)))) ⟨v.yi 0::(ms.Ws.take i++ms.Ws.drop (i+1)),ms.zt++[(2,v.zm)]⟩=room L x (yo s.Ws) ⟨s.Ws,s.zt⟩):=by
        show _=_
        rw[<-FY.out];obtain⟨q,ja⟩:∃q,yo ms.Ws=q+1:=⟨yo ms.Ws-1,by omega⟩;rw[ja,jP pd]
        have:yo (v.yi 0::(ms.Ws.take i++ms.Ws.drop (i+1)))=q:=by simp at rl_;omega
        rw[this]
       have cu_:∀W:World,W.ownsRow 0 60 2 u3 ms.zt.length (UZ ms.zt)->∃v' w',(∀ty,(Builtin.append_ #[48,48] ty #[u3,vS (W.heap.size+1) 1 1]).run prog ((W.alloc (.cells #[vI 2,vI v.zm] 60)).alloc (.cells #[vI 2,vI v.zm] 60))=.ok v' w')/\∃g cap,v'=vS g (ms.zt.length+1) cap/\xq ((W.alloc (.cells #[vI 2,vI v.zm] 60)).alloc (.cells #[vI 2,vI v.zm] 60)) u3.ownBlock 60 2 (ms.zt.length+1) (UZ ms.zt++UZ [(2,v.zm)]) g cap w' :=
        fun W an_=>Wv un48 Zi (by omega) _ u3 ms.zt.length (UZ ms.zt) ((an_.alloc _).alloc _) (W.heap.size+1) 1 1 (by omega) (UZ [(2,v.zm)]) rfl (zg.new' (by simp)) (eC _ _) (by unfold maxLen;omega) (by omega)
       clear hv_ uJ ph_ ql_ pd zD aj_ aZ_ aJ_ lO_ oF_ fB_ EV
       go_wp2_with fail
       refine nP_.mono ?_
       rintro e w6 ⟨rfl,b6_,c6_,iD_,vE,GV⟩
       have Bb:=mZ_.X9 bU_ ie iD_ vE GV;have BU:=sB_.zf GV (by omega);have Ho:=cu_ w6 Bb.row;have tF_:=Bb.below (((Below.refl _ _).alloc (Nat.le_refl _) _).alloc (by simp) _:Bw w6 ((w6.alloc (.cells #[vI 2,vI v.zm] 60)).alloc (.cells #[vI 2,vI v.zm] 60)));have BV:=(BU.alloc (.cells #[vI 2,vI v.zm] 60)).alloc (.cells #[vI 2,vI v.zm] 60);clear nP_ cu_ Bb mZ_ vE GV sB_
       go_wp2_with (at_builtin;refine Vk (by rfl) _ _ _ _ rfl _ _ rfl (by rfl) Ho ?_;rintro v1 w8 ⟨g8_,q8_,rfl,R8⟩)
       have Hb:=tF_.tell bU_ ck_ R8;have MQ:=BV.zf R8.zf DG;have OC:¬(g8_=b8_):=fun e=>by
        rcases R8.new with e2|e2
        ·rw[e]at e2;exact DG e2
        ·have:=BV.lt;omega
       go_roundg (yo (v.yi 0::(ms.Ws.take i++ms.Ws.drop (i+1))))
       case measure=>omega
       case rel=>exact⟨⟨v.yi 0::(ms.Ws.take i++ms.Ws.drop (i+1)),ms.zt++[(2,v.zm)]⟩,_,_,Nat.le_refl _,Hb,eM_,FZ.out,MQ,by simp[Value.ownBlock];exact OC,by simp at rl_ ⊢;omega⟩
theorem eQ{b A B:Int}(c:0<=a/\a<=A)(hb:0<=b/\b<=B):0<=a*b/\a*b<=A*B :=
 ⟨Int.mul_nonneg c.1 hb.1,Int.mul_le_mul c.2 hb.2 hb.1 (Int.le_trans c.1 c.2)⟩
theorem Zz(a0 a1 b0 b1:Int)(a:0<=a0/\a0<=100000)(b:0<=a1/\a1<=100000)(h3:0<=b0/\b0<=100000)(c:0<=b1/\b1<=100000)(w:World):
  Calls prog 161 #[.agg #[vI a0,vI a1],.agg #[vI b0,vI b1]] w fun e w'=>e=vR (.bool (decide (a0*b1<b0*a1)))/\Bw w w':=by
 have m1:=eQ a c;have d:=eQ h3 b
 go_enter func161,ntmps161
 go_wp2
 go_ret
 exact⟨rfl,cl⟩
theorem rq{g:Nat}{L:List zx}(h:zy w br g cap L ao cW Ws zo st)(E:ym L)(Fa:xm Ws)(x:Wk)(pa:WkOK x):
  Calls prog 160 #[vP br,.agg #[vI x.zm,vG (sb (kN x.zb)),vI x.d0,vI x.d1,vI x.st]] w fun e w'=>e=vR (.agg #[vI (Vg L Ws x).1,vI (Vg L Ws x).2])/\Bw w w':=by
 have Ha:=fun W (oa:Bw w W)=>Zr (h.ref.below oa) E (sb (kN x.zb)) pa.small
 have Ga:=fun W (oa:Bw w W)=>Zr (h.ref.below oa) E ⟨#[]⟩ d_
 have Ia:=fun W (oa:Bw w W)=>Z1 (h.below oa) Fa (sb (kN x.zb)) pa.small
 have Ta:=Yl E (kN x.zb);have Va:=b6 Fa (kN x.zb);have ab:=Yl E [];have Bb:=pa.n0;have Pb:=pa.n1;rw[UO]at Ha Ia;have rb:bl ⟨#[]⟩=[]:=rfl;rw[rb]at Ga;unfold Vg;generalize xj (Uz L (kN x.zb))=n0 at *;generalize xi (Uz L (kN x.zb))=n1 at *;generalize xj (Uz L [])=j at *;generalize xi (Uz L [])=m at *;generalize yf (Ut Ws (kN x.zb))=n at *;generalize yg (Ut Ws (kN x.zb))=o at *;generalize sb (kN x.zb)=C at *;generalize x.d0=a at *;generalize x.d1=b at *;generalize x.zm=zm at *;generalize x.st=sx at *;clear pa h E Fa rb;obtain⟨V,na⟩:∃V,V=yk (0,1) (shr n a n0 j):=⟨_,rfl⟩;obtain⟨ta,Da⟩:∃ta,ta=yk V (shr o b n1 m):=⟨_,rfl⟩;have Eb:Hid (V=yk (0,1) (shr n a n0 j)):=na;have Nb:Hid (ta=yk V (shr o b n1 m)):=Da;have Ka:=bh (a:=((0:Int),(1:Int))) s_ (ck Va.1 Bb Ta.1 ab.1);have q2:=bh (a:=V) (by rw[na];exact Ka) (ck Va.2 Pb Ta.2 ab.2);rw[<-na]at Ka;rw[<-Da]at q2;rw[<-na,<- Da];clear na Da;obtain⟨p,q⟩:=V;obtain⟨D,F⟩:=ta
 simp only at Ka q2
 obtain⟨P,Ea⟩:∃P:Nat->Int×Int,P=fun k=>if k=0 then(0,1) else if k=1 then(p,q) else(D,F):=⟨_,rfl⟩
 have Ua:P 0=(0,1):=by rw[Ea];rfl
 have qa:P 1=(p,q):=by rw[Ea];rfl
 have ra:P 2=(D,F):=by rw[Ea];rfl
 clear Ea
 go_enter func160,ntmps160
 go_wp2_with fail
 refine(Ha _ cl).mono ?_
 rintro e N ⟨rfl,ma⟩
 have db:Bw w N:=s5 cl ma;have Ja:zg N w.heap.size 178 #[vI zm,vG C,vI a,vI b,vI sx]:=zg.below s6 ma f_;have Ab:zg N (w.heap.size+1) 209 #[vI 0,vI 0]:=zg.below (zg.alloc (zg.new' s_) _) ma f_;have kb:zg N (w.heap.size+1+1) 209 #[vI 0,vI 1]:=zg.below (zg.new' s_) ma f_;clear ma Ha;have Sb:=Ja.lt;have Yb:=Ab.lt;have Tb:=kb.lt;have jc:=db.size;have ob:=Ja.cell 1;simp only[s7]at ob;have mc:¬(w.heap.size=N.heap.size):=o_
 go_wp2_with fail
 refine(Ia _ cl).mono ?_
 rintro e T ⟨rfl,ja⟩
 have eb:Bw w T:=s5 cl ja;have Ra:zg T w.heap.size 178 #[vI zm,vG C,vI a,vI b,vI sx]:=zg.below s6 ja f_;have yb:zg T (w.heap.size+1) 209 #[vI 0,vI 0]:=zg.below s6 ja f_;have nb:zg T (w.heap.size+1+1) 209 #[vI 0,vI 1]:=zg.below s6 ja f_;have ib:zg T N.heap.size 35 #[vI n0,vI n1]:=zg.below (zg.new' rfl) ja f_;clear ja Ia Ja Ab kb ob;have Ub:=Ra.lt;have Zb:=yb.lt;have Rb:=nb.lt;have Qb:=ib.lt;have kc:=eb.size
 go_wp2_with fail
 refine(Ga _ cl).mono ?_
 rintro e l ⟨rfl,X⟩
 have bb:Bw w l:=s5 cl X;have vb:zg l w.heap.size 178 #[vI zm,vG C,vI a,vI b,vI sx]:=zg.below s6 X f_;have Xa:zg l (w.heap.size+1) 209 #[vI 0,vI 0]:=zg.below s6 X f_;have Sa:zg l (w.heap.size+1+1) 209 #[vI 0,vI 1]:=zg.below s6 X f_;have mb:zg l N.heap.size 35 #[vI n0,vI n1]:=zg.below s6 X f_;have jb:zg l T.heap.size 35 #[vI n,vI o]:=zg.below (zg.new' rfl) X f_;clear X Ga Ra yb nb ib;have Xb:=vb.lt;have cc:=Xa.lt;have ec:=Sa.lt;have fc:=mb.lt;have hc:=jb.lt;have oc:=bb.size
 go_wp2_with fail
 have Wa:zg (l.alloc (.cells #[vI j,vI m] 35)) w.heap.size 178 #[vI zm,vG C,vI a,vI b,vI sx]:=s6;have Ya:zg (l.alloc (.cells #[vI j,vI m] 35)) (w.heap.size+1) 209 #[vI 0,vI 0]:=s6;have La:zg (l.alloc (.cells #[vI j,vI m] 35)) (w.heap.size+1+1) 209 #[vI 0,vI 1]:=s6;have pb:zg (l.alloc (.cells #[vI j,vI m] 35)) N.heap.size 35 #[vI n0,vI n1]:=s6;have qb:zg (l.alloc (.cells #[vI j,vI m] 35)) T.heap.size 35 #[vI n,vI o]:=s6;have Za:zg (l.alloc (.cells #[vI j,vI m] 35)) l.heap.size 35 #[vI j,vI m]:=s6;have gb:Bw w (l.alloc (.cells #[vI j,vI m] 35)):=cl;generalize (l.alloc (.cells #[vI j,vI m] 35))=ic at Wa Ya La pb qb Za gb ⊢;clear vb Xa Sa mb jb db eb bb;generalize N.heap.size=Q at *;generalize T.heap.size=R at *;generalize l.heap.size=S at *;clear N T l;rw[show(#[vI 0,vI 1]:Array Value)=#[vI (P 0).1,vI (P 0).2] by rw[Ua]]at La
 go_loopw [9] (fun i wr=>∃k:Nat,k<=2/\i=vI k/\Bw w wr/\zg wr w.heap.size 178 #[vI zm,vG C,vI a,vI b,vI sx]/\zg wr (w.heap.size+1) 209 #[vI 0,vI 0]/\zg wr (w.heap.size+1+1) 209 #[vI (P k).1,vI (P k).2]/\zg wr Q 35 #[vI n0,vI n1]/\zg wr R 35 #[vI n,vI o]/\zg wr S 35 #[vI j,vI m]) (fun i _=>2-(intOf i).toNat)
 case atStart=>exact⟨0,o_,rfl,gb,Wa,Ya,La,pb,qb,Za⟩
 case round =>
  obtain⟨k,nc,rfl,cb,ua,Y,M,Aa,Ba,Ca⟩:=hrel
  rcases(show k=0\/k=1\/k=2 by omega) with rfl|rfl|rfl
  ·-- round 0
   have Ma:=ua.cell 2;have Na:=Aa.cell 0;have Oa:=Ba.cell 0;have Pa:=Ca.cell 0;rw[Ua]at M;have ka:=M.cell 0;have la:=M.cell 1;have Hb:=ua.lt;have Ib:=Y.lt;have Jb:=M.lt;have Kb:=Aa.lt;have Lb:=Ba.lt;have Mb:=Ca.lt;simp only[s7]at Ma Na Oa Pa ka la;have O:Hid ((p,q)=yk ((0:Int),(1:Int)) (shr n a n0 j)):=Eb.out;have Fb:=cb.size
   by_cases ia:j=0\/n+a-n0<0
   ·have J:shr n a n0 j=(0,1):=by unfold shr;rw[if_pos ia]
    have s:=fun W=>Zz (0:Int) (1:Int) 0 1 o_ o_ o_ o_ W
    have K:(p,q)=yk ((0:Int),(1:Int)) (0,1):=by have I:=O.out;rw[J]at I;exact I
    have H:Hid ((p,q)=yk ((0:Int),(1:Int)) (0,1)):=K;clear O J K;have G:j=0\/¬(j=0):=o_;have t:¬((0:Int)*1<0*(1:Int)):=o_;rw[decide_eq_false t]at s
    rcases G with G|G
    ·have sa:(j == 0)=true:=by simp[G]
     clear G ia
     go_wp2_with fail
     go_region
     go_wp2_with fail
     refine(s _).mono ?_
     rintro e d ⟨rfl,c⟩
     have ea:Bw w d:=s5 cl c;have Z:zg d w.heap.size 178 #[vI zm,vG C,vI a,vI b,vI sx]:=zg.below oZ c f_;have aa:zg d (w.heap.size+1) 209 #[vI 0,vI 0]:=zg.below oZ c f_;have f:zg d (w.heap.size+1+1) 209 #[vI (0:Int),vI (1:Int)]:=zg.below oZ c f_;have ba:zg d Q 35 #[vI n0,vI n1]:=zg.below oZ c f_;have ca:zg d R 35 #[vI n,vI o]:=zg.below oZ c f_;have da:zg d S 35 #[vI j,vI m]:=zg.below oZ c f_;have r:zg d wr.heap.size 209 #[vI (0),vI (1)]:=zg.below (by exact(zg.new wr 209 _).drew) c f_;have A:=f.cell 0;have B:=f.cell 1;have ga:=f.frozen 0;have ha:=f.frozen 1;have y:=r.cell 0;have z:=r.cell 1;simp only[s7]at A B y z
     go_wp2_with fail
     refine⟨⟨1,o_,by go_num,cl,oZ,oZ,?_,oZ,oZ,oZ⟩,by simp[intOf]⟩
     rw[qa];have u:(p,q)=((0:Int),(1:Int)):=by rw[H.out];unfold yk;rw[if_neg s_]
     rw[u]
     exact f
    ·have sa:(j == 0)=false:=by simp[G]
     have Qa:n+a-n0<0:=o_
     go_wp2_with fail
     go_region
     go_wp2_with fail
     refine(s _).mono ?_
     rintro e d ⟨rfl,c⟩
     have ea:Bw w d:=s5 cl c;have Z:zg d w.heap.size 178 #[vI zm,vG C,vI a,vI b,vI sx]:=zg.below oZ c f_;have aa:zg d (w.heap.size+1) 209 #[vI 0,vI 0]:=zg.below oZ c f_;have f:zg d (w.heap.size+1+1) 209 #[vI (0:Int),vI (1:Int)]:=zg.below oZ c f_;have ba:zg d Q 35 #[vI n0,vI n1]:=zg.below oZ c f_;have ca:zg d R 35 #[vI n,vI o]:=zg.below oZ c f_;have da:zg d S 35 #[vI j,vI m]:=zg.below oZ c f_;have r:zg d wr.heap.size 209 #[vI (0),vI (1)]:=zg.below (by exact(zg.new wr 209 _).drew) c f_;have A:=f.cell 0;have B:=f.cell 1;have ga:=f.frozen 0;have ha:=f.frozen 1;have y:=r.cell 0;have z:=r.cell 1;simp only[s7]at A B y z
     go_wp2_with fail
     refine⟨⟨1,o_,by go_num,cl,oZ,oZ,?_,oZ,oZ,oZ⟩,by simp[intOf]⟩
     rw[qa];have u:(p,q)=((0:Int),(1:Int)):=by rw[H.out];unfold yk;rw[if_neg s_]
     rw[u]
     exact f
   ·have J:shr n a n0 j=(n+a-n0,j):=by unfold shr;rw[if_neg ia]
    have s:=fun W=>Zz (0:Int) (1:Int) (n+a-n0) j o_ o_ o_ o_ W
    have K:(p,q)=yk ((0:Int),(1:Int)) (n+a-n0,j):=by have I:=O.out;rw[J]at I;exact I
    have H:Hid ((p,q)=yk ((0:Int),(1:Int)) (n+a-n0,j)):=K;clear O J K;have sa:(j == 0)=false:=by simp;omega
    have Qa:¬(n+a-n0<0):=o_
    by_cases t:(0:Int)*j<(n+a-n0)*(1:Int)
    ·rw[decide_eq_true t]at s;have U:Hid ((0:Int)*j<(n+a-n0)*(1:Int)):=t;clear t
     go_wp2_with fail
     go_region
     go_wp2_with fail
     refine(s _).mono ?_
     rintro e d ⟨rfl,c⟩
     have ea:Bw w d:=s5 cl c;have Z:zg d w.heap.size 178 #[vI zm,vG C,vI a,vI b,vI sx]:=zg.below oZ c f_;have aa:zg d (w.heap.size+1) 209 #[vI 0,vI 0]:=zg.below oZ c f_;have f:zg d (w.heap.size+1+1) 209 #[vI (0:Int),vI (1:Int)]:=zg.below oZ c f_;have ba:zg d Q 35 #[vI n0,vI n1]:=zg.below oZ c f_;have ca:zg d R 35 #[vI n,vI o]:=zg.below oZ c f_;have da:zg d S 35 #[vI j,vI m]:=zg.below oZ c f_;have r:zg d wr.heap.size 209 #[vI (n+a-n0),vI (j)]:=zg.below (by exact(zg.new wr 209 _).drew) c f_;have A:=f.cell 0;have B:=f.cell 1;have ga:=f.frozen 0;have ha:=f.frozen 1;have y:=r.cell 0;have z:=r.cell 1;simp only[s7]at A B y z
     go_wp2_with fail
     refine⟨⟨1,o_,by go_num,cl,oZ,oZ,?_,oZ,oZ,oZ⟩,by simp[intOf]⟩
     rw[qa];have u:(p,q)=(n+a-n0,j):=by rw[H.out];unfold yk;rw[if_pos (p_ U.out)]
     rw[u]
     simpa using ((f.set 0 (vI (n+a-n0))).set 1 (vI (j)))
    ·rw[decide_eq_false t]at s;have U:Hid (¬(0:Int)*j<(n+a-n0)*(1:Int)):=t;clear t
     go_wp2_with fail
     go_region
     go_wp2_with fail
     refine(s _).mono ?_
     rintro e d ⟨rfl,c⟩
     have ea:Bw w d:=s5 cl c;have Z:zg d w.heap.size 178 #[vI zm,vG C,vI a,vI b,vI sx]:=zg.below oZ c f_;have aa:zg d (w.heap.size+1) 209 #[vI 0,vI 0]:=zg.below oZ c f_;have f:zg d (w.heap.size+1+1) 209 #[vI (0:Int),vI (1:Int)]:=zg.below oZ c f_;have ba:zg d Q 35 #[vI n0,vI n1]:=zg.below oZ c f_;have ca:zg d R 35 #[vI n,vI o]:=zg.below oZ c f_;have da:zg d S 35 #[vI j,vI m]:=zg.below oZ c f_;have r:zg d wr.heap.size 209 #[vI (n+a-n0),vI (j)]:=zg.below (by exact(zg.new wr 209 _).drew) c f_;have A:=f.cell 0;have B:=f.cell 1;have ga:=f.frozen 0;have ha:=f.frozen 1;have y:=r.cell 0;have z:=r.cell 1;simp only[s7]at A B y z
     go_wp2_with fail
     refine⟨⟨1,o_,by go_num,cl,oZ,oZ,?_,oZ,oZ,oZ⟩,by simp[intOf]⟩
     rw[qa];have u:(p,q)=((0:Int),(1:Int)):=by rw[H.out];unfold yk;rw[if_neg (p_ U.out)]
     rw[u]
     exact f
  ·-- round 1
   have Ma:=ua.cell 3;have Na:=Aa.cell 1;have Oa:=Ba.cell 1;have Pa:=Ca.cell 1;rw[qa]at M;have ka:=M.cell 0;have la:=M.cell 1;have Hb:=ua.lt;have Ib:=Y.lt;have Jb:=M.lt;have Kb:=Aa.lt;have Lb:=Ba.lt;have Mb:=Ca.lt;simp only[s7]at Ma Na Oa Pa ka la;have O:Hid ((D,F)=yk (p,q) (shr o b n1 m)):=Nb.out;have Fb:=cb.size
   by_cases ia:m=0\/o+b-n1<0
   ·have J:shr o b n1 m=(0,1):=by unfold shr;rw[if_pos ia]
    have s:=fun W=>Zz p q 0 1 o_ o_ o_ o_ W
    have K:(D,F)=yk (p,q) (0,1):=by have I:=O.out;rw[J]at I;exact I
    have H:Hid ((D,F)=yk (p,q) (0,1)):=K;clear O J K;have G:m=0\/¬(m=0):=o_;have t:¬(p*1<0*q):=o_;rw[decide_eq_false t]at s
    rcases G with G|G
    ·have sa:(m == 0)=true:=by simp[G]
     clear G ia
     go_wp2_with fail
     go_region
     go_wp2_with fail
     refine(s _).mono ?_
     rintro e d ⟨rfl,c⟩
     have ea:Bw w d:=s5 cl c;have Z:zg d w.heap.size 178 #[vI zm,vG C,vI a,vI b,vI sx]:=zg.below oZ c f_;have aa:zg d (w.heap.size+1) 209 #[vI 0,vI 0]:=zg.below oZ c f_;have f:zg d (w.heap.size+1+1) 209 #[vI p,vI q]:=zg.below oZ c f_;have ba:zg d Q 35 #[vI n0,vI n1]:=zg.below oZ c f_;have ca:zg d R 35 #[vI n,vI o]:=zg.below oZ c f_;have da:zg d S 35 #[vI j,vI m]:=zg.below oZ c f_;have r:zg d wr.heap.size 209 #[vI (0),vI (1)]:=zg.below (by exact(zg.new wr 209 _).drew) c f_;have A:=f.cell 0;have B:=f.cell 1;have ga:=f.frozen 0;have ha:=f.frozen 1;have y:=r.cell 0;have z:=r.cell 1;simp only[s7]at A B y z
     go_wp2_with fail
     refine⟨⟨2,o_,by go_num,cl,oZ,oZ,?_,oZ,oZ,oZ⟩,by simp[intOf]⟩
     rw[ra];have u:(D,F)=(p,q):=by rw[H.out];unfold yk;rw[if_neg (by simp only;omega)]
     rw[u]
     exact f
    ·have sa:(m == 0)=false:=by simp[G]
     have Qa:o+b-n1<0:=o_
     go_wp2_with fail
     go_region
     go_wp2_with fail
     refine(s _).mono ?_
     rintro e d ⟨rfl,c⟩
     have ea:Bw w d:=s5 cl c;have Z:zg d w.heap.size 178 #[vI zm,vG C,vI a,vI b,vI sx]:=zg.below oZ c f_;have aa:zg d (w.heap.size+1) 209 #[vI 0,vI 0]:=zg.below oZ c f_;have f:zg d (w.heap.size+1+1) 209 #[vI p,vI q]:=zg.below oZ c f_;have ba:zg d Q 35 #[vI n0,vI n1]:=zg.below oZ c f_;have ca:zg d R 35 #[vI n,vI o]:=zg.below oZ c f_;have da:zg d S 35 #[vI j,vI m]:=zg.below oZ c f_;have r:zg d wr.heap.size 209 #[vI (0),vI (1)]:=zg.below (by exact(zg.new wr 209 _).drew) c f_;have A:=f.cell 0;have B:=f.cell 1;have ga:=f.frozen 0;have ha:=f.frozen 1;have y:=r.cell 0;have z:=r.cell 1;simp only[s7]at A B y z
     go_wp2_with fail
     refine⟨⟨2,o_,by go_num,cl,oZ,oZ,?_,oZ,oZ,oZ⟩,by simp[intOf]⟩
     rw[ra];have u:(D,F)=(p,q):=by rw[H.out];unfold yk;rw[if_neg (by simp only;omega)]
     rw[u]
     exact f
   ·have J:shr o b n1 m=(o+b-n1,m):=by unfold shr;rw[if_neg ia]
    have s:=fun W=>Zz p q (o+b-n1) m o_ o_ o_ o_ W
    have K:(D,F)=yk (p,q) (o+b-n1,m):=by have I:=O.out;rw[J]at I;exact I
    have H:Hid ((D,F)=yk (p,q) (o+b-n1,m)):=K;clear O J K;have sa:(m == 0)=false:=by simp;omega
    have Qa:¬(o+b-n1<0):=o_
    by_cases t:p*m<(o+b-n1)*q
    ·rw[decide_eq_true t]at s;have U:Hid (p*m<(o+b-n1)*q):=t;clear t
     go_wp2_with fail
     go_region
     go_wp2_with fail
     refine(s _).mono ?_
     rintro e d ⟨rfl,c⟩
     have ea:Bw w d:=s5 cl c;have Z:zg d w.heap.size 178 #[vI zm,vG C,vI a,vI b,vI sx]:=zg.below oZ c f_;have aa:zg d (w.heap.size+1) 209 #[vI 0,vI 0]:=zg.below oZ c f_;have f:zg d (w.heap.size+1+1) 209 #[vI p,vI q]:=zg.below oZ c f_;have ba:zg d Q 35 #[vI n0,vI n1]:=zg.below oZ c f_;have ca:zg d R 35 #[vI n,vI o]:=zg.below oZ c f_;have da:zg d S 35 #[vI j,vI m]:=zg.below oZ c f_;have r:zg d wr.heap.size 209 #[vI (o+b-n1),vI (m)]:=zg.below (by exact(zg.new wr 209 _).drew) c f_;have A:=f.cell 0;have B:=f.cell 1;have ga:=f.frozen 0;have ha:=f.frozen 1;have y:=r.cell 0;have z:=r.cell 1;simp only[s7]at A B y z
     go_wp2_with fail
     refine⟨⟨2,o_,by go_num,cl,oZ,oZ,?_,oZ,oZ,oZ⟩,by simp[intOf]⟩
     rw[ra];have u:(D,F)=(o+b-n1,m):=by rw[H.out];unfold yk;rw[if_pos (p_ U.out)]
     rw[u]
     simpa using ((f.set 0 (vI (o+b-n1))).set 1 (vI (m)))
    ·rw[decide_eq_false t]at s;have U:Hid (¬p*m<(o+b-n1)*q):=t;clear t
     go_wp2_with fail
     go_region
     go_wp2_with fail
     refine(s _).mono ?_
     rintro e d ⟨rfl,c⟩
     have ea:Bw w d:=s5 cl c;have Z:zg d w.heap.size 178 #[vI zm,vG C,vI a,vI b,vI sx]:=zg.below oZ c f_;have aa:zg d (w.heap.size+1) 209 #[vI 0,vI 0]:=zg.below oZ c f_;have f:zg d (w.heap.size+1+1) 209 #[vI p,vI q]:=zg.below oZ c f_;have ba:zg d Q 35 #[vI n0,vI n1]:=zg.below oZ c f_;have ca:zg d R 35 #[vI n,vI o]:=zg.below oZ c f_;have da:zg d S 35 #[vI j,vI m]:=zg.below oZ c f_;have r:zg d wr.heap.size 209 #[vI (o+b-n1),vI (m)]:=zg.below (by exact(zg.new wr 209 _).drew) c f_;have A:=f.cell 0;have B:=f.cell 1;have ga:=f.frozen 0;have ha:=f.frozen 1;have y:=r.cell 0;have z:=r.cell 1;simp only[s7]at A B y z
     go_wp2_with fail
     refine⟨⟨2,o_,by go_num,cl,oZ,oZ,?_,oZ,oZ,oZ⟩,by simp[intOf]⟩
     rw[ra];have u:(D,F)=(p,q):=by rw[H.out];unfold yk;rw[if_neg (p_ U.out)]
     rw[u]
     exact f
  ·have ka:=M.cell 0;have la:=M.cell 1;have Cb:=Y.cell 0;have Db:=Y.cell 1;have Vb:=Y.frozen 0;have Wb:=Y.frozen 1;rw[ra]at ka la;simp only[s7]at ka la Cb Db
   go_wp2_with fail
   have Ob:=(Y.set 0 (vI D)).set 1 (vI F);have Gb:=Ob.cell
   refine Us (v:=.agg #[vI D,vI F]) ?_ rfl ⟨rfl,cl⟩
   simp[results,results160,go_sem,Gb]
theorem VD.other{g:Nat}{L:List zx}{sl:Value}(h:VD w br g cap L o zo n W ao cW Ws st sl zt)(i:br<w.heap.size)(j:g<w.heap.size)(c:zd T W W')(a:∀b,T b->w.heap.size<=b/\sl.ownBlock≠some b/\(Value.slice ao Ws.length cW).ownBlock≠some b):VD w br g cap L o zo n W' ao cW Ws st sl zt:=by
 have f:¬T br:=fun e=>by have:=(a br e).1;omega
 have d:¬T g:=fun e=>by have:=(a g e).1;omega
 refine⟨⟨h.ref.ref.zf c f d,s8 h.ref.yc c (fun b hb e=>(a b e).2.2 hb),h.ref.ne1⟩,h.len,h.zf.step c (fun b hb e=>?_),h.old,s8 h.row c (fun b hb e=>(a b e).2.1 hb),h.new,h.sep⟩
 have:=(a b e).1;omega
theorem ox{L:List zx}(h:ye s0)(a:s0.zt=[]):Xi L s0 (VN L s0) :=
 ZZ (I:=Xi L s0) (fun s f h a=>(h.next a).1) _ s0 (Xi.start h a)
structure XZ (L:List zx) (s0 s:SS):Prop where
 inv:ye s
 fin:wW (VL L) (VO s.Ws) s=UH L s0
 st:s.st+VO s.Ws<=s0.st+48
 ev:s.zt.length+VO s.Ws<=624
theorem ye.e9{L:List zx}(s f:SS)(h:ye s)(a:VL L s=some f):ye f/\VO f.Ws<VO s.Ws:=⟨(h.idle a).1,(h.idle a).2.1⟩
theorem XZ.start{L:List zx}(h:ye s0)(b:s0.zt=[])(f:(VN L s0).Ws.length=s0.Ws.length):XZ L s0 (VN L s0):=by
 have a:=ox (L:=L) h b;have c:=jh (VN L s0).Ws;have d:=a.inv.yh.yh.len;have h3:=a.st;have e:=a.ev
 exact⟨a.inv,ZR (m:=fun s=>VO s.Ws) ye.e9 _ _ _ a.inv (Nat.le_refl _) (by show VO (VN L s0).Ws<=s0.Ws.length;omega),o_,o_⟩
theorem XZ.next{L:List zx}(h:XZ L s0 s)(b:VL L s=some f):XZ L s0 f/\VO f.Ws<VO s.Ws:=by
 obtain⟨a,c,h3,e,g⟩:=h.inv.idle b
 refine⟨⟨a,?_,?_,?_⟩,c⟩
 ·rw[<-h.fin];obtain⟨m,d⟩:∃m,VO s.Ws=m+1:=⟨VO s.Ws-1,o_⟩;rw[d,aW b]
  exact ZR (m:=fun s=>VO s.Ws) ye.e9 _ _ f a (Nat.le_refl _) (by show VO f.Ws<=m;omega)
 ·have:=h.st;omega
 ·have:=h.ev;omega
theorem XZ.done{L:List zx}(h:XZ L s0 s)(a:VL L s=none):s=UH L s0:=by
 rw[<-h.fin,Yu a]
theorem iv{L:List zx}(E:ym L)(b:xm Ws)(a:WkOK x):(0<=(Vg L Ws x).1/\(Vg L Ws x).1<=25000)/\(0<=(Vg L Ws x).2/\(Vg L Ws x).2<=25000):=by
 have u:=b6 b (kN x.zb);have e:=Yl E (kN x.zb);have r:=Yl E []
 exact bh (bh ⟨⟨d_,d_⟩,⟨d_,d_⟩⟩ (ck u.1 a.n0 e.1 r.1)) (ck u.2 a.n1 e.2 r.2)
theorem q_{L:List zx}(E:ym L)(f:xm Ws)(l:List Nat):((0<=(Vi L Ws l).2.1/\(Vi L Ws l).2.1<=25000)/\(0<=(Vi L Ws l).2.2/\(Vi L Ws l).2.2<=25000))/\(∀b0,(Vi L Ws l).1=some b0->∃y,Ws[b0]?=some y):=by
 have h:=cL E Ws l _ (eN L Ws)
 refine⟨?_,fun b0 hb=>by obtain⟨y,d,_⟩:=h.1 b0 hb;exact⟨y,d⟩⟩
 cases hb:(Vi L Ws l).1 with
 |some b0 =>
  obtain⟨y,d,k⟩:=h.1 b0 hb;have g:(Vi L Ws l).2=Vg L Ws y:=k;rw[g]
  exact iv E f (f.zl (Uq d))
 |none =>
  have zb:∀(l:List Nat) (a:Option Nat×(Int×Int)),(l.foldl (WG L Ws) a).1=none->l.foldl (WG L Ws) a=a:=by
   intro l
   induction l with
   |nil=>intro a _;rfl
   |cons i l m =>
    intro a b;rw[List.foldl_cons]at b ⊢;have c:=m _ b;rw[c]at b ⊢
    rcases fq L Ws a i with e|⟨e,_⟩
    ·exact e
    ·rw[e]at b;cases b
  have c:=zb l (none,(0,0)) hb;have j:Vi L Ws l=(none,(0,0)):=c;rw[j]
  exact⟨⟨d_,d_⟩,⟨d_,d_⟩⟩
theorem bu{g:Nat}{L:List zx}(h:zy w br g cap L ao cW Ws zo st)(E:ym L)(EB:wb L)(I:ye ⟨Ws,st,[]⟩)(bR_:st<=900000000):
  Calls prog 109 #[vP br] w fun e w'=>∃sl gC iU,e=.returned sl/\VD w br g cap L (Value.slice ao Ws.length cW).ownBlock zo Ws.length w' gC iU (UH L ⟨Ws,st,[]⟩).Ws (UH L ⟨Ws,st,[]⟩).st sl (UH L ⟨Ws,st,[]⟩).zt:=by
 have bU_:=h.Wf;have ck_:g<w.heap.size:=(h.ref.row.lt g rfl).2;have ax_:=ti h E EB I bR_;have jE_:=I.yh.yh.len
 simp only at jE_
 have ES:=fun hl=>XZ.start (L:=L) (s0:=⟨Ws,st,[]⟩) I rfl hl
 obtain⟨n,hn⟩:∃n,n=Ws.length:=⟨_,rfl⟩
 simp only at ES
 rw[<-hn]at ax_ jE_ ES ⊢;generalize dh_:(⟨Ws,st,[]⟩:SS)=s0 at *;have oi_:s0.st<=900000000:=by rw[<-dh_];exact bR_
 generalize (Value.slice ao n cW).ownBlock=o at *;clear dh_ h bR_ hn I
 go_enter func109,ntmps109
 go_wp2_with fail
 refine ax_.mono ?_
 rintro e w0 ⟨TX,a0,c0,rfl,vM⟩
 have C3:=ES vM.len;clear ax_ ES
 go_wp2_with fail
 go_loopg [3] (VO (VN L s0).Ws) (fun k sl wr=>∃(s:SS) (a:Option Addr) (c:Nat),VO s.Ws<=k/\XZ L s0 s/\VD w br g cap L o zo n wr a c s.Ws s.st sl s.zt)
 case atStart=>exact⟨_,a0,c0,Nat.le_refl _,C3,vM⟩
 case round =>
  clear C3 vM;obtain⟨s,a,c,hk_,hR_,hS_⟩:=hrel;obtain⟨GB,zG⟩:∃k,k=gk:=⟨_,rfl⟩;subst zG;have EW:=hR_.inv.yh.yh;have ar_:=hS_.len;have dE_:Bw wr (wr.alloc (.cells #[vI 0,vI 0] 209)):=by exact cl
  have vO:=hS_.below dE_;have bA_:zg (wr.alloc (.cells #[vI 0,vI 0] 209)) wr.heap.size 209 #[vI 0,vI 0]:=zg.new wr 209 _;have CA:w.heap.size<=wr.heap.size:=hS_.zf.size;have C9:u3.ownBlock≠some wr.heap.size:=fun e=>by have:=(hS_.row.lt _ e).2;omega
  have C8:(Value.slice a s.Ws.length c).ownBlock≠some wr.heap.size:=fun e=>by have:=UI hS_.ref.yc e;omega
  go_wp2_with fail
  refine(h7 vO.ref EW).mono ?_
  rintro e w1 ⟨hl,rfl,an_,aa⟩
  obtain⟨ah_,ch,rfl,cr_⟩:=jt an_;have oK_:=vO.below aa;have iB_:=bA_.below aa bA_.lt;have cI_:br<w1.heap.size:=oK_.ref.Wf;have qN_:Hid (∀i∈WI s.Ws,i<n/\tv s.Ws i=true):=fun i hi=>by rw[<-ar_];exact aV hi
  have rK_:(WI s.Ws).length<=24:=Nat.le_trans (dk _ _) (by omega);have CY:∀gh_,ah_=some (vA gh_ 0)->wr.heap.size<gh_:=fun gh_ e=>by
   subst e
   have:=(an_.lt gh_ rfl).1
   simp at this;omega
  obtain⟨hs,zH⟩:∃hs,hs=WI s.Ws:=⟨_,rfl⟩;have BG:Hid (hs=WI s.Ws):=zH;rw[<-zH]at cr_ qN_ rK_ ⊢;clear zH an_ vO bA_ dE_ aa hS_;generalize wr.heap.size=b5_ at iB_ CA C9 C8 CY ⊢;obtain⟨m,hm⟩:∃m,m=hs.length:=⟨_,rfl⟩;rw[<-hm]at cr_ rK_ ⊢;have HM:Hid (m=hs.length):=hm;clear hm;have hT:∀b,b=b5_->w.heap.size<=b/\u3.ownBlock≠some b/\(Value.slice a s.Ws.length c).ownBlock≠some b:=fun b e=>by subst e;exact⟨CA,C9,C8⟩
  have K_:Hid (∀W,zd (fun b=>b=b5_) w1 W->VD w br g cap L o zo n W a c s.Ws s.st u3 s.zt):=fun W hW_=>oK_.other bU_ ck_ hW_ hT
  clear hT
  go_wp2_with fail
  go_loopw [4,7] (fun fc i w2=>∃k:Nat,k<=m/\i=vI k/\fc=vI (xp (Vi L s.Ws (hs.take k)).1)/\zd (fun b=>b=b5_) w1 w2/\zg w2 b5_ 209 #[vI (Vi L s.Ws (hs.take k)).2.1,vI (Vi L s.Ws (hs.take k)).2.2]) (fun _ i _=>m-(intOf i).toNat)
  case atStart=>exact⟨0,Nat.zero_le _,rfl,rfl,zd.refl _ _,iB_⟩
  case round =>
   clear iB_;obtain⟨k,zU,rfl,rfl,ic,AV⟩:=hrel;have tG_:=K_.out _ ic;have CH:br<wr.heap.size:=tG_.ref.Wf;have de:wr.cell? (vA br 1)=some (.slice a n c):=by have:=tG_.ref.ref.zl.cell 1;rw[<-ar_];simpa using this
   by_cases ak:k<m
   ·obtain⟨i,hi⟩:∃i,hs[k]?=some i:=⟨_,Ur (by rw[<-HM.out];exact ak)⟩;obtain⟨cM_,Ip⟩:=qN_.out i (Uq hi);obtain⟨x,hx⟩:∃x,s.Ws[i]?=some x:=⟨_,Ur (by omega)⟩;obtain⟨gh_,tI_,j8_,H6,H7,sG_⟩:=cr_ k i hi;have Ov:=CY gh_ tI_;subst tI_;have yR:=(ic.cell (p:=vA gh_ k) j8_ (by show ¬(gh_=b5_);omega)).trans sG_;obtain⟨b,fK_,dR_,fE_,kd,p0_,p1_,p2_,p3_,p4_⟩:=tG_.ref.wk hx;rw[ar_]at fE_;subst fK_;have nX_:(k:Int)<m:=by omega
    have gP_:(0:Int)<=k:=by omega
    have mG_:(i:Int)<n:=by omega
    have zI:(0:Int)<=i:=by omega
    have oq_:=EW.zl (Uq hx);have HX:Hid (s.Ws[i]?=some x):=hx;have HT:Hid (Vi L s.Ws (hs.take (k+1))=WG L s.Ws (Vi L s.Ws (hs.take k)) i):=by
     show _=_
     rw[show hs.take (k+1)=hs.take k++[i] from by
      rw[VT (by rw[<-HM.out];exact ak)];rw[Ur (by rw[<-HM.out];exact ak)]at hi;cases hi;rfl]
     rw[mP]
    obtain⟨lT_,ig_⟩:=q_ E EW (hs.take k);have E5:Hid (∀b0,(Vi L s.Ws (hs.take k)).1=some b0->∃y,s.Ws[b0]?=some y):=ig_;clear ig_ hi Ip cr_;have Mq:=qN_;clear qN_ hx;generalize Vi L s.Ws (hs.take k)=pY_ at HT lT_ E5 AV ⊢;obtain⟨pk,l1,l2⟩:=pY_
    simp only at lT_ AV
    have wE:gh_<wr.heap.size:=VJ j8_ ic.size;have e1_:¬(b=wr.heap.size):=by omega
    have e2:¬(br=wr.heap.size):=by omega
    have e3_:¬(gh_=wr.heap.size):=by omega
    obtain⟨B,hB_⟩:∃B,B=xp pk:=⟨_,rfl⟩
    simp only
    rw[<-hB_];have HB:Hid (B=xp pk):=hB_;clear hB_
    go_upto_region 8 with fail
    go_region
    go_wp2_with fail
    have fI_:Bw wr (wr.alloc (.cells #[vI x.zm,.string (sb (kN x.zb)),vI x.d0,vI x.d1,vI x.st] 178)).drew:=by exact cl
    have fw_:zg (wr.alloc (.cells #[vI x.zm,.string (sb (kN x.zb)),vI x.d0,vI x.d1,vI x.st] 178)).drew wr.heap.size 178 #[vI x.zm,.string (sb (kN x.zb)),vI x.d0,vI x.d1,vI x.st]:=(zg.new wr 178 _).drew;have vO:=tG_.below fI_;have EC:=AV.below fI_ AV.lt;have Dj:=ic.WW fI_;generalize (wr.alloc (.cells #[vI x.zm,.string (sb (kN x.zb)),vI x.d0,vI x.d1,vI x.st] 178)).drew=WA at fw_ vO EC Dj ⊢
    refine(iE vO.ref E EB EW x oq_).mono ?_
    rintro e w4 ⟨rfl,aZ_⟩
    have fB_:=vO.below aZ_;have uT:=EC.below aZ_ EC.lt;have mI_:=Dj.WW aZ_;have lO_:=fw_.below aZ_ fw_.lt;have y0:=lO_.cell 0;have y1:=lO_.cell 1;have y2:=lO_.cell 2;have y3:=lO_.cell 3;have y4:=lO_.cell 4;simp only[s7]at y0 y1 y2 y3 y4;have b__:Hid (∀(bb p1_ p2_:Int) (W:World),zd (fun b=>b=b5_) w1 W->zg W b5_ 209 #[vI p1_,vI p2_]->bb=xp (Vi L s.Ws (hs.take (k+1))).1->p1_=(Vi L s.Ws (hs.take (k+1))).2.1->p2_=(Vi L s.Ws (hs.take (k+1))).2.2->(∃eY_:Nat,eY_<=m/\vI ((k:Int)+1)=vI eY_/\vI bb=vI (xp (Vi L s.Ws (hs.take eY_)).1)/\zd (fun b=>b=b5_) w1 W/\zg W b5_ 209 #[vI (Vi L s.Ws (hs.take eY_)).2.1,vI (Vi L s.Ws (hs.take eY_)).2.2])/\m-(intOf (vI ((k:Int)+1))).toNat<m-(intOf (vI (k:Int))).toNat) :=
     fun bb p1_ p2_ W h1 h2 h3 h4_ h5_=>⟨⟨k+1,by omega,by go_num,by rw[h3],h1,by rw[<-h4_,<- h5_];exact h2⟩,by simp[intOf];omega⟩
    clear tG_ AV ic fI_ vO EC Dj fw_ aZ_ p0_ p1_ p2_ p3_ p4_ de
    cases zD:Vm L s.Ws x
    ·have qx_:Hid (Vi L s.Ws (hs.take (k+1))=(pk,(l1,l2))):=by
      show _=_
      rw[HT.out];unfold WG;rw[HX.out];simp[zD]
     clear zD HT
     go_wp2_with fail
     exact b__.out _ _ _ _ mI_ uT (by rw[qx_.out,HB.out]) (by rw[qx_.out]) (by rw[qx_.out])
    ·have qx_:Hid (Vi L s.Ws (hs.take (k+1))=if (match pk with|none=>true|some b=>V2 (Vg L s.Ws x) (l1,l2)||(!V2 (l1,l2) (Vg L s.Ws x)&&decide (x.zm<ct s.Ws b))) then(some i,Vg L s.Ws x) else(pk,(l1,l2))):=by
      show _=_
      rw[HT.out];unfold WG;rw[HX.out];simp only[zD,if_true]
      rfl
     clear zD HT
     go_wp2_with fail
     refine(rq fB_.ref E EW x oq_).mono ?_
     rintro e w5 ⟨rfl,aJ_⟩
     have mZ_:=fB_.below aJ_;have EA:=uT.below aJ_ uT.lt;have ib:=mI_.WW aJ_;have sB_:=lO_.below aJ_ lO_.lt;have wM:=iv E EW oq_;clear fB_ uT mI_ lO_ y0 y1 y2 y3 y4 aJ_;generalize Vg L s.Ws x=Qx at qx_ wM ⊢;obtain⟨q1,q2⟩:=Qx
     simp only at wM ⊢
     have xK:Bw w5 (w5.alloc (.cells #[vI q1,vI q2] 209)):=by exact cl
     have bq:zg (w5.alloc (.cells #[vI q1,vI q2] 209)) w5.heap.size 209 #[vI q1,vI q2]:=zg.new w5 209 _;have Hc:=mZ_.below xK;have AU:=EA.below xK EA.lt;have Iz:=ib.WW xK;have EI:=sB_.below xK sB_.lt;have f5:¬(b5_=w5.heap.size):=by have:=EA.lt;omega
     have rF_:=Zz q1 q2 l1 l2 (by omega) (by omega) (by omega) (by omega);have rG_:=Zz l1 l2 q1 q2 (by omega) (by omega) (by omega) (by omega)
     go_upto_region 12 with fail
     have Hs:¬(w5.heap.size=b5_):=fun e=>f5 e.symm
     generalize w5.alloc (.cells #[vI q1,vI q2] 209)=WB at bq Hc AU Iz EI ⊢;clear mZ_ EA ib sB_ xK f5;generalize w5.heap.size=Rp at bq Hs ⊢;have z0:=AU.cell 0;have z1:=AU.cell 1;have z2:=bq.cell 0;have z3:=bq.cell 1;simp only[s7]at z0 z1 z2 z3
     go_wp2_with fail
     refine(rF_ _).mono ?_
     rintro e w6 ⟨rfl,iD_⟩
     have Bb:=Hc.below iD_;have BO:=AU.below iD_ AU.lt;have uv:=Iz.WW iD_;have BU:=EI.below iD_ EI.lt;have te:=bq.below iD_ bq.lt;clear Hc AU Iz EI bq iD_ z0 z1 z2 z3;have z0:=BO.cell 0;have z1:=BO.cell 1;have z2:=te.cell 0;have z3:=te.cell 1;simp only[s7]at z0 z1 z2 z3
     go_wp2_with fail
     refine(rG_ _).mono ?_
     rintro e w7 ⟨rfl,lS_⟩
     have tF_:=Bb.below lS_;have xC:=BO.below lS_ BO.lt;have zO:=uv.WW lS_;have BV:=BU.below lS_ BU.lt;have Gq:=te.below lS_ te.lt;clear Bb BO uv BU te lS_ z0 z1 z2 z3 rF_ rG_;have z0:=xC.cell 0;have z1:=xC.cell 1;have z2:=Gq.cell 0;have z3:=Gq.cell 1;have z4:=BV.cell 0;have r0:=xC.frozen 0;have r1:=xC.frozen 1;simp only[s7]at z0 z1 z2 z3 z4;have Oa:=(zO.cell (p:=vA gh_ k) j8_ (by show ¬(gh_=b5_);omega)).trans sG_;have RZ:w7.cell? (vA br 1)=some (vS b n c):=by have:=tF_.ref.ref.zl.cell 1;rw[<-ar_];simpa using this
     have mj_:Hid (∀(bb:Int) (nq:Nat),bb=i->Vi L s.Ws (hs.take (k+1))=(some i,(q1,q2))->(∃eY_:Nat,eY_<=m/\vI ((k:Int)+1)=vI eY_/\vI bb=vI (xp (Vi L s.Ws (hs.take eY_)).1)/\zd (fun b=>b=b5_) w1 (((w7.drewN nq).setCell (vA b5_ 0) (vI q1)).setCell (vA b5_ 1) (vI q2))/\zg (((w7.drewN nq).setCell (vA b5_ 0) (vI q1)).setCell (vA b5_ 1) (vI q2)) b5_ 209 #[vI (Vi L s.Ws (hs.take eY_)).2.1,vI (Vi L s.Ws (hs.take eY_)).2.2])/\m-(intOf (vI ((k:Int)+1))).toNat<m-(intOf (vI (k:Int))).toNat):=by
      show ∀(bb:Int) (nq:Nat),bb=i->Vi L s.Ws (hs.take (k+1))=(some i,(q1,q2))->_
      intro bb nq e1_ e2
      refine b__.out bb q1 q2 _ ?_ ?_ (by rw[e2,e1_];rfl) (by rw[e2]) (by rw[e2])
      ·exact((zO.WW (UT (Below.refl _ _) nq)).setCell (p:=vA b5_ 0) rfl _).setCell (p:=vA b5_ 1) rfl _
      ·have:=((xC.drewN nq).set 0 (vI q1)).set 1 (vI q2)
       simpa using this
     have jn_:Hid (∀(nq:Nat),Vi L s.Ws (hs.take (k+1))=(pk,(l1,l2))->(∃eY_:Nat,eY_<=m/\vI ((k:Int)+1)=vI eY_/\vI B=vI (xp (Vi L s.Ws (hs.take eY_)).1)/\zd (fun b=>b=b5_) w1 (w7.drewN nq)/\zg (w7.drewN nq) b5_ 209 #[vI (Vi L s.Ws (hs.take eY_)).2.1,vI (Vi L s.Ws (hs.take eY_)).2.2])/\m-(intOf (vI ((k:Int)+1))).toNat<m-(intOf (vI (k:Int))).toNat):=fun nq e2=>b__.out B l1 l2 _ (zO.WW (UT (Below.refl _ _) nq)) (xC.drewN nq) (by rw[e2,HB.out]) (by rw[e2]) (by rw[e2])
     have AG:Hid (∀(j:Nat) y,s.Ws[j]?=some y->j<n/\w7.cell? (vA b (j*5))=some (vI y.zm)):=by
      show ∀(j:Nat) y,s.Ws[j]?=some y->j<n/\w7.cell? (vA b (j*5))=some (vI y.zm)
      intro j y hy;obtain⟨b',dY_,_,_,_,t0,_⟩:=tF_.ref.wk hy;injection dY_ with dY_;injection dY_ with dY_;subst dY_
      exact⟨by rw[<-ar_];exact(Uy.1 hy).1,t0⟩
     clear b__ tF_ xC zO BV Gq sG_ yR;have HL:Hid (V2 (q1,q2) (l1,l2)=decide (q1*l2<l1*q2)/\V2 (l1,l2) (q1,q2)=decide (l1*q2<q1*l2)):=⟨rfl,rfl⟩;generalize decide (q1*l2<l1*q2)=t1 at HL ⊢;generalize decide (l1*q2<q1*l2)=t2 at HL ⊢
     cases fk_:pk with
     |none =>
      have aj_:B = -1:=by rw[HB.out,fk_];rfl
      have lL_:Hid (Vi L s.Ws (hs.take (k+1))=(some i,(q1,q2))):=by
       show _=_
       rw[qx_.out,fk_];rfl
      subst aj_;clear qx_ HB fk_ E5 HL AG jn_
      go_wp2_with fail
      go_quiet (fail)
      go_wp2_with fail
      exact mj_.out _ _ rfl lL_.out
     |some b0 =>
      have aj_:B=(b0:Int):=by rw[HB.out,fk_];rfl
      obtain⟨y,hy⟩:=E5.out b0 fk_;obtain⟨qX_,t0⟩:=AG.out b0 y hy;have lL_:Hid (Vi L s.Ws (hs.take (k+1))=if (t1||(!t2&&decide (x.zm<y.zm))) then(some i,(q1,q2)) else(pk,(l1,l2))):=by
       show _=_
       rw[qx_.out,fk_];simp only[HL.out.1,HL.out.2,jl hy]
      subst aj_;clear qx_ HB fk_ E5 HL AG hy;have tM:(b0:Int)<n:=by omega
      have re:(0:Int)<=b0:=by omega
      have tO:decide ((b0:Int)<0)=false:=decide_eq_false (by omega)
      cases t1
      ·cases t2
       ·by_cases hxy:x.zm<y.zm
        ·have xA:Hid (Vi L s.Ws (hs.take (k+1))=(some i,(q1,q2))):=by
          show _=_
          rw[lL_.out];simp[hxy]
         have J1:decide (x.zm<y.zm)=true:=decide_eq_true hxy;clear lL_ jn_ hxy
         go_wp2_with fail
         go_quiet (fail)
         go_wp2_with fail
         exact mj_.out _ _ rfl xA.out
        ·have xA:Hid (Vi L s.Ws (hs.take (k+1))=(pk,(l1,l2))):=by
          show _=_
          rw[lL_.out];simp[hxy]
         have J1:decide (x.zm<y.zm)=false:=decide_eq_false hxy;clear lL_ mj_ hxy
         go_wp2_with fail
         go_quiet (fail)
         go_wp2_with fail
         exact jn_.out _ xA.out
       ·have xA:Hid (Vi L s.Ws (hs.take (k+1))=(pk,(l1,l2))):=by
         show _=_
         rw[lL_.out];simp
        clear lL_ mj_
        go_wp2_with fail
        go_quiet (fail)
        go_wp2_with fail
        exact jn_.out _ xA.out
      ·have xA:Hid (Vi L s.Ws (hs.take (k+1))=(some i,(q1,q2))):=by
        show _=_
        rw[lL_.out];simp
       clear lL_ jn_
       go_wp2_with fail
       go_quiet (fail)
       go_wp2_with fail
       exact mj_.out _ _ rfl xA.out
   ·have BJ:Hid ((Vi L s.Ws (hs.take k)).1=YH L s.Ws):=by
     show _=_
     rw[Vl (by rw[<-HM.out];omega),BG.out];rfl
    rw[BJ.out];have I0:k=m:=by omega
    clear cr_ qN_ K_ oK_ BJ BG HM AV ic de
    cases pU_:YH L s.Ws with
    |none =>
     have fQ_:=hR_.done (show VL L s=none from by unfold VL;rw[pU_]);have HD:Hid (s=UH L s0):=fQ_;clear fQ_ pU_;have aj_:xp none=(-1:Int):=rfl;rw[aj_]
     go_wp2_with fail
     go_ret
     rw[<-HD.out]
     exact⟨_,_,_,rfl,tG_⟩
    |some b0 =>
     obtain⟨x,hx,Fy,uL⟩:=aL pU_;have mS_:VL L s=some (Xj b0 x s):=by unfold VL;rw[pU_];simp only;rw[hx]
     have qX_:b0<n:=by rw[<-ar_];exact(Uy.1 hx).1
     have tO:¬((b0:Int)<0):=by omega
     have aj_:xp (some b0)=(b0:Int):=rfl;rw[aj_];have Av:0<=s.st/\s.st<=1000000000:=⟨hR_.inv.st0,by have:=hR_.st;omega⟩;have Oi:=hR_.ev;have eC_:=hO tG_.ref EW hx Av;have cu_:∀W:World,W.ownsRow 0 60 2 u3 s.zt.length (UZ s.zt)->∃v' w',(∀ty,(Builtin.append_ #[48,48] ty #[u3,vS (W.heap.size+1) 1 1]).run prog ((W.alloc (.cells #[vI 1,vI x.zm] 60)).alloc (.cells #[vI 1,vI x.zm] 60))=.ok v' w')/\∃g cap,v'=vS g (s.zt.length+1) cap/\xq ((W.alloc (.cells #[vI 1,vI x.zm] 60)).alloc (.cells #[vI 1,vI x.zm] 60)) u3.ownBlock 60 2 (s.zt.length+1) (UZ s.zt++UZ [(1,x.zm)]) g cap w' :=
      fun W an_=>Wv un48 Zi (by omega) _ u3 s.zt.length (UZ s.zt) ((an_.alloc _).alloc _) (W.heap.size+1) 1 1 (by omega) (UZ [(1,x.zm)]) rfl (zg.new' (by simp)) (eC _ _) (by unfold maxLen;omega) (by omega)
     have hN_:=hR_.next mS_;have JY:Hid (XZ L s0 (Xj b0 x s)/\VO (Xj b0 x s).Ws<VO s.Ws):=hN_;clear pU_ Fy uL mS_ hN_ hR_
     go_wp2_with fail
     refine eC_.mono ?_
     rintro e w7 ⟨rfl,hA_⟩
     have tF_:=tG_.admit bU_ (by rw[List.length_set]) hA_;have yG:=cu_ w7 tF_.row;have Hb:=tF_.below (((Below.refl _ _).alloc (Nat.le_refl _) _).alloc (by simp) _:Bw w7 ((w7.alloc (.cells #[vI 1,vI x.zm] 60)).alloc (.cells #[vI 1,vI x.zm] 60)));clear cu_ eC_ hA_ tF_ tG_
     go_wp2_with (at_builtin;refine Vk (by rfl) _ _ _ _ rfl _ _ rfl (by rfl) yG ?_;rintro v1 w8 ⟨g8_,q8_,rfl,R8⟩)
     have NI:=Hb.tell bU_ ck_ R8
     go_roundg (VO (Xj b0 x s).Ws)
     case measure=>have:=JY.out.2;omega
     case rel=>exact⟨Xj b0 x s,_,_,Nat.le_refl _,JY.out.1,NI⟩
structure V_ (w:World) (br g:Nat) (o:Option Nat) (L:List zx) (zo:Int) (s:SS) (sl:Value) (w':World):Prop where
 ex:∃g' cap ao cW,zy w' br g' cap L ao cW s.Ws zo s.st/\(g'=g\/w.heap.size<=g')/\(∀b,(Value.slice ao s.Ws.length cW).ownBlock=some b->(b<w.heap.size->o=some b)/\sl.ownBlock≠some b)
 zf:zd (fun b=>b=br\/b=g\/o=some b) w w'
 row:w'.ownsRow 0 60 2 sl s.zt.length (UZ s.zt)
 new:∀b,sl.ownBlock=some b->w.heap.size<=b
theorem V_.Zf{g:Nat}{L:List zx}{a:Option Addr}{sl:Value}(f:zd (fun b=>b=br\/b=g\/o=some b) w l)(d:VD l br g3 cap L o3 zo n W a c s.Ws s.st sl s.zt)(h:∀b,o3=some b->b<w.heap.size->o=some b)(j:g3=g\/w.heap.size<=g3):V_ w br g o L zo s sl W:=by
 have k:=f.size
 refine⟨⟨g3,cap,a,c,d.ref,j,fun b hb=>⟨fun i=>h b (d.old b hb o_) i,fun e=>d.sep b e hb⟩⟩,f.step d.zf (fun b hb e=>?_),d.row,fun b hb=>Nat.le_trans k (d.new b hb)⟩
 rcases e with e|e
 ·exact .inl e
 ·exact .inr (.inr (h b e hb))
theorem xm.sub(h:xm Ws)(a:Ws'.Sublist Ws):xm Ws' :=
 ⟨fun x b=>h.ok x (a.subset b),fun x b=>h.zm x (a.subset b),Nat.le_trans a.length_le h.len⟩
theorem vr.sub(h:vr Ws st)(a:Ws'.Sublist Ws):vr Ws' st :=
 ⟨h.yh.sub a,h.nums.sublist (a.map _),fun x b=>h.st x (a.subset b),h.sts.sublist ((a.filter _).map _)⟩
theorem u6.sub(h:u6 Ws)(a:Ws'.Sublist Ws):u6 Ws':=fun x b y c e=>h x (a.subset b) y (a.subset c) e
theorem aT(Ws:List Wk)(i:Nat):(Ws.take i++Ws.drop (i+1)).Sublist Ws:=by
 conv=>rhs;rw[<-List.take_append_drop i Ws]
 exact List.Sublist.append (List.Sublist.refl _) (List.drop_sublist_drop_left Ws (Nat.le_succ i))
def FinG (br g:Nat)(o:Option Nat)(L:List zx)(Ws:List Wk)(zo st m:Int)(w:World)(e:Ending)(w':World):Prop :=
 ((∀x∈Ws,x.zm≠m)/\e=vT #[v0_,vI 12]/\w'=w) \/
 (∃(i:Nat) (x:Wk) (sl:Value),Ws[i]?=some x/\x.zm=m/\e=vT #[sl,vI 0]/\V_ w br g o L zo (UH L ⟨Ws.take i++Ws.drop (i+1),st,[]⟩) sl w')
theorem pB{g:Nat}{L:List zx}(h:zy w br g cap L ao cW Ws zo st)(E:ym L)(la:wb L)(I:ye ⟨Ws,st,[]⟩)(Ia:st<=900000000)(m:Int):
  Calls prog 71 #[vP br,vI m] w (FinG br g (Value.slice ao Ws.length cW).ownBlock L Ws zo st m w):=by
 have pa:=dm h I.yh.yh m;have da:=h.Wf;have gb:g<w.heap.size:=(h.ref.row.lt g rfl).2;have Ca:=I.yh.yh.len
 simp only at Ca
 go_enter func71,ntmps71
 go_wp2_with fail
 refine pa.mono ?_
 rintro e d ⟨Qa,Ja⟩
 subst Ja;clear pa
 rcases Qa with ⟨i,x,rfl,N,Aa⟩|⟨Ha,rfl⟩
 ·obtain⟨b,ra,Ma,Pa,mb,Va,Wa,Xa,Ya,Za⟩:=h.wk N;have Na:=(Uy.1 N).1;have db:=h.ne1 b (by rw[ra];rfl);have C:=h.ref.zl;have c1:=C.cell 1;have ib:=C.frozen 1;simp only[s7]at c1;obtain⟨n,ja⟩:∃n,n=Ws.length:=⟨_,rfl⟩;have ca:=h.yc;rw[<-ja]at c1 Na Pa Ca ca;have nb:(i:Int)<n:=o_;have qb:(0:Int)<=i:=o_;have pb:¬((i:Int)<0):=o_;subst ra;have U:Hid (n=Ws.length):=ja;have Z:∀(W:World),Bw d W->∀j u,(UG Ws)[j]?=some u->W.cell? (vA b j)=some u:=fun W Sa j u s=>by
   have:=ca.cells (g:=b) rfl j u s
   rw[Addr.add_lit,Nat.zero_add]at this
   exact(Sa.cell (p:=vA b j) Ma).trans this
  have ka:=XN un70 Zj o_ d none 0 0 (Nat.le_refl _) (Nat.zero_le _) [] (Vx _ _ _ _) (some (vA b 0)) i cW (UG (Ws.take i)) (by rw[aK,List.length_take];rw[Nat.min_eq_left o_])
   (fun _=>⟨_,rfl,fun j u s=>by
    rw[Addr.add_lit,Nat.zero_add]
    refine Z d (Below.refl _ _) j u ?_
    rw[iR]at s;rw[List.getElem?_take]at s
    split at s
    ·exact s
    ·cases s⟩) (Y7 _) (by unfold maxLen;omega) o_
  simp only[Nat.zero_add,List.nil_append]at ka;have K:∀a1 o f,vn d v0_.ownBlock 178 5 i (UG (Ws.take i)) a1 o f->Bw d f:=fun a1 o f R=>⟨R.zf.os,R.zf.tape,R.zf.output,R.zf.size,fun k H=>R.zf.block k H (by simp[Value.ownBlock])⟩
  have Fa:∀a1 o f,vn d v0_.ownBlock 178 5 i (UG (Ws.take i)) a1 o f->∀(Q:Option Addr) (c2:Nat),(0<n-(i+1)->Q=some (vA b ((i+1)*5))) ->
    ∃Ga w',(∀ab,(Builtin.append_ #[165,165] ab #[.slice a1 i o,.slice Q (n-(i+1)) c2]).run prog f=.ok Ga w')/\∃na cap',Ga=.slice na (i+(n-(i+1))) cap'/\vn f (Value.slice a1 i o).ownBlock 178 5 (i+(n-(i+1))) (UG (Ws.take i)++UG (Ws.drop (i+1))) na cap' w' :=
   fun a1 o f R Q c2 Ua=>XN un70 Zj o_ f a1 i o R.le R.mx _ R.own Q (n-(i+1)) c2 (UG (Ws.drop (i+1))) (by rw[aK,List.length_drop,<- U.out])
    (fun Ta=>⟨_,Ua Ta,fun j u s=>by
     rw[iQ,List.getElem?_drop]at s;rw[Addr.add_lit]
     exact Z f (K _ _ _ R) _ u s⟩) (Y7 _) (by unfold maxLen;omega) o_
  have oa:∀a1 o f a2 q2 l,vn d v0_.ownBlock 178 5 i (UG (Ws.take i)) a1 o f->vn f (Value.slice a1 i o).ownBlock 178 5 (i+(n-(i+1))) (UG (Ws.take i)++UG (Ws.drop (i+1))) a2 q2 l ->
    zy (l.setCell (vA br 1) (.slice a2 (i+(n-(i+1))) q2)) br g cap L a2 q2 (Ws.take i++Ws.drop (i+1)) zo st/\zd (fun y=>y=br) d (l.setCell (vA br 1) (.slice a2 (i+(n-(i+1))) q2))/\(∀y,(Value.slice a2 (i+(n-(i+1))) q2).ownBlock=some y->d.heap.size<=y)/\Bw d l:=fun a1 o f a2 q2 l t q=>by
   have A:=K _ _ _ t;have Ea:∀y,(Value.slice a1 i o).ownBlock=some y->d.heap.size<=y:=fun y r=>by
    rcases t.new y r with e|e
    ·simp[Value.ownBlock]at e
    ·exact e
   have ba:Bw d l:=A.trans ⟨q.zf.os,q.zf.tape,q.zf.output,q.zf.size,fun k H=>q.zf.block k (h_ A.size) (fun e=>by have:=Ea k e;omega)⟩;have ha:∀y,(Value.slice a2 (i+(n-(i+1))) q2).ownBlock=some y->d.heap.size<=y:=fun y r=>by
    rcases q.new y r with e|e
    ·exact Ea y e
    ·have:=A.size;omega
   have aa:(Ws.take i++Ws.drop (i+1)).length=i+(n-(i+1)):=by
    have:=U.out
    simp;omega
   have H:zd (fun y=>y=br) d (l.setCell (vA br 1) (.slice a2 (i+(n-(i+1))) q2)):=(zd.new (T:=fun y=>y=br) ba).setCell (p:=vA br 1) rfl _
   refine⟨⟨⟨?_,?_⟩,?_,?_⟩,H,ha,ba⟩
   ·have Ra:=(C.below ba da).set 1 (.slice a2 (i+(n-(i+1))) q2);rw[aa]
    simpa using Ra
   ·exact s8 h.ref.row H (fun y r e=>by simp[Value.ownBlock]at r;subst r;exact h.ref.ne e.symm)
   ·rw[aa,show UG (Ws.take i++Ws.drop (i+1))=UG (Ws.take i)++UG (Ws.drop (i+1)) by simp[UG]]
    exact UQ q.own (fun e=>by have:=ha _ e;simp at this;omega) _
   ·intro y r;rw[aa]at r
    have:=ha y r
    exact⟨o_,o_⟩
  have X:=aT Ws i;have ma:ye ⟨Ws.take i++Ws.drop (i+1),st,[]⟩:=⟨I.yh.sub X,I.st0,I.wy.sub X⟩;have qa:=fun W a c (F:zy W br g cap L a c (Ws.take i++Ws.drop (i+1)) zo st)=>bu F E la ma Ia
  have Da:(Ws.take i++Ws.drop (i+1)).length=i+(n-(i+1)):=by
   have:=U.out
   simp;omega
  have S:Hid (∀(W W':World) (a ea:_) (sl:Value),zd (fun y=>y=br) d W->(∀y,(Value.slice a (i+(n-(i+1))) ea).ownBlock=some y->d.heap.size<=y)->(∃sa Ba,VD W br g cap L (Value.slice a (Ws.take i++Ws.drop (i+1)).length ea).ownBlock zo (Ws.take i++Ws.drop (i+1)).length W' sa Ba (UH L ⟨Ws.take i++Ws.drop (i+1),st,[]⟩).Ws (UH L ⟨Ws.take i++Ws.drop (i+1),st,[]⟩).st sl (UH L ⟨Ws.take i++Ws.drop (i+1),st,[]⟩).zt)->FinG br g (vS b Ws.length cW).ownBlock L Ws zo st m d (vT #[sl,vI 0]) W'):=by
   intro W W' a ea sl G B ⟨sa,Ba,ua⟩;rw[Da]at ua
   refine .inr ⟨i,x,sl,N,Aa,rfl,V_.Zf (G.mono (fun y e=>.inl e)) ua (fun y r eb=>?_) (.inl rfl)⟩
   have:=B y r;omega
  have J:∀l:World,Bw d l->l.cell? (vA br 1)=some (vS b n cW)/\l.frozen? (vA br 1)=false:=fun l ta=>⟨(ta.cell (p:=vA br 1) da).trans c1,(C.below ta da).frozen 1⟩
  clear Z C h I ma N Aa ca Va Wa Xa Ya Za ja X Da la E
  go_upto_region 6 with (at_builtin;refine Vk r_ _ _ _ _ rfl _ _ rfl r_ ka ?_;rintro rb f ⟨a1,o,rfl,t⟩)
  have A:=K _ _ _ t;have c2:=(J _ A).1;have M:=Fa _ _ _ t;have P:=fun a2 q2 l=>oa _ _ _ a2 q2 l t
  have jb:=t.le;have kb:=t.mx;clear ka Fa K oa
  by_cases La:i+1=cW
  ·have D:=M (some (vA b 0)) 0 (fun h=>by omega);have O:n-(i+1)=0:=o_;subst La;rw[O]at D;rw[O]at P;rw[Nat.add_zero]at D P;rw[O,Nat.add_zero]at S;clear M O
   go_wp2_with (at_builtin;refine Vk r_ _ _ _ _ rfl _ _ rfl r_ D ?_;rintro bb l ⟨a2,q2,rfl,q⟩;obtain⟨F,G,B,z⟩:=P _ _ _ q;have Oa:=(J _ z).2;have Ka:=(J _ z).1)
   refine(qa _ _ _ F).mono ?_
   rintro e cb ⟨sl,V,ga,rfl,ia⟩
   have Y:=S.out _ _ _ _ _ G B ⟨V,ga,ia⟩
   go_wp2_with fail
   exact Us (v:=.tuple #[sl,vI 0]) (by simp[results,results71,go_sem]) rfl Y
  ·have ob:¬((i:Int)+1=cW):=o_;have D:=M (some (vA b ((i+1)*5))) (cW-(i+1)) (fun _=>rfl);clear M
   go_wp2_with (at_builtin;refine Vk r_ _ _ _ _ rfl _ _ rfl r_ D ?_;rintro bb l ⟨a2,q2,rfl,q⟩;obtain⟨F,G,B,z⟩:=P _ _ _ q;have Oa:=(J _ z).2;have Ka:=(J _ z).1)
   refine(qa _ _ _ F).mono ?_
   rintro e cb ⟨sl,V,ga,rfl,ia⟩
   have Y:=S.out _ _ _ _ _ G B ⟨V,ga,ia⟩
   go_wp2_with fail
   exact Us (v:=.tuple #[sl,vI 0]) (by simp[results,results71,go_sem]) rfl Y
 ·go_wp2_with fail
  exact Us (v:=.tuple #[v0_,vI 12]) (by simp[results,results71,go_sem]) rfl (.inl ⟨Ha,rfl,rfl⟩)
end
end Go.Proofs.YtphclnolomgjoaaGreatDoor
