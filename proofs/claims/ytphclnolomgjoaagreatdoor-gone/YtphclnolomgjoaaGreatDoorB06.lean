import Derived.Test.YtphclnolomgjoaaGreatDoorB05
import GoSem.Op.String
set_option linter.unusedVariables false
set_option linter.unusedSimpArgs false
set_option maxRecDepth 100000
set_option maxHeartbeats 4000000
namespace Go.Proofs.YtphclnolomgjoaaGreatDoor
open Tryz
section
open Go.RowKit
variable {Ws:List Wk}{b i:Nat}{x y:Wk}{L:List Ent}{st:Int}
theorem qt7(h:Ws[b]?=some x):stAt Ws b=x.st:=by simp[stAt,h]
theorem qdh(L:List Ent)(Ws:List Wk)(x:Wk):∀n k u,k<n->Ws[k]?=some u->u.st≠0->way L Ws x u=true->∃b w,qdd L Ws x n=some b/\Ws[b]?=some w/\u.st<=w.st
 |0,k,u,hk,_,_,_=>by omega
 |n+1,k,u,hk,hu,h0,hw=>by
  rw[qha];unfold qwn
  cases hv:Ws[n]? with
  |none =>
   have:k≠n:=fun e=>by subst e;rw[hv]at hu;cases hu
   exact qdh L Ws x n k u (by omega) hu h0 hw
  |some v =>
   simp only
   by_cases e:k=n
   ·subst e;rw[hv]at hu;cases hu
    cases hs:qrf Ws (qdd L Ws x k) u with
    |false =>
     simp only[Bool.false_eq_true,if_false,hw,if_true]
     exact⟨k,u,rfl,hv,Int.le_refl _⟩
    |true =>
     simp only[if_true];unfold qrf at hs;rw[show(u.st == 0)=false by simp[h0],Bool.false_or]at hs
     cases hb:qdd L Ws x k with
     |none=>rw[hb]at hs;cases hs
     |some b =>
      rw[hb]at hs;simp only[decide_eq_true_eq]at hs;obtain⟨w,eG,_⟩:=qbh L Ws x k b hb;rw[qt7 eG]at hs
      exact⟨b,w,rfl,eG,by omega⟩
   ·obtain⟨b,w,hb,bZ,dn⟩:=qdh L Ws x n k u (by omega) hu h0 hw
    cases hs:qrf Ws (qdd L Ws x n) v with
    |true=>simp only[if_true];exact⟨b,w,hb,bZ,dn⟩
    |false =>
     simp only[Bool.false_eq_true,if_false]
     cases zF:way L Ws x v with
     |false=>simp only[Bool.false_eq_true,if_false];exact⟨b,w,hb,bZ,dn⟩
     |true =>
      simp only[if_true]
      refine⟨n,v,rfl,hv,?_⟩
      unfold qrf at hs;rw[hb]at hs;simp only[Bool.or_eq_false_iff,decide_eq_false_iff_not]at hs
      have:=hs.2
      rw[qt7 bZ]at this
      omega
theorem qr0(hn:((Ws.filter fun x=>decide (0<x.st)).map (·.st)).Nodup)(hx:x∈Ws)(hy:y∈Ws)(jY:0<x.st)(CB:0<y.st)(e:x.st=y.st):x=y:=by
 have n9:x∈Ws.filter fun x=>decide (0<x.st):=xrr.2 ⟨hx,by simpa using jY⟩
 have nB:y∈Ws.filter fun x=>decide (0<x.st):=xrr.2 ⟨hy,by simpa using CB⟩
 obtain⟨i,hi⟩:=xre n9;obtain⟨j,hj⟩:=xre nB
 have:=qfy hn hi hj e
 subst this;rw[hi]at hj;cases hj;rfl
theorem qru(hS:WkS Ws st)(x:Wk){v:Wk}(hv:v∈Ws)(h0:0<v.st)(hw:way L Ws x v=true)(eX:∀u∈Ws,0<u.st->way L Ws x u=true->u.st<=v.st):∃i,qda L Ws x=some i/\Ws[i]?=some v:=by
 obtain⟨k,hk⟩:=xre hv;obtain⟨b,w,hb,bZ,dn⟩:=qdh L Ws x Ws.length k v (xr0.1 hk).1 hk (by omega) hw;obtain⟨w',zE,E6,zF⟩:=qbh L Ws x _ b hb;rw[bZ]at zE;cases zE;have xx:=xr2 bZ;have E7:=(hS.st w xx).1
 have:=eX w xx (by omega) zF
 have:=qr0 hS.sts hv xx h0 (by omega) (by omega)
 subst this
 exact⟨b,hb,bZ⟩
theorem qkw(h:∀u∈Ws,u.st≠0->way L Ws x u=false):qda L Ws x=none:=by
 cases hv:qda L Ws x with
 |none=>rfl
 |some i =>
  obtain⟨v,hv,h0,hw⟩:=qbh L Ws x _ i hv;rw[h v (xr2 hv) h0]at hw;cases hw
theorem qu9(h:qbv L Ws x=true)(v:Wk):way L Ws x v=false:=by
 unfold qbv at h;rw[List.all_eq_true]at h;unfold way;rw[List.any_eq_false];intro e he
 have:=h e he
 unfold tight at this;unfold way0 way1
 cases h1:inB (qaa x.key) (qaa e.key)
 ·simp
 ·rw[h1]at this;simp only[Bool.true_and,Bool.not_eq_true',Bool.or_eq_false_iff]at this;rw[this.1,this.2]
  simp
theorem qix(h:qbv L Ws x=true):qda L Ws x=none:=qkw fun u _ _=>qu9 h u
theorem qg5{s:MS}:qa3 L x s=none↔qda L s.Ws x=none:=by
 constructor
 ·intro h
  cases hv:qda L s.Ws x with
  |none=>rfl
  |some i =>
   unfold qa3 at h
   split at h
   ·rename_i hf;rw[qix hf]at hv;cases hv
   ·rw[hv]at h;obtain⟨v,et,_⟩:=qbh L s.Ws x _ i hv
    simp only at h
    rw[et]at h
    cases h
 ·intro h;unfold qa3
  split
  ·rfl
  ·rw[h]
theorem qji{s:MS}{v:Wk}(h:qda L s.Ws x=some i)(hv:s.Ws[i]?=some v):qa3 L x s=some ⟨v.adm 0::(s.Ws.take i++s.Ws.drop (i+1)),s.evs++[(2,v.num)]⟩:=by
 unfold qa3
 split
 ·rename_i hf;rw[qix hf]at h;cases h
 ·rw[h]
  simp only
  rw[hv]
end
section
theorem qk3(a:List UInt8):Op.bytesLess a []=false:=by cases a<;>rfl
theorem qu0(a b:UInt8)(x y:List UInt8):Op.bytesLess (a::x) (b::y)=(decide (a<b)||(a == b&&Op.bytesLess x y)):=rfl
theorem qgn(a b:UInt8)(x y:List UInt8):Op.bytesLess (a::x) (b::y)=true↔(a.toNat<b.toNat\/(a.toNat=b.toNat/\Op.bytesLess x y=true)):=by
 rw[qu0];simp only[Bool.or_eq_true,Bool.and_eq_true,decide_eq_true_eq,beq_iff_eq,UInt8.lt_iff_toNat_lt,<- UInt8.toNat_inj]
theorem qa4(a b:UInt8)(x y:List UInt8):Op.bytesLess (a::x) (b::y)=false↔(b.toNat<a.toNat\/(a.toNat=b.toNat/\Op.bytesLess x y=false)):=by
 have h:=qgn a b x y
 constructor
 ·intro hf;rw[hf]at h;simp only[Bool.false_eq_true,false_iff,not_or,not_and,Bool.not_eq_true]at h
  rcases Nat.lt_trichotomy a.toNat b.toNat with h1|h1|h1
  ·exact absurd h1 h.1
  ·exact .inr ⟨h1,h.2 h1⟩
  ·exact .inl h1
 ·intro hh
  cases hb:Op.bytesLess (a::x) (b::y)
  ·rfl
  ·rcases h.1 hb with h1|⟨h1,h2⟩
   ·rcases hh with h3|⟨h3,_⟩<;>omega
   ·rcases hh with h3|⟨_,h4⟩
    ·omega
    ·rw[h2]at h4;cases h4
theorem qgm:∀(a b:List UInt8),Op.bytesLess a b=true->Op.bytesLess b a=false
 | [],[],h=>by cases h
 |a::x,[],h=>by cases h
 | [],b::y,h=>rfl
 |a::x,b::y,h=>by
  rcases(qgn ..).1 h with h1|⟨h1,h2⟩
  ·exact(qa4 ..).2 (.inl h1)
  ·exact(qa4 ..).2 (.inr ⟨h1.symm,qgm x y h2⟩)
theorem qfw:∀(a b c:List UInt8),Op.bytesLess a b=false->Op.bytesLess b c=false->Op.bytesLess a c=false
 |a,b,[],_,_=>qk3 a
 |a,[],c::z,_,h=>by cases h
 | [],b::y,c::z,h,_=>by cases h
 |a::x,b::y,c::z,h1,h2=>by
  rcases(qa4 ..).1 h1 with h3|⟨h3,h4⟩<;>rcases(qa4 ..).1 h2 with h5|⟨h5,h6⟩
  ·exact(qa4 ..).2 (.inl (by omega))
  ·exact(qa4 ..).2 (.inl (by omega))
  ·exact(qa4 ..).2 (.inl (by omega))
  ·exact(qa4 ..).2 (.inr ⟨by omega,qfw x y z h4 h6⟩)
theorem ql7:∀(a b:List UInt8),Op.bytesLess a b=false->Op.bytesLess b a=false->a=b
 | [],[],_,_=>rfl
 | [],b::y,h,_=>by cases h
 |a::x,[],_,h=>by cases h
 |a::x,b::y,h1,h2=>by
  rcases(qa4 ..).1 h1 with h3|⟨h3,h4⟩<;>rcases(qa4 ..).1 h2 with h5|⟨h5,h6⟩
  ·omega
  ·omega
  ·omega
  ·rw[UInt8.toNat_inj.1 h3,ql7 x y h4 h6]
theorem qcu(a:List UInt8):Op.bytesLess a a=false:=by
 cases h:Op.bytesLess a a
 ·rfl
 ·have:=qgm a a h;rw[h]at this;exact this
end
section
open Go.RowKit
variable {Ws fg:List Wk}{b:Nat}{x y:Wk}{L:List Ent}{al d st u:Int}
theorem qjd(h:Ws[b]?=some x):qeu Ws b=qaa x.key:=by simp[qeu,h]
theorem qvy(h:Ws[b]?=some x):qxx Ws b=x.num:=by simp[qxx,h]
theorem qm1(L:List Ent)(Ws:List Wk)(a:Option Nat)(i:Nat):
  (∀b0,a=some b0->∃b,qc3 L Ws a i=some b/\Op.bytesLess (qeu Ws b0) (qeu Ws b)=false)/\(∀x,Ws[i]?=some x->ownW L Ws x=true->∃b,qc3 L Ws a i=some b/\Op.bytesLess (qeu Ws i) (qeu Ws b)=false):=by
 unfold qc3
 cases hx:Ws[i]? with
 |none=>exact⟨fun b0 h=>⟨b0,h,qcu _⟩,fun x h=>by cases h⟩
 |some x =>
  have hp:=qjd hx
  simp only
  cases ho:ownW L Ws x with
  |false =>
   simp only[Bool.false_and,Bool.false_eq_true,if_false]
   exact⟨fun b0 h=>⟨b0,h,qcu _⟩,fun y h h2=>by cases h;rw[ho]at h2;cases h2⟩
  |true =>
   simp only[Bool.true_and]
   cases a with
   |none =>
    simp only[if_true]
    exact⟨fun b0 h=>(by cases h),fun y h h2=>⟨i,rfl,qcu _⟩⟩
   |some b0 =>
    simp only
    by_cases hl:Op.bytesLess (qaa x.key) (qeu Ws b0)=true
    ·simp only[hl,if_true]
     exact⟨fun b1 h=>⟨i,rfl,by cases h;rw[hp];exact qgm _ _ hl⟩,fun y h h2=>⟨i,rfl,qcu _⟩⟩
    ·simp only[hl,if_false]
     exact⟨fun b1 h=>⟨b1,h,qcu _⟩,fun y h h2=>⟨b0,rfl,by rw[hp];simpa using hl⟩⟩
theorem qei(L:List Ent)(Ws:List Wk):∀(l:List Nat) (a:Option Nat),
  (∀b0,a=some b0->∃b,l.foldl (qc3 L Ws) a=some b/\Op.bytesLess (qeu Ws b0) (qeu Ws b)=false)/\(∀i∈l,∀x,Ws[i]?=some x->ownW L Ws x=true->∃b,l.foldl (qc3 L Ws) a=some b/\Op.bytesLess (qeu Ws i) (qeu Ws b)=false)
 | [],a=>⟨fun b0 h=>⟨b0,h,qcu _⟩,fun i hi=>by cases hi⟩
 |i::l,a=>by
  obtain⟨s1,s2⟩:=qm1 L Ws a i;obtain⟨g1,g2⟩:=qei L Ws l (qc3 L Ws a i);simp only[List.foldl_cons]
  refine⟨fun b0 h=>?_,fun j hj x hx ho=>?_⟩
  ·obtain⟨b1,aa,dH⟩:=s1 b0 h;obtain⟨b2,ag,dR⟩:=g1 b1 aa
   exact⟨b2,ag,qfw _ _ _ dH dR⟩
  ·rcases List.mem_cons.1 hj with rfl|hj
   ·obtain⟨b1,aa,dH⟩:=s2 x hx ho;obtain⟨b2,ag,dR⟩:=g1 b1 aa
    exact⟨b2,ag,qfw _ _ _ dH dR⟩
   ·exact g2 j hj x hx ho
theorem qgs(hS:∀x∈Ws,0<=x.st)(h:qaz Ws x.key=some x):∃i,Ws[i]?=some x/\i∈qf4 Ws:=by
 unfold qaz at h;obtain⟨hp,l1,l2,he,ay⟩:=List.find?_eq_some_iff_append.1 h;simp only[Bool.and_eq_true,beq_iff_eq,decide_eq_true_eq]at hp;have hi:Ws[l1.length]?=some x:=by rw[he];simp
 refine⟨l1.length,hi,?_⟩
 unfold qf4 qnx;rw[xrr,List.mem_range]
 refine⟨(xr0.1 hi).1,?_⟩
 unfold qmj;rw[hi]
 show qer Ws l1.length x=true
 unfold qer;rw[he,List.take_left']
 ·simp only[Bool.and_eq_true,beq_iff_eq,List.all_eq_true,Bool.or_eq_true,decide_eq_true_eq]
  refine⟨hp.1,fun y hy=>?_⟩
  have h1:=ay y hy;have h2:=hS y (by rw[he];simp[hy]);simp only[Bool.not_eq_true',Bool.and_eq_false_iff,beq_eq_false_iff_ne,decide_eq_false_iff_not]at h1
  rcases h1 with h1|h1
  ·left;omega
  ·right;exact h1
 ·rfl
theorem qpd(hx:qaz Ws x.key=some x)(hy:qaz Ws y.key=some y)(e:x.key=y.key):x=y:=by
 rw[e,hy]at hx;cases hx;rfl
theorem qv3(hW:Wks Ws)(hS:∀x∈Ws,0<=x.st)(hh:qaz Ws x.key=some x)(ho:ownW L Ws x=true)(cP:∀y,qaz Ws y.key=some y->ownW L Ws y=true->Op.bytesLess (qaa y.key) (qaa x.key)=false):∃b,qlr L Ws=some b/\Ws[b]?=some x:=by
 obtain⟨i,hi,hm⟩:=qgs hS hh;obtain⟨b,hb,hn⟩:=(qei L Ws (qf4 Ws) none).2 i hm x hi ho;obtain⟨y,hy,pA,nC⟩:=qhj hb;have mv:=qch hS hy pA;have h1:=cP y mv nC;rw[qjd hi,qjd hy]at hn;have h2:=qgv (hW.ok y (qaj mv).1).1 (hW.ok x (qaj hh).1).1 (ql7 _ _ h1 hn)
 have:=qpd mv hh h2
 subst this
 exact⟨b,hb,hy⟩
theorem qv4(hS:∀x∈Ws,0<=x.st)(h:∀y,qaz Ws y.key=some y->ownW L Ws y=false):qlr L Ws=none:=by
 cases hp:qlr L Ws with
 |none=>rfl
 |some b =>
  obtain⟨y,hy,pA,nC⟩:=qhj hp;rw[h y (qch hS hy pA)]at nC;cases nC
theorem qra(hS:∀x∈Ws,0<=x.st)(h:qlr L Ws=none)(hy:qaz Ws y.key=some y):ownW L Ws y=false:=by
 cases ho:ownW L Ws y with
 |false=>rfl
 |true =>
  obtain⟨i,hi,hm⟩:=qgs hS hy;obtain⟨b,hb,hn⟩:=(qei L Ws (qf4 Ws) none).2 i hm y hi ho;have h2:qlr L Ws=some b:=hb;rw[h]at h2;cases h2
theorem qn8{a b:Int×Int}(h:qej a b=true):qej b a=false:=by
 unfold qej at *;simp only[decide_eq_true_eq,decide_eq_false_iff_not]at *
 omega
theorem qmy(a:Int×Int):qej a a=false:=by
 unfold qej
 simp
theorem qfj{a b c:Int×Int}(ha:0<a.2)(hb:0<b.2)(hc:0<c.2)(h1:qej a b=false)(h2:qej b c=false):qej a c=false:=by
 unfold qej at *;simp only[decide_eq_false_iff_not,Int.not_lt]at *;have g1:b.1*a.2*c.2<=a.1*b.2*c.2:=Int.mul_le_mul_of_nonneg_right h1 (by omega);have g2:c.1*b.2*a.2<=b.1*c.2*a.2:=Int.mul_le_mul_of_nonneg_right h2 (by omega);have e1:b.1*a.2*c.2=b.1*c.2*a.2:=by ac_rfl
 have e2:c.1*b.2*a.2=c.1*a.2*b.2:=by ac_rfl
 have e3:a.1*b.2*c.2=a.1*c.2*b.2:=by ac_rfl
 rw[e1,e3]at g1;rw[e2]at g2
 exact Int.le_of_mul_le_mul_right (Int.le_trans g2 g1) hb
def icb (L:List Ent)(Ws:List Wk)(x y:Wk):Bool:=qej (qbg L Ws x) (qbg L Ws y)||(!qej (qbg L Ws y) (qbg L Ws x)&&decide (x.num<y.num))
theorem qdq(L:List Ent)(Ws:List Wk)(x:Wk):icb L Ws x x=false:=by
 unfold icb;rw[qmy];simp
theorem qiz:icb L Ws x y=false↔(qej (qbg L Ws x) (qbg L Ws y)=false/\(qej (qbg L Ws y) (qbg L Ws x)=true\/y.num<=x.num)):=by
 unfold icb
 cases qej (qbg L Ws x) (qbg L Ws y)<;>cases qej (qbg L Ws y) (qbg L Ws x)<;>simp
theorem qsy(h:icb L Ws x y=true):icb L Ws y x=false:=by
 rw[qiz];unfold icb at h;rw[Bool.or_eq_true,Bool.and_eq_true]at h
 rcases h with h|⟨h1,h2⟩
 ·exact⟨qn8 h,.inl h⟩
 ·simp at h1 h2
  exact⟨h1,.inr (by omega)⟩
theorem qt4{n:Int}(h4:0<=al):0<(shr u d n al).2:=by
 unfold shr
 split<;>simp<;>omega
theorem qj4{a b:Int×Int}(ha:0<a.2)(hb:0<b.2):0<(better a b).2:=by
 unfold better
 split<;>assumption
theorem qho(E:Ents L)(Ws:List Wk)(x:Wk):0<(qbg L Ws x).2:=by
 have:=qiu E []
 exact qj4 (qj4 (by decide) (qt4 this.1.1)) (qt4 this.2.1)
theorem qkf(E:Ents L){z:Wk}(h1:icb L Ws x y=false)(h2:icb L Ws y z=false):icb L Ws x z=false:=by
 rw[qiz]at *;have px:=qho E Ws x;have py:=qho E Ws y;have pz:=qho E Ws z
 refine⟨qfj px py pz h1.1 h2.1,?_⟩
 cases hzx:qej (qbg L Ws z) (qbg L Ws x) with
 |true=>exact .inl rfl
 |false =>
  right
  have a1:qej (qbg L Ws y) (qbg L Ws x)=false:=qfj py pz px h2.1 hzx;have a2:qej (qbg L Ws z) (qbg L Ws y)=false:=qfj pz px py hzx h1.1
  rcases h1.2 with h3|h3
  ·rw[a1]at h3;cases h3
  ·rcases h2.2 with h4|h4
   ·rw[a2]at h4;cases h4
   ·omega
def qpy (L:List Ent)(Ws:List Wk)(a:Option Nat×(Int×Int)):Prop:=∀b0,a.1=some b0->∃y,Ws[b0]?=some y/\a.2=qbg L Ws y
def INlt (L:List Ent)(Ws:List Wk)(x:Wk)(r:Option Nat×(Int×Int)):Prop:=∃b y,r.1=some b/\Ws[b]?=some y/\icb L Ws x y=false
theorem qle(Ws:List Wk){a:Option Nat×(Int×Int)}(ha:qpy L Ws a)(i:Nat):
  qpy L Ws (qb5 L Ws a i)/\(∀b0 y,a.1=some b0->Ws[b0]?=some y->INlt L Ws y (qb5 L Ws a i))/\(∀x,Ws[i]?=some x->qbv L Ws x=true->INlt L Ws x (qb5 L Ws a i)):=by
 unfold qb5
 cases hx:Ws[i]? with
 |none=>exact⟨ha,fun b0 y h hy=>⟨b0,y,h,hy,qdq ..⟩,fun x h=>by cases h⟩
 |some x =>
  simp only
  cases hf:qbv L Ws x with
  |false =>
   simp only[Bool.false_eq_true,if_false]
   exact⟨ha,fun b0 y h hy=>⟨b0,y,h,hy,qdq ..⟩,fun y h h2=>by cases h;rw[hf]at h2;cases h2⟩
  |true =>
   simp only[if_true];obtain⟨a1,a2⟩:=a
   cases a1 with
   |none =>
    simp only[if_true]
    refine⟨fun b0 h=>?_,fun b0 y h=>(by cases h),fun y h h2=>?_⟩
    ·cases h;exact⟨x,hx,rfl⟩
    ·cases h;exact⟨i,x,rfl,hx,qdq ..⟩
   |some b0 =>
    obtain⟨y,hy,hs⟩:=ha b0 rfl
    simp only at hs
    subst hs;simp only[qvy hy]
    show qpy L Ws (if icb L Ws x y=true then _ else _)/\(∀yf y',some b0=some yf->Ws[yf]?=some y'->INlt L Ws y' (if icb L Ws x y=true then _ else _))/\(∀x',some x=some x'->qbv L Ws x'=true->INlt L Ws x' (if icb L Ws x y=true then _ else _))
    cases hc:icb L Ws x y with
    |true =>
     simp only[if_true]
     refine⟨fun b0 h=>?_,fun b1 z h hz=>?_,fun z h h2=>?_⟩
     ·cases h;exact⟨x,hx,rfl⟩
     ·cases h;rw[hy]at hz;cases hz;exact⟨i,x,rfl,hx,qsy hc⟩
     ·cases h;exact⟨i,x,rfl,hx,qdq ..⟩
    |false =>
     simp only[Bool.false_eq_true,if_false]
     refine⟨ha,fun b1 z h hz=>?_,fun z h h2=>?_⟩
     ·cases h;exact⟨b0,z,rfl,hz,qdq ..⟩
     ·cases h;exact⟨b0,y,rfl,hy,hc⟩
theorem qeh(E:Ents L)(Ws:List Wk):∀(l:List Nat) (a:Option Nat×(Int×Int)),qpy L Ws a ->
  qpy L Ws (l.foldl (qb5 L Ws) a)/\(∀b0 y,a.1=some b0->Ws[b0]?=some y->INlt L Ws y (l.foldl (qb5 L Ws) a))/\(∀i∈l,∀x,Ws[i]?=some x->qbv L Ws x=true->INlt L Ws x (l.foldl (qb5 L Ws) a))
 | [],a,ha=>⟨ha,fun b0 y h hy=>⟨b0,y,h,hy,qdq ..⟩,fun i hi=>by cases hi⟩
 |i::l,a,ha=>by
  obtain⟨s0,s1,s2⟩:=qle Ws ha i;obtain⟨g0,g1,g2⟩:=qeh E Ws l _ s0;simp only[List.foldl_cons]
  refine⟨g0,fun b0 y h hy=>?_,fun j hj x hx ho=>?_⟩
  ·obtain⟨b1,z,aa,hz,dH⟩:=s1 b0 y h hy;obtain⟨b2,u,ag,hu,dR⟩:=g1 b1 z aa hz
   exact⟨b2,u,ag,hu,qkf E dH dR⟩
  ·rcases List.mem_cons.1 hj with rfl|hj
   ·obtain⟨b1,z,aa,hz,dH⟩:=s2 x hx ho;obtain⟨b2,u,ag,hu,dR⟩:=g1 b1 z aa hz
    exact⟨b2,u,ag,hu,qkf E dH dR⟩
   ·exact g2 j hj x hx ho
theorem qwv(L:List Ent)(Ws:List Wk):qpy L Ws (none,(0,0)):=fun b0 h=>by cases h
theorem qw2(hn:(Ws.map (·.num)).Nodup)(hx:x∈Ws)(hy:y∈Ws)(e:x.num=y.num):x=y:=by
 obtain⟨i,hi⟩:=xre hx;obtain⟨j,hj⟩:=xre hy
 have:=qfy hn hi hj e
 subst this;rw[hi]at hj;cases hj;rfl
theorem qny(E:Ents L)(hN:(Ws.map (·.num)).Nodup)(hS:∀x∈Ws,0<=x.st)(hh:qaz Ws x.key=some x)(ho:qbv L Ws x=true)(cP:∀y,qaz Ws y.key=some y->qbv L Ws y=true->icb L Ws y x=false):∃b,qdm L Ws=some b/\Ws[b]?=some x:=by
 obtain⟨i,hi,hm⟩:=qgs hS hh;obtain⟨b,y,hb,hy,hn⟩:=(qeh E Ws (qf4 Ws) _ (qwv L Ws)).2.2 i hm x hi ho;obtain⟨y',nB,pA,nC⟩:=qdn hb;rw[hy]at nB;cases nB;have mv:=qch hS hy pA;have h1:=cP y mv nC;rw[qiz]at h1 hn
 have:x=y:=by
  refine qw2 hN (qaj hh).1 (qaj mv).1 ?_
  rcases h1.2 with h2|h2
  ·rw[hn.1]at h2;cases h2
  ·rcases hn.2 with h3|h3
   ·rw[h1.1]at h3;cases h3
   ·omega
 subst this
 exact⟨b,hb,hy⟩
theorem qnz(hS:∀x∈Ws,0<=x.st)(h:∀y,qaz Ws y.key=some y->qbv L Ws y=false):qdm L Ws=none:=by
 cases hp:qdm L Ws with
 |none=>rfl
 |some b =>
  obtain⟨y,hy,pA,nC⟩:=qdn hp;rw[h y (qch hS hy pA)]at nC;cases nC
theorem qld(E:Ents L)(hS:∀x∈Ws,0<=x.st)(h:qdm L Ws=none)(hy:qaz Ws y.key=some y):qbv L Ws y=false:=by
 cases ho:qbv L Ws y with
 |false=>rfl
 |true =>
  obtain⟨i,hi,hm⟩:=qgs hS hy;obtain⟨b,z,hb,_,hn⟩:=(qeh E Ws (qf4 Ws) _ (qwv L Ws)).2.2 i hm y hi ho;have h2:qdm L Ws=some b:=hb;rw[h]at h2;cases h2
theorem Wks.sub(h:Wks Ws)(hs:fg.Sublist Ws):Wks fg :=
 ⟨fun x hx=>h.ok x (hs.subset hx),fun x hx=>h.num x (hs.subset hx),Nat.le_trans hs.length_le h.len⟩
theorem WkS.sub(h:WkS Ws st)(hs:fg.Sublist Ws):WkS fg st :=
 ⟨h.wks.sub hs,h.nums.sublist (hs.map _),fun x hx=>h.st x (hs.subset hx),h.sts.sublist ((hs.filter _).map _)⟩
theorem Anti.sub(h:Anti Ws)(hs:fg.Sublist Ws):Anti fg:=fun x hx y hy e=>h x (hs.subset hx) y (hs.subset hy) e
theorem qe7(Ws:List Wk)(i:Nat):(Ws.take i++Ws.drop (i+1)).Sublist Ws:=by
 conv=>rhs;rw[<-List.take_append_drop i Ws]
 exact List.Sublist.append (List.Sublist.refl _) (List.drop_sublist_drop_left Ws (Nat.le_succ i))
def errS (L:List Ent)(Ws:List Wk)(s:Bs)(ok:Bool):Int :=
 if qar s=false then 1 else match qeq L (qac s) with
  |none=>3
  |some e=>if e.leaf=false then 5 else if ok=false then 6 else if 24<=Ws.length then 7 else 0
def qe4 (cnt:Int)(s:Bs)(a b:Int):Wk:=⟨cnt+1,qac s,a,b,0⟩
end
end Go.Proofs.YtphclnolomgjoaaGreatDoor
