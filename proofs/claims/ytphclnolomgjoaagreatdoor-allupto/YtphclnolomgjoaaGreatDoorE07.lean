import Derived.Test.YtphclnolomgjoaaGreatDoorE02
set_option linter.unusedVariables false
set_option linter.unusedSimpArgs false
set_option maxRecDepth 100000
set_option maxHeartbeats 4000000
namespace Go.Proofs.YtphclnolomgjoaaGreatDoor
open Tryz
open Go.RowKit
variable {ok zj:Bool}{bt q t:Nat}{nm:Bs}{a d:Int}{W W' w w' f:World}{c1 l:Value}{T:Nat->Prop}
theorem eS(a:Addr)(w:World):(binOp .neq 97 (.pointer (some a)) (.pointer none)).run prog w=.ok (.bool true) w:=by
 kernel_rfl
theorem lP{za:List zc}(T:zr za)(w:World)(da:∀n∈za,UA w n){r:zc}(K:r∈za)(G:r.zb=[])(bt:Nat)(ht:w.cell? (vA bt 0)=some (zi r.ze))
  (s:ByteArray) (B:s.size<=2000000) (q c:Nat) (l:List (Int×Int)) (ga:l.length<=100) (hb:q<w.heap.size)
  (J:∀(j:Nat) (x:Int×Int),l[j]?=some x->w.cell? (vA q (j*2))=some (vI x.1)/\w.cell? (vA q (j*2+1))=some (vI x.2)) :
  Calls prog 80 #[vP bt,vG s,vS q l.length c] w fun e w'=>e=vR (vI (VC za (bl s) (UX l)))/\Bw w w':=by
 have d:=fun W=>cJ s B W
 rw[dJ]at d;have h:=fun W (g:Bw w W)=>fD q c l ga W (h_ g.size) (fun j x S=>⟨(g.cell (p:=vA q (j*2)) hb).trans (J j x S).1,(g.cell (p:=vA q (j*2+1)) hb).trans (J j x S).2⟩)
 have C:=fun W=>hX s W B
 have Q:=VE w _ ht;have u:=fun W (g:Bw w W)=>(g.cell (p:=vA bt 0) Q).trans ht
 have M:=fun W (g:Bw w W) n ha=>(da n ha).below g
 have m:=fun W (g:Bw w W) v y=>XA T K G s B W (M W g) v y
 unfold zi at m u;unfold VC;clear J;obtain⟨L,R⟩:∃L,L=l.length:=⟨_,rfl⟩;rw[<-R]at h ⊢;clear R
 cases y:UB (bl s)
 ·rw[y]at d;simp only[if_true]at d ⊢
  go_enter func80,ntmps80
  go_wp2_with (go_at_call 132;refine(d _).mono ?_;rintro e f ⟨rfl,b⟩)
  go_ret
  exact⟨rfl,b⟩
 rw[y]at d;simp only[Bool.true_eq_false,if_false]at d ⊢
 by_cases A:bl s=[]
 ·have ia:s=⟨#[]⟩:=Wy (A.trans XP.symm);simp only[A,if_true]at d ⊢;subst ia
  go_enter func80,ntmps80
  go_wp2_with (go_at_call 132;refine(d _).mono ?_;rintro e f ⟨rfl,b⟩)
  go_ret
  exact⟨rfl,b⟩
 simp only[A,if_false]at d ⊢
 cases X:UX l
 ·rw[X]at h;simp only[if_true]
  go_enter func80,ntmps80
  go_wp2_with (first|(go_at_call 132;refine(d _).mono ?_;rintro e f ⟨rfl,b⟩)|(go_at_call 133;refine(h f b).mono ?_;rintro e t ⟨rfl,i⟩))
  go_ret
  exact⟨rfl,s5 b i⟩
 rw[X]at h;simp only[Bool.true_eq_false,if_false]
 by_cases hd:4<WR (bl s)
 ·simp only[hd,if_true]
  go_enter func80,ntmps80
  go_wp2_with (first|(go_at_call 132;refine(d _).mono ?_;rintro e f ⟨rfl,b⟩)|(go_at_call 133;refine(h f b).mono ?_;rintro e t ⟨rfl,i⟩)|(go_at_call 134;refine(C _).mono ?_;rintro e Y ⟨rfl,z⟩;subst z))
  go_ret
  exact⟨rfl,s5 b i⟩
 simp only[hd,if_false];have V:=fun W=>aQ s B y A W
 cases D:zp za (s4 (bl s)) with
 |some n =>
  simp only[Option.isSome_some,if_true];rw[D]at m;simp only[zi]at m;clear D;have pa:=eS
  go_enter func80,ntmps80
  go_wp2_with (first|(go_at_call 132;refine(d _).mono ?_;rintro e f ⟨rfl,b⟩)|(go_at_call 133;refine(h f b).mono ?_;rintro e t ⟨rfl,i⟩;have o:Bw w t:=s5 b i;have aa:=u t o)|(go_at_call 134;refine(C _).mono ?_;rintro e Y ⟨rfl,z⟩;subst z)|(go_at_call 63;refine(m _ o (vP n.ze) rfl).mono ?_;rintro e la ⟨rfl,F⟩))
  go_ret
  exact⟨rfl,s5 o F⟩
 |none =>
  simp only[Option.isSome_none,Bool.false_eq_true,if_false];rw[D]at m;clear D;have P:=fun W (g:Bw w W) k=>nK T W (M W g) K G bt ((g.cell (p:=vA bt 0) Q).trans ht) k
  have I:=fun W (g:Bw w W) (a:ByteArray) (ea:a.size<=2000000)=>XA T K G a ea W (M W g) _ rfl
  unfold zi at I
  go_enter func80,ntmps80
  go_wp2_with (first|(go_at_call 132;refine(d _).mono ?_;clear d;rintro e f ⟨rfl,b⟩)|(go_at_call 133;refine(h f b).mono ?_;clear h;rintro e t ⟨rfl,i⟩;have o:Bw w t:=s5 b i;have aa:=u t o)|(go_at_call 134;refine(C _).mono ?_;clear C;rintro e Y ⟨rfl,z⟩;subst z)|(go_at_call 63;refine(m _ o (.pointer none) rfl).mono ?_;clear m;rintro e la ⟨rfl,F⟩)|(go_at_call 81;refine(V _).mono ?_;rintro e O ⟨⟨N,ma,rfl,ca,oa⟩,ba⟩;have H:Bw w O:=s5 (s5 o F) ba;have na:=u O H))
  refine(I O H N o_).mono ?_
  rintro e Z ⟨rfl,ja⟩
  have U:Bw w Z:=s5 H ja;have E:=P Z U (s4 (bl N));unfold zi at E;clear P I V u;generalize (match zp za (s4 (bl N)) with|none=>Value.pointer none|some p=>vP p.ze)=vq at E ⊢
  go_wp2_with (go_at_call 135;refine E.mono ?_;rintro e qa ⟨rfl,ka⟩)
  all_goals go_ret
  all_goals exact⟨ZF (by rw[ca,List.dropLast_concat]),s5 U ka⟩
theorem gu{za:List zc}{s:Bs}(h:VC za s ok=0):
  UB s=true/\s≠[]/\ok=true/\WR s<=4/\zp za (s4 s)=none/\∃p,zp za (s4 s).dropLast=some p/\p.zj=false/\za.length<20:=by
 unfold VC at h
 cases b:UB s
 ·simp[b]at h
 by_cases a:s=[]
 ·rw[b]at h;simp[a]at h
 cases c:ok
 ·simp[b,a,c]at h
 by_cases hd:4<WR s
 ·simp[b,a,c,hd]at h
 cases e:zp za (s4 s) with
 |some n=>simp[b,a,c,hd,e]at h
 |none =>
  simp[b,a,c,hd,e]at h
  unfold tK at h
  cases hp:zp za (s4 s).dropLast with
  |none=>simp[hp]at h
  |some p =>
   simp only[hp]at h
   cases d:p.zj
   ·by_cases f:20<=za.length
    ·simp[d,f]at h
    ·exact⟨rfl,a,rfl,o_,rfl,p,rfl,d,o_⟩
   ·simp[d]at h
structure dF (za:List zc) (q:Nat) (s:Bs) (zj:Bool) (a b c d:Int) (w w':World):Prop where
 ex:∃p nm ks zl sl,p∈za/\p.zj=false/\s4 s=p.zb++[nm]/\za.length<20/\(∀n∈za,n.zb≠s4 s)/\Z4 za p q nm zj a b c d w w' ks zl sl
theorem Z4.from{za:List zc}{p:zc}{b c:Int}{e:List zc}{zl:Nat}{sl:Value}(h:Z4 za p q nm zj a b c d f w' e zl sl)(hb:Bw w f):Z4 za p q nm zj a b c d w w' e zl sl :=
 ⟨h.zv,h.mem,h.sort,h.found,h.par,h.new,(zd.new hb).trans h.zf,h.own.imp id (fun ⟨g,i,j⟩=>⟨g,i,Nat.le_trans hb.size j⟩)⟩
def lA (za:List zc)(q:Nat)(s:Bs)(ok:Bool)(zj:Bool)(a b c d:Int)(w:World)(e:Ending)(w':World):Prop :=
 (VC za s ok≠0/\e=vR (vI (VC za s ok))/\Bw w w')\/(VC za s ok=0/\e=vR (vI 0)/\dF za q s zj a b c d w w')
theorem sK{za:List zc}(T:zr za)(w:World)(J:∀n∈za,UA w n){r:zc}(N:r∈za)(F:r.zb=[])(bt:Nat)(ht:w.cell? (vA bt 0)=some (zi r.ze))
  (s:ByteArray) (Y:s.size<=2000000) (A cp:Nat) (l:List (Int×Int)) (oa:l.length<=100) (hb:A<w.heap.size)
  (X:∀(j:Nat) (x:Int×Int),l[j]?=some x->w.cell? (vA A (j*2))=some (vI x.1)/\w.cell? (vA A (j*2+1))=some (vI x.2))
  (q:Nat) (zj:Bool) (a b c d:Int) (hq:zg w q 136 #[vG ⟨#[]⟩,.bool zj,vI a,vI b,vI c,vI d,.pointer none,v0_])
  (z:∀n∈za,q≠n.ze/\n.sl.ownBlock≠some q/\n.sl.ownBlock≠some n.ze) :
  Calls prog 52 #[vP bt,vG s,zi q,vS A l.length cp] w (lA za q (bl s) (UX l) zj a b c d w):=by
 have h:=lP T w J N F bt ht s Y A cp l oa hb X;clear X;obtain⟨L,V⟩:∃L,L=l.length:=⟨_,rfl⟩;rw[<-V]at h ⊢;clear V;generalize Aa:UX l=ok at h ⊢
 by_cases m:VC za (bl s) ok=0
 ·obtain⟨Z,ma,ta,hd,K,p,hp,la,ra⟩:=gu m;have B:Hid (VC za (bl s) ok=0):=m;rw[m]at h;clear m;obtain⟨y,aa⟩:=VZ hp;have ba:=fun W=>aQ s Y Z ma W
  have ka:=VE w _ ht;have G:=fun W (g:Bw w W)=>(g.cell (p:=vA bt 0) ka).trans ht
  unfold zi at G;have ca:=fun W (g:Bw w W) n v=>(J n v).below g
  have I:=fun W (g:Bw w W) (o:ByteArray) (na:o.size<=2000000) (u:s4 (bl o)=(s4 (bl s)).dropLast)=>XA T N F o na W (ca W g) (zi p.ze) (by rw[u,hp])
  have Q:∀n∈za,n.zb≠s4 (bl s):=fun n v e=>by rw[Zl T v e]at K;cases K
  have O:=fun W (g:Bw w W) (nm:Bs) (i:Vs nm=true) (ja:∀n∈za,n.zb≠p.zb++[nm])=>q6 T W (ca W g) y q nm i ja zj a b c d (hq.below g hq.lt) (z p y).1 (z p y).2.1 (z p y).2.2
  unfold zi at I O ⊢;clear K z hq
  go_enter func52,ntmps52
  go_wp2_with (first|(go_at_call 80;refine h.mono ?_;clear h;rintro e f ⟨rfl,C⟩)|(go_at_call 81;refine(ba _).mono ?_;clear ba;rintro e P ⟨⟨o,t,rfl,i,ua⟩,ha⟩;have D:Bw w P:=s5 C ha;have sa:=G P D))
  have u:s4 (bl o)=(s4 (bl s)).dropLast:=by rw[i,List.dropLast_concat]
  refine(I P D o o_ u).mono ?_
  rintro e da ⟨rfl,ia⟩
  have R:Bw w da:=s5 D ia;have ea:Vs (bl t)=true:=WO (k:=s4 (bl s)) (by rw[<-VY];exact Z) (by rw[i];simp);have H:p.zb++[bl t]=s4 (bl s):=by rw[aa,<- u,i]
  have M:=O da R (bl t) ea (fun n v=>by rw[H];exact Q n v);rw[YU]at M;clear O I G u i;have qa:Hid (p.zb++[bl t]=s4 (bl s)):=H;clear H aa
  go_wp2_with (go_at_call 82;refine M.mono ?_;clear M;rintro e Ba ⟨rfl,pa,zl,sl,ga⟩)
  go_ret
  exact .inr ⟨B.out,rfl,⟨p,bl t,pa,zl,sl,y,la,qa.out.symm,ra,Q,ga.from R⟩⟩
 ·have S:(VC za (bl s) ok != 0)=true:=by simpa using m
  unfold zi;generalize U:VC za (bl s) ok=E at h S;have B:Hid (VC za (bl s) ok=E):=U;clear U m J T ht N F z hq
  go_enter func52,ntmps52
  go_wp2_with (go_at_call 80;refine h.mono ?_;rintro e f ⟨rfl,C⟩)
  go_ret
  exact .inl ⟨by rw[B.out];simpa using S,ZF B.out.symm,C⟩
structure yd where
 k:Nat
 t:Nat
 i:Nat
abbrev yd.free:yd:=⟨0,0,0⟩
abbrev yd.node (t i:Nat):yd:=⟨1,t,i⟩
abbrev yd.row (t i:Nat):yd:=⟨2,t,i⟩
abbrev yd.tow (t:Nat):yd:=⟨3,t,0⟩
abbrev yd.ref (t:Nat):yd:=⟨4,t,0⟩
abbrev yd.rrow (t:Nat):yd:=⟨5,t,0⟩
abbrev yd.law:yd:=⟨6,0,0⟩
abbrev yd.lawT:yd:=⟨7,0,0⟩
abbrev yd.lawN:yd:=⟨8,0,0⟩
abbrev yd.lawE:yd:=⟨9,0,0⟩
abbrev yd.lawA:yd:=⟨10,0,0⟩
abbrev yd.lawB:yd:=⟨11,0,0⟩
abbrev yd.zw:yd:=⟨12,0,0⟩
abbrev yd.book (t:Nat):yd:=⟨13,t,0⟩
abbrev yd.work (t:Nat):yd:=⟨14,t,0⟩
def yd.prog(t:Nat):yd->Prop
 |⟨1,a,_⟩=>a=t
 |⟨2,a,_⟩=>a=t
 |⟨3,a,_⟩=>a=t
 |⟨13,a,_⟩=>a=t
 |⟨14,a,_⟩=>a=t
 |_=>False
def yd.refs(t:Nat):yd->Prop
 |⟨4,a,_⟩=>a=t
 |⟨5,a,_⟩=>a=t
 |_=>False
theorem yd.Yy{x:yd}(h:x.prog t):(x.k=1\/x.k=2\/x.k=3\/x.k=13\/x.k=14)/\x.t=t:=by
 unfold yd.prog at h
 split at h<;>first|exact⟨s_,h⟩|exact h.elim
theorem yd.YF{x:yd}(h:x.refs t):(x.k=4\/x.k=5)/\x.t=t:=by
 unfold yd.refs at h
 split at h<;>first|exact⟨s_,h⟩|exact h.elim
structure X2 (τ : Nat->yd) (t:Nat) (W:World) (bt:Nat) (za:List zc) (c1 c2 l:Value):Prop where
 tree:zr za
 yj:∀n∈za,UA W n
 tags:∀(i:Nat) (n:zc),za[i]?=some n -> τ n.ze=.node t n.ze/\∀g,n.sl.ownBlock=some g -> τ g=.row t n.ze
 tow:∃r,za[0]?=some r/\zg W bt 102 #[zi r.ze,c1,c2,l]
 ui : τ bt=.tow t
 uk:∀a∈za,∀b∈za,a.ze=b.ze->a=b
theorem X2.zf{τ τ':Nat->yd}{za:List zc}{c2:Value}(h:X2 τ t W bt za c1 c2 l)(k:zd T W W')(d:∀b,b<W.heap.size->T b->¬(τ b).prog t)
  (e:∀b,b<W.heap.size -> τ' b = τ b):X2 τ' t W' bt za c1 c2 l:=by
 obtain⟨r,q,hb⟩:=h.tow;have m:∀(i:Nat) (n:zc),za[i]?=some n->n.ze<W.heap.size/\∀g,n.sl.ownBlock=some g->g<W.heap.size:=fun i n a =>
  ⟨(h.yj n (Uq a)).lt,fun g c=>((h.yj n (Uq a)).row.lt g c).2⟩
 refine⟨h.tree,fun n a=>?_,fun i n a=>?_,⟨r,q,?_⟩,?_,h.uk⟩
 ·obtain⟨i,o⟩:=Vh a;obtain⟨f,j⟩:=h.tags i n o;obtain⟨l1,l2⟩:=m i n o
  exact(h.yj n a).zf k (fun hb=>d _ l1 hb (by rw[f];rfl)) (fun g c hb=>d _ (l2 g c) hb (by rw[j g c];rfl))
 ·obtain⟨f,j⟩:=h.tags i n a;obtain⟨l1,l2⟩:=m i n a
  exact⟨by rw[e _ l1];exact f,fun g c=>by rw[e _ (l2 g c)];exact j g c⟩
 ·exact hb.zf k (fun p=>d _ hb.lt p (by rw[h.ui];rfl))
 ·rw[e _ hb.lt];exact h.ui
theorem X2.hung{τ : Nat->yd}{za:List zc}{c2:Value}(h:X2 τ t W bt za c1 c2 l)(P:Bw W w)(hq:W.heap.size<=q){s:Bs}{b c:Int}
  (nb:UB s=true) (hd:WR s<=4) (gb:(0<=a/\a<=1000)/\(0<=b/\b<=1000)/\(0<=c/\c<=1000)/\(0<=d/\d<=1000)/\(zj=false->a=0/\b=0))
  (hp:dF za q s zj a b c d w w') :
  ∃τ' oa,(∀x,x<W.heap.size -> τ' x = τ x)/\(∀x,W.heap.size<=x -> τ' x=.free\/(τ' x).prog t)/\X2 τ' t w' bt oa c1 c2 l/\oa.map zc.zq=za.map zc.zq++[⟨s4 s,zj,a,b,c,d⟩] /\
   zd (fun x=>(x<W.heap.size/\((τ x).k=1\/(τ x).k=2)/\(τ x).t=t)) W w'/\(∀n∈za,∃Ka∈oa,Ka.ze=n.ze/\Ka.zb=n.zb)/\(∀x,W.heap.size<=x -> τ' x=.free\/(τ' x).k=1\/(τ' x).k=2):=by
 obtain⟨p,nm,J,zl,sl,S,eb,ia,Kb,Ua,H⟩:=hp.ex;have T:=h.tree;obtain⟨j,kb⟩:=Vh S;have Ra:∀n∈za,UA w n:=fun n f=>(h.yj n f).below P
 have R:∀n∈za,n.ze<W.heap.size/\∀g,n.sl.ownBlock=some g->g<W.heap.size:=fun n f=>⟨(h.yj n f).lt,fun g D=>((h.yj n f).row.lt g D).2⟩
 obtain⟨G,Ja⟩:∃G,G=p.Wl zl q sl:=⟨_,rfl⟩;obtain⟨m,O⟩:∃m:zc,m={ze:=q,zb:=p.zb++[nm],zj:=zj,n0:=a,n1:=b,b0:=c,b1:=d,up:=some p.ze,sl:=v0_,zv:=[]}:=⟨_,rfl⟩;have M:m.zb=p.zb++[nm]:=by rw[O]
 obtain⟨up,Ea⟩:∃up:zc->zc,up=fun n=>if n.zb=p.zb then G else n:=⟨_,rfl⟩
 have Ca:up p=G:=by rw[Ea];simp
 have Sa:∀n∈za,n.zb≠p.zb->up n=n:=fun n f F=>by rw[Ea];simp[F]
 have ma:∀n∈za,(n=p/\up n=G)\/(n.zb≠p.zb/\up n=n):=fun n f=>by
  by_cases F:n.zb=p.zb
  ·obtain rfl:=T.inj n f p S F;exact .inl ⟨rfl,Ca⟩
  ·exact .inr ⟨F,Sa n f F⟩
 have K:G.zb=p.zb/\G.zj=p.zj/\G.n0=p.n0/\G.n1=p.n1/\G.b0=p.b0/\G.b1=p.b1/\G.up=p.up/\G.ze=p.ze/\G.sl=sl/\G.zv=p.zv.take zl++q::p.zv.drop zl:=by rw[Ja];simp[zc.Wl]
 have A:∀n∈za,(up n).zb=n.zb/\(up n).zj=n.zj/\(up n).n0=n.n0/\(up n).n1=n.n1/\(up n).b0=n.b0/\(up n).b1=n.b1/\(up n).up=n.up/\(up n).ze=n.ze:=fun n f=>by
  rcases ma n f with ⟨rfl,e⟩|⟨_,e⟩
  ·rw[e];exact⟨K.1,K.2.1,K.2.2.1,K.2.2.2.1,K.2.2.2.2.1,K.2.2.2.2.2.1,K.2.2.2.2.2.2.1,K.2.2.2.2.2.2.2.1⟩
  ·rw[e];exact⟨rfl,rfl,rfl,rfl,rfl,rfl,rfl,rfl⟩
 have E:∀n,n∈za.map up++[m]↔(∃n0∈za,n=up n0)\/n=m:=fun n=>by
  simp only[UU,UC,List.mem_singleton]
  constructor
  ·rintro(⟨n0,v,rfl⟩|rfl)
   ·exact .inl ⟨n0,v,rfl⟩
   ·exact .inr rfl
  ·rintro(⟨n0,v,rfl⟩|rfl)
   ·exact .inl ⟨n0,v,rfl⟩
   ·exact .inr rfl
 have ka:∀n∈za,n.zb≠p.zb++[nm]:=fun n f=>by rw[<-ia];exact Ua n f
 have ob:UL (p.zb++[nm])=true:=by rw[<-ia,<- VY];exact nb
 have Qa:(za.map up++[m]).map (·.zb)=za.map (·.zb)++[p.zb++[nm]]:=by
  simp only[List.map_append,List.map_map,List.map_cons,List.map_nil,M]
  congr 1
  exact List.map_congr_left (fun n f=>(A n f).1)
 obtain⟨τ',aa⟩:∃τ':Nat->yd,τ'=fun x=>if x<W.heap.size then τ x else if x=q then .node t q else if sl.ownBlock=some x then .row t p.ze else .free:=⟨_,rfl⟩
 have ba:∀x,x<W.heap.size -> τ' x = τ x:=fun x o=>by rw[aa];simp[o]
 have Ta : τ' q=.node t q:=by rw[aa];simp[Nat.not_lt.2 hq]
 have Q:=h.tags j p kb;have cb:∀g,sl.ownBlock=some g -> τ' g=.row t p.ze:=fun g D=>by
  rcases H.own with e|⟨g',e,Ib⟩
  ·rw[e]at D;rw[ba g ((R p S).2 g D)];exact Q.2 g D
  ·rw[e]at D;cases D;have v:¬g<W.heap.size:=by have:=P.size;omega
   have I:g≠q:=fun ha=>by
    have:=H.new.lt
    have:=(H.par.row.lt g (by rw[show(p.Wl zl q sl).sl=sl from rfl,e])).2
    have ib:=H.new.zl;obtain⟨_,mb⟩:=H.par.row
    rcases mb with ⟨Y,_⟩|⟨g2,cap,Gb,Y,_,Ha,_⟩
    ·rw[show(p.Wl zl q sl).sl=sl from rfl]at Y;rw[Y]at e;cases e
    ·rw[show(p.Wl zl q sl).sl=sl from rfl]at Y;rw[Y]at e;injection e with e;have Za:g2=q:=(show g2=g from e).trans ha;rw[Za]at Ha;have Z:=Ha.symm.trans ib;injection Z with Z;injection Z with _ Z _
     exact absurd Z d_
   rw[aa];simp[v,I,e]
 have Pa:zd (fun x=>(x<W.heap.size/\((τ x).k=1\/(τ x).k=2)/\(τ x).t=t)) W w':=by
  refine⟨H.zf.os.trans P.os,H.zf.tape.trans P.tape,H.zf.output.trans P.output,Nat.le_trans P.size H.zf.size,fun x o f=>?_⟩
  refine(H.zf.block x (VJ o P.size) ?_).trans (P.block x o)
  rintro(rfl|rfl|e)
  ·exact f ⟨o,by rw[Q.1];simp⟩
  ·omega
  ·exact f ⟨o,by rw[Q.2 x e];simp⟩
 have Oa:∀n∈za,n≠p->UA w' n:=fun n f La=>by
  obtain⟨i,C⟩:=Vh f;obtain⟨la,ra⟩:=h.tags i n C
  refine(Ra n f).zf H.zf ?_ ?_
  ·rintro(e|e|e)
   ·exact La (h.uk n f p S e)
   ·have:=(R n f).1;omega
   ·rw[Q.2 _ e]at la;cases la
  ·intro g D;have U:=ra g D
   rintro(e|e|e)
   ·rw[e,Q.1]at U;cases U
   ·have:=(R n f).2 g D;omega
   ·rw[Q.2 _ e]at U;injection U with _ _ U;exact La (h.uk n f p S U.symm)
 have Bb:∀a∈za.map up++[m],∀b∈za.map up++[m],a.ze=b.ze->a=b:=fun a jb b hb e=>by
  have Na:m.ze=q:=by rw[O]
  rcases(E a).1 jb with ⟨x,o,rfl⟩|rfl
  ·rcases(E b).1 hb with ⟨y,B,rfl⟩|rfl
   ·rw[(A x o).2.2.2.2.2.2.2,(A y B).2.2.2.2.2.2.2]at e;rw[h.uk x o y B e]
   ·rw[(A x o).2.2.2.2.2.2.2,Na]at e;have:=(R x o).1;omega
  ·rcases(E b).1 hb with ⟨y,B,rfl⟩|rfl
   ·rw[(A y B).2.2.2.2.2.2.2,Na]at e;have:=(R y B).1;omega
   ·rfl
 refine⟨τ',za.map up++[m],ba,?_,⟨?_,?_,?_,?_,?_,Bb⟩,?_,Pa,fun n f=>⟨up n,(E _).2 (.inl ⟨n,f,rfl⟩),(A n f).2.2.2.2.2.2.2,(A n f).1⟩,?_⟩
 ·intro x o;rw[aa];simp only[Nat.not_lt.2 o,if_false]
  by_cases v:x=q
  ·right;simp[v,yd.prog]
  ·by_cases I:sl.ownBlock=some x
   ·right;simp[v,I,yd.prog]
   ·left;simp[v,I]
 ·-- the tree
  refine⟨?_,?_,?_,?_,?_,?_,?_,?_,?_⟩
  ·obtain⟨r,N,v,I,h3,qa⟩:=T.root;have Db:=Uq N;have u:=A r Db
   refine⟨up r,?_,by rw[u.1];exact v,by rw[u.2.1];exact I,by rw[u.2.2.2.2.1];exact h3,by rw[u.2.2.2.2.2.1];exact qa⟩
   rw[Wu (by simp;exact(Uy.1 N).1)]
   simp[N]
  ·intro n f n2 Va e
   rcases(E n).1 f with ⟨x,o,rfl⟩|rfl<;>rcases(E n2).1 Va with ⟨y,B,rfl⟩|rfl
   ·rw[(A x o).1,(A y B).1]at e;rw[T.inj x o y B e]
   ·rw[(A x o).1,M]at e;exact absurd e (ka x o)
   ·rw[(A y B).1,M]at e;exact absurd e.symm (ka y B)
   ·rfl
  ·rw[Qa]
   refine List.nodup_append.2 ⟨T.nodup,s_,?_⟩
   intro k F ca Da e;simp only[List.mem_singleton]at Da;obtain⟨n,f,rfl⟩:=UC.1 F;rw[Da]at e;exact ka n f e
  ·intro n f
   rcases(E n).1 f with ⟨x,o,rfl⟩|rfl
   ·rw[(A x o).1];exact T.ok x o
   ·rw[M];refine⟨ob,?_⟩;rw[<-ia];exact hd
  ·intro n f
   rcases(E n).1 f with ⟨x,o,rfl⟩|rfl
   ·obtain⟨_,sa,ta,ua,Aa,Ba,_⟩:=A x o;rw[sa,ta,ua,Aa,Ba];exact T.zm x o
   ·rw[O];exact gb
  ·intro n f F
   rcases(E n).1 f with ⟨x,o,rfl⟩|rfl
   ·rw[(A x o).2.2.2.2.2.2.1];exact T.top x o (by rw[<-(A x o).1];exact F)
   ·rw[M]at F;simp at F
  ·intro n f k x F
   rcases(E n).1 f with ⟨y,B,rfl⟩|rfl
   ·rw[(A y B).1]at F;obtain⟨da,v,I,h3,qa⟩:=T.par y B k x F;obtain⟨Eb,Fb,_,_,_,_,_,v3⟩:=A da v
    exact⟨up da,(E _).2 (.inl ⟨da,v,rfl⟩),by rw[Eb];exact I,by rw[Fb];exact h3,by rw[(A y B).2.2.2.2.2.2.1,v3];exact qa⟩
   ·rw[M]at F;obtain⟨Ya,ha⟩:=List.append_inj' F rfl
    refine⟨G,(E _).2 (.inl ⟨p,S,Ca.symm⟩),by rw[K.1];exact Ya,by rw[K.2.1];exact eb,by rw[O,K.2.2.2.2.2.2.2.1]⟩
  ·intro n f
   rcases(E n).1 f with ⟨y,B,rfl⟩|rfl
   ·rcases ma y B with ⟨rfl,e⟩|⟨ga,e⟩
    ·-- the parent
     rw[e]
     refine⟨(J.map up).take zl++m::(J.map up).drop zl,?_,?_,?_⟩
     ·rw[K.2.2.2.2.2.2.2.2.2,H.zv]
      have:(J.map up).map (·.ze)=J.map (·.ze):=by
       rw[List.map_map];exact List.map_congr_left (fun n f=>(A n ((H.mem n).1 f).1).2.2.2.2.2.2.2)
      rw[List.map_append,List.map_cons,List.map_take,List.map_drop,this,O]
     ·intro k;rw[K.1];have Wa:k∈(J.map up).take zl++m::(J.map up).drop zl↔k∈J.map up\/k=m:=by
       simp only[UU,List.mem_cons]
       constructor
       ·rintro(v|v|v)
        ·exact .inl (List.mem_of_mem_take v)
        ·exact .inr v
        ·exact .inl (List.mem_of_mem_drop v)
       ·rintro(v|v)
        ·rw[<-List.take_append_drop zl (J.map up)]at v
         rcases UU.1 v with I|I
         ·exact .inl I
         ·exact .inr (.inr I)
        ·exact .inr (.inl v)
      rw[Wa,E]
      constructor
      ·rintro(v|rfl)
       ·obtain⟨z,L,rfl⟩:=UC.1 v;obtain⟨V,x,o⟩:=(H.mem z).1 L
        exact⟨.inl ⟨z,V,rfl⟩,x,by rw[(A z V).1];exact o⟩
       ·exact⟨.inr rfl,nm,M⟩
      ·rintro⟨v|rfl,x,o⟩
       ·obtain⟨z,L,rfl⟩:=v;rw[(A z L).1]at o
        exact .inl (UC.2 ⟨z,(H.mem z).2 ⟨L,x,o⟩,rfl⟩)
       ·exact .inr rfl
     ·have vb:((J.map up).take zl++m::(J.map up).drop zl).map (fun k=>mN k.zb)=(J.map fun k=>mN k.zb).take zl++nm::(J.map fun k=>mN k.zb).drop zl:=by
       have:(J.map up).map (fun k=>mN k.zb)=J.map fun k=>mN k.zb:=by
        rw[List.map_map];exact List.map_congr_left (fun n f=>by simp only[Function.comp];rw[(A n ((H.mem n).1 f).1).1])
       rw[List.map_append,List.map_cons,List.map_take,List.map_drop,this,M,Wm]
      rw[vb];obtain⟨bb,Fa,pa,Ga⟩:=H.found;have ja:=H.sort;generalize (J.map fun k=>mN k.zb)=ns at ja bb Fa pa Ga;have Ia:=List.take_append_drop zl ns;rw[<-Ia]at ja;obtain⟨yb,s2,Ab⟩:=YV.1 ja
      refine YV.2 ⟨yb,List.pairwise_cons.2 ⟨?_,s2⟩,?_⟩
      ·intro y B;obtain⟨i,C⟩:=Vh B;rw[List.getElem?_drop]at C;have g1:=pa (zl+i) y o_ C;have g2:yn y nm≠0:=fun Xa=>by
        have:=bI _ _ Xa
        subst this
        rcases Nat.eq_zero_or_pos i with rfl|Hb
        ·have:=Ga.2 (j_ C);cases this
        ·have ea:zl<ns.length:=by have:=(Uy.1 C).1;omega
         have g3:=pa zl _ (Nat.le_refl _) (Ur ea);have g4:=List.pairwise_iff_getElem.1 H.sort;have Ma:=ja;rw[Ia]at Ma;have db:=List.pairwise_iff_getElem.1 Ma zl (zl+i) ea (Uy.1 C).1 o_;rw[(Uy.1 C).2]at db
         omega
       have Jb:yn nm y = - yn y nm:=bY _ _
       omega
      ·intro x o y B;obtain⟨i,C⟩:=Vh o;rw[List.getElem?_take]at C
       split at C
       ·rename_i ea
        have g1:=Fa i x ea C
        rcases List.mem_cons.1 B with rfl|B
        ·exact g1
        ·exact Ab x o y B
       ·cases C
    ·rw[e];obtain⟨na,qb,ca,rb⟩:=T.zv y B
     refine⟨na.map up,?_,?_,?_⟩
     ·rw[qb,List.map_map];exact List.map_congr_left (fun n f=>((A n ((ca n).1 f).1).2.2.2.2.2.2.2).symm)
     ·intro k;rw[E]
      constructor
      ·intro v;obtain⟨z,L,rfl⟩:=UC.1 v;obtain⟨V,x,o⟩:=(ca z).1 L
       exact⟨.inl ⟨z,V,rfl⟩,x,by rw[(A z V).1];exact o⟩
      ·rintro⟨v|rfl,x,o⟩
       ·obtain⟨z,L,rfl⟩:=v;rw[(A z L).1]at o
        exact UC.2 ⟨z,(ca z).2 ⟨L,x,o⟩,rfl⟩
       ·rw[M]at o
        exact absurd (List.append_inj' o rfl).1.symm ga
     ·have:(na.map up).map (fun k=>mN k.zb)=na.map fun k=>mN k.zb:=by
       rw[List.map_map];exact List.map_congr_left (fun n f=>by simp only[Function.comp];rw[(A n ((ca n).1 f).1).1])
      rw[this];exact rb
   ·refine⟨[],by rw[O];rfl,fun k=>?_,s_⟩
    constructor
    ·intro v;cases v
    ·rintro⟨v,x,o⟩
     rw[M]at o
     rcases(E k).1 v with ⟨z,L,rfl⟩|rfl
     ·rw[(A z L).1]at o;obtain⟨da,g1,g2,_⟩:=T.par z L _ _ o
      exact absurd g2 (ka da g1)
     ·rw[M]at o
      have:=congrArg List.length o;simp at this
  ·simp;omega
 ·intro n f
  rcases(E n).1 f with ⟨y,B,rfl⟩|rfl
  ·rcases ma y B with ⟨rfl,e⟩|⟨ga,e⟩
   ·rw[e,Ja];exact H.par
   ·rw[e]
    exact Oa y B (fun ha=>by subst ha;exact ga rfl)
  ·rw[O];exact H.new
 ·intro i n C
  rcases Nat.lt_or_ge i za.length with ab|pb
  ·rw[Wu (j_ ab)]at C;simp only[VB,Option.map_eq_some_iff]at C;obtain⟨y,B,rfl⟩:=C;have X:=Uq B;obtain⟨la,ra⟩:=h.tags i y B
   refine⟨by rw[(A y X).2.2.2.2.2.2.2,ba _ (R y X).1];exact la,fun g D=>?_⟩
   rcases ma y X with ⟨rfl,e⟩|⟨ga,e⟩
   ·rw[e,K.2.2.2.2.2.2.2.2.1]at D;rw[(A _ X).2.2.2.2.2.2.2];exact cb g D
   ·rw[e]at D ⊢;rw[ba _ ((R y X).2 g D)];exact ra g D
  ·rw[Wp (j_ pb)]at C;simp only[List.length_map]at C
   have:i=za.length:=by
    rcases Nat.eq_zero_or_pos (i-za.length) with N|N
    ·omega
    ·rw[List.getElem?_eq_none t_]at C;cases C
   subst this
   simp at C
   subst C;rw[O]
   exact⟨Ta,fun g D=>by cases D⟩
 ·obtain⟨r,N,hb⟩:=h.tow
  refine⟨up r,?_,?_⟩
  ·rw[Wu (by simp;exact(Uy.1 N).1)];simp[N]
  ·rw[(A r (Uq N)).2.2.2.2.2.2.2]
   refine(hb.below P hb.lt).zf H.zf ?_
   rintro(e|e|e)
   ·have:=h.ui;rw[e,Q.1]at this;cases this
   ·have:=hb.lt;omega
   ·have:=h.ui;rw[Q.2 _ e]at this;cases this
 ·obtain⟨r,N,hb⟩:=h.tow;rw[ba _ hb.lt];exact h.ui
 ·rw[List.map_append,List.map_map]
  congr 1
  ·exact List.map_congr_left (fun n f=>by
    obtain⟨Cb,sa,ta,ua,Aa,Ba,_⟩:=A n f;simp only[Function.comp,zc.zq,Cb,sa,ta,ua,Aa,Ba])
  ·rw[O,ia];rfl
 ·intro x o;rw[aa];simp only[Nat.not_lt.2 o,if_false]
  by_cases v:x=q
  ·right;simp[v]
  ·by_cases I:sl.ownBlock=some x
   ·right;simp[v,I]
   ·left;simp[v,I]
end Go.Proofs.YtphclnolomgjoaaGreatDoor
