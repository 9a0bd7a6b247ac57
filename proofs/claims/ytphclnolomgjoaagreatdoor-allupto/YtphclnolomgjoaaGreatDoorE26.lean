import Derived.Test.YtphclnolomgjoaaGreatDoorE25
set_option linter.unusedVariables false
set_option linter.unusedSimpArgs false
set_option maxRecDepth 100000
set_option maxHeartbeats 4000000
namespace Go.Proofs.YtphclnolomgjoaaGreatDoor
open Go.Proofs.Tryz
section
open Go.RowKit Go.Shelf
variable {P:Program}{W w:World}{gf n:Nat}{lb:Array Value}{T:Nat->Prop}
def RK (r:Nat)(W a:World):Prop:=a.heap[r]?=W.heap[r]?/\a.heap[r+1]?=W.heap[r+1]?
def rfP3 (r:Nat)(I:World->Prop)(b:Code->World->Prop)(W:World):Exit->Act->World->Prop
 | .normal,_,a=>RK r W a/\I a
 | .ret,_,a=>RK r W a/\b .ret a
 | .exit id,_,a=>RK r W a/\b (.exit id) a
 | .goto t,_,a=>RK r W a/\b (.goto t) a
 | .panic _,_,_=>False
 | .outgrown,_,_=>False
theorem k4{σ : Type}{g:Operand}{ps:Array Tmp}{assign body:Code}{Q:Exit->Act->World->Prop}{a:Act} 
  (Ca:a.eval g=.func (.func gf) #[] lb) (ua:∀args w,(callFunc gf args).run P w=.ok (.enter gf args) w)
  {enc : σ -> Array Value} {nx : σ -> σ} {more fin : σ -> Prop} {Start Cells : σ -> World->Prop}
  (oa:∀(k:Nat) (J ba : σ -> World->Prop) (d:World),Bw w d->d.heap.size=w.heap.size+2->(∀s A B,J s A->Bw A B->J s B)->(∀s A,Start s A->Bw d A->J s A)->(∀s A,J s A->more s->Cells s A) ->
   (∀m s A,J s A->more s->YieldAt Fence.wide m P (w.heap.size+1) (enc s) A fun e W'=>(e=vR (.bool true)/\J (nx s) W')\/(e=vR (.bool false)/\ba (nx s) W')) ->
   CallsIn Fence.wide k P gf (#[.func (.yield (w.heap.size+1)) #[] #[]]++lb) d fun e W'=>(∃v,e=vR v)/\((∃s,fin s/\J s W')\/(∃s,ba s W')))
  (Fa:∀s,(enc s).size=ps.size)
  (I : σ -> World->Prop) (H:Code -> σ -> World->Prop)
  (hI:∀s A B,I s A->zd (fun b=>b=w.heap.size\/b=w.heap.size+1) A B->I s B) (hIx:∀da s A B,H da s A->zd (fun b=>b=w.heap.size\/b=w.heap.size+1) A B->H da s B)
  (Ma:∀s A d,Start s A->Bw w d->d.heap.size=w.heap.size+2->Bw d A->I s A) (La:∀s A,I s A->more s->Cells s A)
  (U : σ -> World->World) (na:∀x W,Bw W (U x W)) (ca : σ -> World->Act)
  (Ea:∀(l:Nat) (x : σ) (W:World) (K:Act->World->Prop),K (ca x W) (U x W) ->
   assign.wpIn (Fence.wide.inRound l) n P (Exit.then K (fun _ _ _=>False)) {tmps:=(ps.zip (enc x)).foldl (fun t (p,v)=>t.setIfInBounds p v) a.tmps,defers:=[]} W)
  (Ha:∀(l:Nat) (s : σ) (V W:World),I s W->w.heap.size+2<=V.heap.size->zd (fun b=>b=w.heap.size\/b=w.heap.size+1) (U s V) W->more s->body.wpIn (Fence.wide.inRound l) n P (rfP3 w.heap.size (I (nx s)) (fun c=>H c (nx s)) W) (ca s V) W)
  (Aa:∀(s : σ) (W:World),fin s->I s W->W.heap[w.heap.size]?=some (.deferred (some []))->Q .normal {a with defers:={target:=.collected w.heap.size,args:=#[]}::a.defers} W)
  (Ga:∀(c:Code) (s : σ) (W:World),H c s W->W.heap[w.heap.size]?=some (.deferred (some []))->c.wpIn Fence.wide n P Q {a with defers:={target:=.collected w.heap.size,args:=#[]}::a.defers} W) :
  (Code.rangeFunc g ps assign body).wpIn Fence.wide n P Q a w:=by
 have qa:∀m,Fence.wide.depth.isSome=true->1<=m:=fun m h=>by simp[Fence.wide]at h
 refine wpIn_rangeFunc fun fn _=>?_
 obtain⟨f,r⟩:∃f:LoopState->Option Code->Loop,f=fun st Ia=>{state:=st,pending:=Ia,fn,tmps:=a.tmps,params:=ps,assign,body,defers:=w.heap.size}:=⟨_,rfl⟩
 obtain⟨d,O⟩:∃d,(w.alloc (.deferred (some []))).alloc (.loop (f .ready none))=d:=⟨_,rfl⟩;have Ka:d.heap[w.heap.size+1]?=some (.loop (f .ready none)):=by
  rw[<-O];have:=World.alloc_heap_new (w.alloc (.deferred (some []))) (.loop (f .ready none));rwa[Vv]at this
 have ta:d.heap[w.heap.size]?=some (.deferred (some [])):=by
  rw[<-O];exact(Below.heap_alloc _ _ _ s_).trans (World.alloc_heap_new w _)
 have ea:d.heap.size=w.heap.size+2:=by rw[<-O];simp
 have ga:Bw w d:=by rw[<-O];exact((Below.refl _ w).alloc (Nat.le_refl _) _).alloc s_ _
 have N:∀ {A B:World} {k:Nat} {o:Obj},Bw A B->A.heap[k]?=some o->B.heap[k]?=some o:=fun {A B k o} hb ia=>by
  rw[hb.block k (Vz.1 ia).1];exact ia
 refine⟨w.heap.size+1,[{target:=.collected w.heap.size,args:=#[]}],d,{target:=.fn (.func gf) lb,args:=#[.func (.yield (w.heap.size+1)) #[] #[]]},d,gf,
  #[.func (.yield (w.heap.size+1)) #[] #[]]++lb,d,?_,?_,?_,?_,qa _,?_⟩
 ·rw[<-O,r];exact run_enterLoop_outer _ _ _ _ _
 ·simp only[resolve,Ca];simp[go_sem]
 ·intro Ra _;trivial
 ·simp[invoke,go_sem,ua]
 refine(oa (n-1)
  (fun s W=>I s W/\W.heap[w.heap.size+1]?=some (.loop (f .ready none))/\W.heap[w.heap.size]?=some (.deferred (some [])))
  (fun s W=>∃c,H c s W/\W.heap[w.heap.size+1]?=some (.loop (f .done (some c)))/\W.heap[w.heap.size]?=some (.deferred (some [])))
  d ga ea
  (fun s A B D hb=>⟨hI s A B D.1 (zd.new hb),N hb D.2.1,N hb D.2.2⟩)
  (fun s A D hb=>⟨Ma s A d D ga ea hb,N hb Ka,N hb ta⟩)
  (fun s A D Y=>La s A D.1 Y) ?_).mono ?_
 ·rintro m s W ⟨R,C,S⟩ Y
  have Qa:w.heap.size+1<W.heap.size:=(Vz.1 C).1;have ja:=run_yield (P:=P) (args:=(enc s)) C (by rw[r];exact Fa s);rw[r]at ja
  refine⟨fn,_,assign,body,ja,?_⟩
  obtain⟨L,Z⟩:∃L,L=U s W:=⟨_,rfl⟩;have X:Bw W L:=by rw[Z];exact na s W
  have ka:=N X C;have ma:=N X S;have Ja:w.heap.size+1<L.heap.size:=(Vz.1 ka).1;obtain⟨y,T⟩:∃y,L.putObj (w.heap.size+1) (.loop {f .ready none with state:=.busy})=y:=⟨_,rfl⟩;have aa:zd (fun b=>b=w.heap.size\/b=w.heap.size+1) L y:=by rw[<-T];exact(zd.refl _ _).putObj (.inr rfl) _
  have Da:y.heap[w.heap.size+1]?=some (.loop {f .ready none with state:=.busy}):=by rw[<-T];exact World.putObj_heap_same Ja
  have pa:y.heap[w.heap.size]?=some (.deferred (some [])):=by rw[<-T];exact(World.putObj_heap_other o_).trans ma
  have ha:RoundIn Fence.wide n P (w.heap.size+1) fn ((ps.zip (enc s)).foldl (fun t (p,v)=>t.setIfInBounds p v) a.tmps) assign body W fun e W' =>
    (e=vR (.bool true)/\(I (nx s) W'/\W'.heap[w.heap.size+1]?=some (.loop (f .ready none))/\W'.heap[w.heap.size]?=some (.deferred (some [])))) \/
    (e=vR (.bool false)/\(∃c,H c (nx s) W'/\W'.heap[w.heap.size+1]?=some (.loop (f .done (some c)))/\W'.heap[w.heap.size]?=some (.deferred (some [])))):=by
   refine roundIn_of_wpIn trivial (Ea _ s W _ ⟨y,by rw[<-T,<- Z];exact run_beginRound ka (by rw[r]),?_⟩)
   have sa:w.heap.size+2<=W.heap.size:=o_
   refine wpIn_mono (Ha _ s W y (hI _ _ _ (hI _ _ _ R (zd.new X)) aa) sa (by rw[<-Z];exact aa) Y) ?_
   have fin:∀(M:Option Code) (i:World),RK w.heap.size y i ->
     ∃u,(Instr.endRound (w.heap.size+1) M).run P i=.ok (.bool M.isNone) u/\zd (fun b=>b=w.heap.size\/b=w.heap.size+1) i u /\
     u.heap[w.heap.size+1]?=some (.loop (f (if M.isNone then .ready else .done) M))/\u.heap[w.heap.size]?=some (.deferred (some [])):=fun M i j=>by
    have la:i.heap[w.heap.size+1]?=some (.loop {f .ready none with state:=.busy}):=j.2.trans Da;have Na:i.heap[w.heap.size]?=some (.deferred (some [])):=j.1.trans pa;have q:=run_endRound (P:=P) M la
    refine⟨_,q,(zd.refl _ _).putObj (.inr rfl) _,?_,(World.putObj_heap_other o_).trans Na⟩
    rw[World.putObj_heap_same (Vz.1 la).1,r]
   rintro e Pa i hp
   cases e with
   |normal =>
    obtain⟨j,E⟩:=hp;obtain⟨u,q,F,z,G⟩:=fin none i j
    exact⟨_,_,q,.inl ⟨rfl,⟨hI _ _ _ E F,z,G⟩⟩⟩
   |ret =>
    obtain⟨j,E⟩:=hp;obtain⟨u,q,F,z,G⟩:=fin (some .ret) i j
    exact⟨_,_,q,.inr ⟨rfl,⟨.ret,hIx _ _ _ _ E F,z,G⟩⟩⟩
   |exit id =>
    obtain⟨j,E⟩:=hp;obtain⟨u,q,F,z,G⟩:=fin (some (.exit id)) i j
    exact⟨_,_,q,.inr ⟨rfl,⟨.exit id,hIx _ _ _ _ E F,z,G⟩⟩⟩
   |goto t =>
    obtain⟨j,E⟩:=hp;obtain⟨u,q,F,z,G⟩:=fin (some (.goto t)) i j
    exact⟨_,_,q,.inr ⟨rfl,⟨.goto t,hIx _ _ _ _ E F,z,G⟩⟩⟩
   |panic ch=>exact hp.elim
   |outgrown=>exact hp.elim
  exact⟨ha.1,fun c ra _=>ha.2 c ra (room_wide _)⟩
 ·rintro e Oa ⟨⟨v,rfl⟩,(⟨s,Ba,R,C,S⟩|⟨s,c,R,C,S⟩)⟩
  ·exact⟨none,_,by have:=run_endLoop (P:=P) C (by rw[r];simp);rw[r]at this;exact this,
    Aa _ _ Ba (hI _ _ _ R ((zd.refl _ _).putObj (.inr rfl) _)) ((World.putObj_heap_other o_).trans S)⟩
  ·exact⟨some c,_,by have:=run_endLoop (P:=P) C (by rw[r];simp);rw[r]at this;exact this,
    Ga c s _ (hIx _ _ _ _ R ((zd.refl _ _).putObj (.inr rfl) _)) ((World.putObj_heap_other o_).trans S)⟩
attribute [local go_sem] Oper.semAt_some
theorem lB(bt:Nat)(W:World):Calls prog 33 #[vP bt] W fun e w'=>e=vR (.func (.func 60) #[] #[vP W.heap.size])/\w'=W.alloc (.cells #[vP bt] 45):=by
 have a:∀(fn:Fn) (first cap:Array Value) (w:World),(Instr.makeFunc fn first cap).run prog w=.ok (.func fn first cap) w:=fun _ _ _ _=>rfl
 go_enter func33,ntmps33
 go_wp2
 go_ret
 exact⟨rfl,rfl⟩
def Frm (a z b:Nat):Prop:=(a<=b/\b<a+4)\/(z<=b/\b<z+5)
structure FB (a z:Nat) (bw bt br:Nat) (c:Array Value) (most:Nat) (d:Value) (A:World) (j:Nat):Prop where
 b0:zg A a 78 #[vP bw]
 b1:zg A (a+1) 128 #[vP bt,vP br]
 b2:zg A (a+1+1) 87 c
 b3:zg A (a+1+1+1) 3 #[vI most]
 k:zg A z 61 #[d]
 n:zg A (z+1) 3 #[vI j]
 o:zg A (z+1+1) 4 #[.bool true]
 lt:z+5<=A.heap.size
theorem FB.zf{a z bw bt br:Nat}{c:Array Value}{most:Nat}{d:Value}{A B:World}{j:Nat}(h:FB a z bw bt br c most d A j)(i:a+4<=z)(f:zd T A B)(g:∀b,T b->¬((a<=b/\b<a+4)\/(z<=b/\b<z+3))):FB a z bw bt br c most d B j :=
 ⟨h.b0.zf f (fun e=>g _ e (.inl o_)),h.b1.zf f (fun e=>g _ e (.inl o_)),h.b2.zf f (fun e=>g _ e (.inl o_)),h.b3.zf f (fun e=>g _ e (.inl o_)),h.k.zf f (fun e=>g _ e (.inr o_)),h.n.zf f (fun e=>g _ e (.inr o_)),h.o.zf f (fun e=>g _ e (.inr o_)),Nat.le_trans h.lt f.size⟩
theorem FB.below{a z bw bt br:Nat}{c:Array Value}{most:Nat}{d:Value}{A B:World}{j:Nat}(h:FB a z bw bt br c most d A j)(hb:Bw A B):FB a z bw bt br c most d B j :=
 ⟨h.b0.below hb h.b0.lt,h.b1.below hb h.b1.lt,h.b2.below hb h.b2.lt,h.b3.below hb h.b3.lt,h.k.below hb h.k.lt,h.n.below hb h.n.lt,h.o.below hb h.o.lt,Nat.le_trans h.lt hb.size⟩
section
variable {a z bw bt br:Nat}{c:Array Value}{most:Nat}{d:Value}{A B:World}{j:Nat}
theorem FB.frame(h:FB a z bw bt br c most d A j)(g:a+4<=z)(f:zd (fun b=>¬Frm a z b) A B):FB a z bw bt br c most d B j :=
 h.zf g f (fun b hb e=>hb (by unfold Frm;omega))
theorem FB.setO(h:FB a z bw bt br c most d A j)(f:a+4<=z):FB a z bw bt br c most d (A.setCell (vA (z+1+1) 0) (.bool true)) j:=by
 have e:zd (fun b=>b=z+1+1) A (A.setCell (vA (z+1+1) 0) (.bool true)):=(zd.refl (fun b=>b=z+1+1) _).setCell (p:=vA (z+1+1) 0) rfl _
 exact⟨h.b0.zf e o_,h.b1.zf e o_,h.b2.zf e o_,h.b3.zf e o_,h.k.zf e o_,h.n.zf e o_,by simpa using h.o.set 0 (.bool true),Nat.le_trans h.lt e.size⟩
theorem FB.setN(h:FB a z bw bt br c most d A j)(f:a+4<=z):FB a z bw bt br c most d (A.setCell (vA (z+1) 0) (vI ((j:Int)+1))) (j+1):=by
 have e:zd (fun b=>b=z+1) A (A.setCell (vA (z+1) 0) (vI ((j:Int)+1))):=(zd.refl (fun b=>b=z+1) _).setCell (p:=vA (z+1) 0) rfl _
 exact⟨h.b0.zf e o_,h.b1.zf e o_,h.b2.zf e o_,h.b3.zf e o_,h.k.zf e o_,by simpa using h.n.set 0 (vI ((j:Int)+1)),h.o.zf e o_,Nat.le_trans h.lt e.size⟩
end
theorem RK.zf{r:Nat}{A B:World}(h:RK r W A)(a:zd T A B)(d:r+1<A.heap.size)(b:¬T r)(c:¬T (r+1)):RK r W B :=
 ⟨(a.block r o_ b).trans h.1,(a.block (r+1) d c).trans h.2⟩
end
section
open Go.RowKit
variable {k f g:List Bs}{b br c cW cap go i j lo n n1 n2 s1 size:Nat}{Ws:List Wk}{T:Nat->Prop}{u D F:Value}{W a w:World}{xs:List Value}{e o C:TypeId}{ao:Option Addr}{st zo:Int}
def Vp:List Bs->List Bs->Bool
 | [],[]=>false
 | [],_::_=>true
 |_::_,[]=>false
 |a::k,b::l=>if a=b then Vp k l else Op.bytesLess a b
theorem a8:∀(p k l:List Bs),Vp (p++k) (p++l)=Vp k l
 | [],k,l=>rfl
 |a::p,k,l=>by simp only[List.cons_append,Vp,if_true];exact a8 p k l
theorem hU(p k l:List Bs){x y:Bs}(h:x≠y):Vp (p++x::k) (p++y::l)=Op.bytesLess x y:=by
 rw[a8];simp[Vp,h]
theorem jw{x:Bs}(h:k[i]?=some x):k=k.take i++x::k.drop (i+1):=by
 obtain⟨b,a⟩:=Uy.1 h;rw[<-a]
 simp
theorem qB{a b:List Bs}(ht:a.take i=b.take i){x y:Bs}(d:a[i]?=some x)(e:b[i]?=some y)(c:x≠y):Vp a b=Op.bytesLess x y:=by
 rw[jw d,jw e,ht];exact hU _ _ _ c
theorem gU{a b:List Bs}(ht:a.take i=b.take i)(g:i<=a.length)(j:i<=b.length)(h:i=a.length\/i=b.length):Vp a b=decide (a.length<b.length):=by
 have f:a=a.take i++a.drop i:=(List.take_append_drop i a).symm;have hb:b=a.take i++b.drop i:=by rw[ht];exact(List.take_append_drop i b).symm
 have d:(a.drop i).length=a.length-i:=List.length_drop;have lb:(b.drop i).length=b.length-i:=List.length_drop;rw[f,hb,a8,List.length_append,List.length_append]
 cases e:a.drop i with
 |nil =>
  cases c:b.drop i with
  |nil=>simp[Vp]
  |cons y m=>simp[Vp]
 |cons x k =>
  cases c:b.drop i with
  |nil=>simp[Vp]
  |cons y m =>
   rw[e]at d;rw[c]at lb
   simp at d lb
   omega
theorem k9(x y:Bs):Op.bytesLess (sb x).toList (sb y).toList=Op.bytesLess x y:=by rw[V4,V4,UO,UO]
theorem qC(L:UL f=true)(hb:UL g=true)(O:f.length<=4)(lb:g.length<=4)(w:World):
  Calls prog 205 #[vG (sb (kN f)),vG (sb (kN g))] w fun e w'=>e=vR (.bool (Vp f g))/\Bw w w':=by
 have v:∀(k:List Bs),UL k=true->k.length<=4->∀W,Calls prog 113 #[vG (sb (kN k))] W fun e w'=>(∃ao cap,e=vT #[.slice ao k.length cap,.bool true]/\NRow w' k ao cap)/\Bw W w':=fun k A ca W=>by
  have M:s4 (bl (sb (kN k)))=k:=by rw[UO];exact Zn A
  have:=Yx (sb (kN k)) (by rw[Wq];have:=XY _ A;omega) (by rw[VY,M];exact A) W
  rw[M]at this
  exact this
 have u:=v f L O;have H:=v g hb lb;clear v;obtain⟨b,B⟩:∃n,n=f.length:=⟨_,rfl⟩;obtain⟨d,t⟩:∃n,n=g.length:=⟨_,rfl⟩;rw[<-B]at u O;rw[<-t]at H lb;have a:Hid (b=f.length/\d=g.length):=⟨B,t⟩;generalize sb (kN f)=ea at *;generalize sb (kN g)=ga at *;clear B t L hb
 go_enter func205,ntmps205
 go_wp2_with (first
  |(go_at_call 113;refine(u _).mono ?_;clear u;rintro e ha ⟨⟨a1,c1,rfl,c⟩,R⟩)
  |(go_at_call 113;refine(H _).mono ?_;rintro e P ⟨⟨a2,c2,rfl,h⟩,F⟩;have S:=s5 R F;have c:=c.below F))
 go_loopw [9] (fun i wr=>∃k:Nat,k<=b/\k<=d/\i=vI k/\f.take k=g.take k/\Bw P wr) (fun i _=>b-(intOf i).toNat)
 case atStart=>exact⟨0,Nat.zero_le _,Nat.zero_le _,rfl,rfl,Below.refl _ _⟩
 case round =>
  obtain⟨k,I,G,rfl,ht,z⟩:=hrel;have E:=s5 S z;have c:=c.below z;have h:=h.below z;have j:Hid (f.take k=g.take k):=ht;clear ht
  by_cases J:k<b
  ·by_cases K:k<d
   ·obtain⟨x,m⟩:∃x,f[k]?=some x:=⟨_,Ur (by rw[<-a.out.1];exact J)⟩;obtain⟨y,p⟩:∃y,g[k]?=some y:=⟨_,Ur (by rw[<-a.out.2];exact K)⟩;obtain⟨g1,rfl,l1,da⟩:=c.cell k x m;obtain⟨g2,rfl,l2,q2⟩:=h.cell k y p;have o:=c.le;have C:=c.mx;have T:=h.le;have ba:=h.mx;rw[<-a.out.1]at o;rw[<-a.out.2]at T;have i1:(k:Int)<b:=o_;have i2:(k:Int)<d:=o_;have i0:(0:Int)<=k:=o_;have N:((sb x).toList == (sb y).toList)=decide (x=y):=by rw[YM,UO,UO]
    have aa:=k9 x y;have s:Hid (x≠y->Vp f g=Op.bytesLess x y):=fun Q=>qB j.out m p Q
    have D:Hid (x=y->f.take (k+1)=g.take (k+1)):=fun U=>by
     have V:=VT (l:=f) (i:=k) (by rw[<-a.out.1];exact J);have X:=VT (l:=g) (i:=k) (by rw[<-a.out.2];exact K);have Y:=(Uy.1 m).2;have Z:=(Uy.1 p).2;rw[V,X,j.out,Y,Z,U]
    clear c h m p
    by_cases hxy:x=y
    ·have hd:decide (x=y)=true:=decide_eq_true hxy;have q:Hid (x=y):=hxy;clear hxy s;rw[hd]at N
     go_wp2
     go_quiet (fail)
     go_wp2
     go_round
     case rel=>exact⟨k+1,o_,o_,by go_num,D.out q.out,cl⟩
     case measure=>simp[intOf];omega
    ·have hd:decide (x=y)=false:=decide_eq_false hxy;have q:Hid (Vp f g=Op.bytesLess x y):=s.out hxy;clear hxy s D;rw[hd]at N
     go_wp2
     go_quiet (fail)
     go_wp2
     go_quiet (fail)
     go_wp2
     go_ret
     exact⟨VP (by rw[q.out]),cl⟩
   ·have r:Hid (Vp f g=decide (b<d)):=by
     show _=_
     rw[a.out.1,a.out.2]
     exact gU j.out (by rw[<-a.out.1];exact I) (by rw[<-a.out.2];exact G) (.inr (by rw[<-a.out.2];omega))
    have i1:(k:Int)<b:=o_;have i2:¬((k:Int)<d):=o_
    go_wp2
    go_ret
    exact⟨VP (by rw[r.out]),E⟩
  ·have r:Hid (Vp f g=decide (b<d)):=by
    show _=_
    rw[a.out.1,a.out.2]
    exact gU j.out (by rw[<-a.out.1];exact I) (by rw[<-a.out.2];exact G) (.inl (by rw[<-a.out.1];omega))
   have i1:¬((k:Int)<b):=o_
   go_wp2
   go_ret
   exact⟨VP (by rw[r.out]),E⟩
def Xg (L:List zx)(i:Nat):List Bs:=match L[i]? with|some e=>e.zb|none=>[]
def V0 (L:List zx)(i j:Nat):Bool:=Vp (Xg L j) (Xg L i)
def insO (L:List zx)(a:List Nat)(i:Nat):List Nat:=a.takeWhile (V0 L i)++i::a.dropWhile (V0 L i)
def VM (L:List zx)(k:Nat):List Nat:=(List.range k).foldl (insO L) []
theorem a5(L:List zx)(k:Nat):VM L (k+1)=insO L (VM L k) k:=by
 unfold VM;rw[List.range_succ,List.foldl_append];rfl
theorem ri(L:List zx)(a:List Nat)(i:Nat):(insO L a i).Perm (i::a):=by
 unfold insO
 have:=List.takeWhile_append_dropWhile (p:=V0 L i) (l:=a)
 conv=>rhs;rw[<-this]
 exact List.perm_middle
theorem a4(L:List zx):∀k,(VM L k).Perm (List.range k)
 |0=>by simp[VM]
 |k+1=>by
  rw[a5,List.range_succ]
  exact(ri L _ k).trans (((a4 L k).cons k).trans (List.perm_append_singleton k _).symm)
theorem dD(L:List zx)(k:Nat):(VM L k).length=k:=by rw[(a4 L k).length_eq];simp
theorem bL{L:List zx}{k:Nat}(h:j∈VM L k):j<k:=by simpa using (a4 L k).subset h
theorem dG{p:Nat->Bool}:∀(l:List Nat) (m:Nat),m<=l.length->(∀x∈l.take m,p x=true)->(m=l.length\/∃x,l[m]?=some x/\p x=false)->l.takeWhile p=l.take m/\l.dropWhile p=l.drop m
 |l,0,_,_,h=>by
  cases l with
  |nil=>simp
  |cons a l =>
   rcases h with h|⟨x,b,c⟩
   ·simp at h
   ·simp at b;subst b;simp[c]
 | [],m+1,d,_,_=>by simp at d
 |a::l,m+1,d,e,h=>by
  have hp:p a=true:=e a s_
  have:=dG (p:=p) l m (j_ d) (fun x f=>e x (by simp[f])) (by
   rcases h with h|⟨x,b,c⟩
   ·exact .inl (j_ h)
   ·exact .inr ⟨x,by simpa using b,c⟩)
  simp[hp,this.1,this.2]
def xk (L:List zx)(l:List Nat):List zx:=l.filterMap fun i=>L[i]?
theorem rF{L:List zx}{l:List Nat}{x:zx}(a:l[j]?=some i)(c:L[i]?=some x):xk L (l.take (j+1))=xk L (l.take j)++[x]:=by
 have b:=(Uy.1 a).1;unfold xk;rw[VT b,List.filterMap_append];rw[Ur b]at a
 cases a
 simp[c]
theorem iY{L:List zx}:∀(l:List Nat),(∀i∈l,i<L.length)->(xk L l).length=l.length
 | [],_=>rfl
 |a::l,h=>by
  have b:a<L.length:=h a s_
  have:=iY l (fun i c=>h i (by simp[c]))
  simp[xk,Ur b]at this ⊢
  exact this
def dCs (L:List zx)(Ws:List Wk)(x:zx)(v:Value):List Value:=(WU (kN x.zb) x.zj (xj (Uz L (kN x.zb))) (xi (Uz L (kN x.zb))) x.b0 x.b1 (yf (Ut Ws (kN x.zb))) (yg (Ut Ws (kN x.zb))) v).toList
def W_ (L:List zx)(Ws:List Wk)(xs:List zx)(vs:List Value):List Value:=(List.zipWith (dCs L Ws) xs vs).flatten
def DolN (Ws:List Wk)(A:World)(lo:Nat)(xs:List zx)(vs:List Value):Prop :=
 vs.length=xs.length/\∀(i:Nat) (x:zx) (u:Value),xs[i]?=some x->vs[i]?=some u->A.ownsRow 0 3 1 u (UR Ws x.zb Ws.length).length (WJ (UR Ws x.zb Ws.length))/\(∀b,u.ownBlock=some b->lo<=b)
theorem DolN.zf{xs:List zx}{vs:List Value}{A B:World}(h:DolN Ws A lo xs vs)(e:zd T A B)(d:∀b,lo<=b->b<A.heap.size->¬T b):DolN Ws B lo xs vs :=
 ⟨h.1,fun i n u a c=>⟨s8 (h.2 i n u a c).1 e (fun b hb=>d b ((h.2 i n u a c).2 b hb) (UI (h.2 i n u a c).1 hb)),(h.2 i n u a c).2⟩⟩
theorem n4{L:List zx}{xs:List zx}{vs:List Value}(a:vs.length=xs.length)(x:zx)(u:Value):W_ L Ws (xs++[x]) (vs++[u])=W_ L Ws xs vs++dCs L Ws x u:=by
 unfold W_;rw[List.zipWith_append a.symm]
 simp
theorem DolN.snoc{A:World}{xs:List zx}{vs:List Value}(h:DolN Ws A lo xs vs){x:zx}(f:A.ownsRow 0 3 1 u (UR Ws x.zb Ws.length).length (WJ (UR Ws x.zb Ws.length)))(e:∀b,u.ownBlock=some b->lo<=b):DolN Ws A lo (xs++[x]) (vs++[u]):=by
 refine⟨by simp[h.1],fun i y v a c=>?_⟩
 by_cases d:i<xs.length
 ·rw[Wu d]at a;rw[Wu (by rw[h.1];exact d)]at c
  exact h.2 i y v a c
 ·rw[Wp o_]at a;rw[Wp (by rw[h.1];omega),h.1]at c;generalize i-xs.length=q at a c
  cases q with
  |zero=>simp at a c;subst a c;exact⟨f,e⟩
  |succ q=>simp at a
theorem ji(l:List Nat):∀u∈wa l,u.oneCell'=true:=fun u a=>by
 unfold wa at a;obtain⟨i,_,rfl⟩:=UC.1 a
 rfl
theorem ins3{k m:Nat}(ea:xs.length=k)(O:∀u∈xs,u.oneCell'=true)(ca:k<=1000)(M:m<=k)(ga:k<=c)(da:c<=maxLen)(N:a.ownsRow 0 3 1 (vS go k c) k xs)(v:Value)(U:v.oneCell'=true):
  ∃q t,(∀B,(Builtin.append_ #[25,25] B #[v0_,vS go m c]).run prog a=.ok q t)/\∃a1 x,q=.slice a1 m x/\Bw a t /\
   ∀E W,zg W E 3 #[v]->Bw t W->∃q r,(∀B,(Builtin.append_ #[25,25] B #[.slice a1 m x,vS E 1 1]).run prog W=.ok q r)/\∃a2 q2,q=.slice a2 (m+1) q2/\Bw a r /\
    ∀(H:Option Addr) (c2:Nat),(0<k-m->H=some (vA go m))->∃q z,(∀B,(Builtin.append_ #[25,25] B #[.slice a2 (m+1) q2,.slice H (k-m) c2]).run prog r=.ok q z)/\∃g3 y,q=vS g3 (k+1) y/\k+1<=y/\y<=maxLen/\Bw a z/\z.ownsRow 0 3 1 (vS g3 (k+1) y) (k+1) (xs.take m++[v]++xs.drop m)/\a.heap.size<=g3:=by
 have hgo:go<a.heap.size:=UI N rfl;have J:∀(W:World),Bw a W->∀j u,xs[j]?=some u->W.cell? (vA go j)=some u:=fun W G j u d=>by
  have:=N.cells (g:=go) rfl j u d
  rw[Addr.add_lit,Nat.zero_add]at this
  exact(G.cell (p:=vA go j) hgo).trans this
 obtain⟨D,t,K,a1,x,rfl,w⟩:=XN un29 inf3 o_ a none 0 0 (Nat.le_refl _) (Nat.zero_le _) [] (Vx _ _ _ _) (some (vA go 0)) m c (xs.take m) t_ (fun _=>⟨_,rfl,fun j u d=>by
  rw[Addr.add_lit,Nat.zero_add]
  refine J _ (Below.refl _ _) j u ?_
  rw[List.getElem?_take]at d
  split at d
  ·exact d
  ·cases d⟩) (fun u d=>O u (List.mem_of_mem_take d)) (by unfold maxLen;omega) o_
 simp only[Nat.zero_add,List.nil_append]at w K;have I:Bw a t:=a9 w;have n1:∀b,(Value.slice a1 m x).ownBlock=some b->a.heap.size<=b:=fun b hb=>by
  rcases w.new b hb with e|e
  ·simp[Value.ownBlock]at e
  ·exact e
 refine⟨_,t,K,a1,x,s_,I,fun E W P G=>?_⟩
 obtain⟨F,r,V,a2,q2,rfl,f⟩:=XN un29 inf3 o_ W a1 m x w.le w.mx _ (s8 (T:=fun _=>False) w.own (zd.new G) (fun _ _ h=>h)) (some (vA E 0)) 1 1 [v] rfl (fun _=>⟨_,rfl,fun j u d=>by rw[Addr.add_lit,Nat.zero_add,P.cell];simpa using d⟩) (fun u d=>by simp at d;subst d;exact U) (by unfold maxLen;omega) o_;have s:=I.trans (G.mono I.size);have n:Bw a r:=⟨f.zf.os.trans s.os,f.zf.tape.trans s.tape,f.zf.output.trans s.output,Nat.le_trans s.size f.zf.size,fun i A=>(f.zf.block i (VJ A s.size) (fun e=>by have:=n1 i e;omega)).trans (s.block i A)⟩;have n2:∀b,(Value.slice a2 (m+1) q2).ownBlock=some b->a.heap.size<=b:=fun b hb=>by
  rcases f.new b hb with e|e
  ·exact n1 b e
  ·have:=s.size;omega
 refine⟨_,r,V,a2,q2,rfl,n,fun H c2 X=>?_⟩
 obtain⟨v3,z,L,aa,y,rfl,l⟩:=XN un29 inf3 o_ r a2 (m+1) q2 f.le f.mx _ f.own H (k-m) c2 (xs.drop m) t_ (fun M=>⟨_,X M,fun j u d=>by
  rw[List.getElem?_drop]at d;rw[Addr.add_lit]
  exact J r n _ u d⟩) (fun u d=>O u (List.mem_of_mem_drop d)) (by unfold maxLen;omega) o_
 have o:m+1+(k-m)=k+1:=o_;rw[o]at l L;have Y:Bw a z:=⟨l.zf.os.trans n.os,l.zf.tape.trans n.tape,l.zf.output.trans n.output,Nat.le_trans n.size l.zf.size,fun i A=>(l.zf.block i (VJ A n.size) (fun e=>by have:=n2 i e;omega)).trans (n.block i A)⟩;obtain⟨g3,ba,Z,R,S⟩:=VX l.own o_;injection Z with C _ Q;subst C Q
 refine⟨_,z,L,g3,y,rfl,R,S,Y,l.own,?_⟩
 rcases l.new g3 rfl with e|e
 ·exact n2 _ e
 ·have:=n.size;omega
theorem rk{sl:Value}(h:W.ownsRow 0 e size sl n xs):∃a c,sl=.slice a n c:=by
 rcases h.2 with ⟨rfl,b⟩|⟨g,cap,d,rfl,_⟩
 ·exact⟨none,0,by rw[b]⟩
 ·exact⟨_,_,rfl⟩
theorem ei{s2:Nat}{i j:List Value}(f:o≠C)(d:W.ownsRow 0 o s1 D n1 i)(e:W.ownsRow 0 C s2 F n2 j)(hb:D.ownBlock=some b):F.ownBlock≠some b:=fun c=>by
 rcases d.2 with ⟨rfl,_⟩|⟨g,cap,l,rfl,_,h,_⟩
 ·simp[Value.ownBlock]at hb
 ·rcases e.2 with ⟨rfl,_⟩|⟨g',cap',k,rfl,_,a,_⟩
  ·simp[Value.ownBlock]at c
  ·simp[Value.ownBlock]at hb c
   subst hb c;rw[h]at a;injection a with a;injection a with _ a _
   exact f a
theorem kD{g:Nat}{L:List zx}(h:zy w br g cap L ao cW Ws zo st)(E:ym L)(Pb:xm Ws):
  Calls prog 165 #[vP br] w fun e w'=>∃v vs,e=vR v/\w'.ownsRow 0 37 9 v L.length (W_ L Ws (xk L (VM L L.length)) vs)/\DolN Ws w' w.heap.size (xk L (VM L L.length)) vs/\Bw w w'/\(∀b,v.ownBlock=some b->w.heap.size<=b):=by
 have Ab:=h.Wf;have Ya:g<w.heap.size:=(h.ref.row.lt g rfl).2;have vc:=h.ref.WQ;have tc:=E.len;obtain⟨n,La⟩:∃n,n=L.length:=⟨_,rfl⟩;have wc:w.cell? (vA br 0)=some (vS g n cap):=by have:=h.ref.zl.cell 0;rw[La];simpa using this
 rw[<-La]at vc tc ⊢;have Sa:Hid (n=L.length):=La;clear La;have Ba:∀(i:Nat) x,L[i]?=some x->w.cell? (vA g (i*6))=some (vG (sb (kN x.zb))):=fun i x s=>by have:=h.ref.zq s (j:=0) rfl;simpa using this
 have Ma:∀(i j:Nat) x y,L[i]?=some x->L[j]?=some y->∀W,Calls prog 205 #[vG (sb (kN y.zb)),vG (sb (kN x.zb))] W fun e w'=>e=vR (.bool (V0 L i j))/\Bw W w':=fun i j x y s l W=>by
  have A:=E.ok x (Uq s);have S:=E.ok y (Uq l)
  have:=qC S.1 A.1 S.2 A.2 W
  have e:V0 L i j=Vp y.zb x.zb:=by unfold V0 Xg;rw[s,l]
  rw[e];exact this
 have Db:=fun W (Dc:Bw w W) i x s=>jy (h.below Dc) E Pb i x s
 clear h E
 go_enter func165,ntmps165
 go_wp2
 go_loopw [3,4] (fun sl i wr=>∃(k:Nat) (a:Option Addr) (c:Nat),k<=n/\i=vI k/\sl=.slice a k c/\k<=c/\c<=maxLen/\Bw w wr/\wr.ownsRow 0 3 1 (.slice a k c) k (wa (VM L k))/\(∀b,(Value.slice a k c).ownBlock=some b->w.heap.size<=b)/\((k=0/\a=none/\c=0)\/(0<k/\∃go,a=some (vA go 0)))) (fun _ i _=>n-(intOf i).toNat)
 case atStart=>exact⟨0,none,0,Nat.zero_le _,rfl,rfl,Nat.le_refl _,Nat.zero_le _,Below.refl _ _,Vx _ _ _ _,(fun b hb=>by simp[Value.ownBlock]at hb),.inl ⟨rfl,rfl,rfl⟩⟩
 case round =>
  obtain⟨k,a,c,Ad,rfl,rfl,mb,cb,t,r,Xa,Cb⟩:=hrel;obtain⟨f,nc⟩:∃f,f=wr:=⟨_,rfl⟩;subst nc;have ab:=(t.cell (p:=vA br 0) Ab).trans wc
  by_cases Ia:k<n
  ·obtain⟨x,ka⟩:∃x,L[k]?=some x:=⟨_,Ur (by rw[<-Sa.out];exact Ia)⟩;have Cd:(k:Int)<n:=o_;have td:(0:Int)<=k:=o_
   rcases Cb with ⟨rfl,rfl,rfl⟩|⟨sd,go,rfl⟩
   ·-- the first
    have yb:∀aa W,zg W aa 3 #[vI 0]->∃U B,(∀Q,(Builtin.append_ #[25,25] Q #[v0_,vS aa 1 1]).run prog W=.ok U B)/\∃a2 q2,U=.slice a2 1 q2/\vn W v0_.ownBlock 3 1 1 (wa (VM L 1)) a2 q2 B:=fun aa W Lb=>by
     have:=XN un29 inf3 o_ W none 0 0 (Nat.le_refl _) (Nat.zero_le _) [] (Vx _ _ _ _) (some (vA aa 0)) 1 1 [vI 0] rfl (fun _=>⟨_,rfl,fun j u ca=>by rw[Addr.add_lit,Nat.zero_add,Lb.cell];simpa using ca⟩) (fun u ca=>by simp at ca;subst ca;rfl) (by unfold maxLen;omega) o_
     exact this
    have qb:∀W,∃U B,(∀Q,(Builtin.append_ #[25,25] Q #[v0_,v0_]).run prog W=.ok U B)/\(U=v0_/\B=W):=fun W=>⟨_,W,fun Q=>bS un29 inf3 W none 0 0 (Nat.le_refl _) none 0 Q,rfl,rfl⟩
    have cc:∀W a2 q2,1<=q2->∃U B,(∀Q,(Builtin.append_ #[25,25] Q #[.slice a2 1 q2,v0_]).run prog W=.ok U B)/\(U=.slice a2 1 q2/\B=W):=fun W a2 q2 hq=>⟨_,W,fun Q=>bS un29 inf3 W a2 1 q2 hq none 0 Q,rfl,rfl⟩
    clear r Xa;have qc:=t.size
    go_wp2
    go_loopw [5] (fun i wr=>i=vI 0/\wr=f) (fun _ _=>0)
    case atStart=>exact⟨rfl,rfl⟩
    case round =>
     obtain⟨rfl,rfl⟩:=hrel
     go_wp2_with (first
      |(at_builtin;refine Vk r_ _ _ _ _ rfl _ _ rfl r_ (qb _) ?_;clear qb;rintro D Jb ⟨rfl,rfl⟩)
      |(at_builtin;refine Vk r_ _ _ _ _ rfl _ _ rfl r_ (yb _ _ s6) ?_;clear yb;rintro F B ⟨a2,q2,rfl,qa⟩;have hq:=qa.le)
      |(at_builtin;refine Vk r_ _ _ _ _ rfl _ _ rfl r_ (cc _ _ _ hq) ?_;rintro v3 Ea ⟨rfl,rfl⟩))
     have Hc:Bw w Ea:=s5 cl (a9 qa);obtain⟨g3,G,Xc,A,S⟩:=VX qa.own o_;injection Xc with C _ Ac;subst C Ac
     go_round
     case rel=>exact⟨1,some (vA g3 0),q2,o_,by go_num,rfl,A,S,Hc,qa.own,(fun b hb=>by have:=t.size;rcases qa.new b hb with e|e;(simp[Value.ownBlock]at e);(simp at e;omega)),.inr ⟨o_,g3,rfl⟩⟩
     case measure=>simp[intOf];omega
   ·obtain⟨d,N⟩:∃d,d=VM L k:=⟨_,rfl⟩;have ma:d.length=k:=by rw[N];exact dD L k
    rw[<-N]at r;have la:Hid (d=VM L k):=N;have P:Hid (d.length=k):=ma;have hgo:go<f.heap.size:=UI r rfl;have ia:∀(m j:Nat),d[m]?=some j->f.cell? (vA go m)=some (vI j):=fun m j l=>by
     have:=r.cells (g:=go) rfl m (vI j) (by unfold wa;rw[VB,l];rfl)
     rwa[Addr.add_lit,Nat.zero_add]at this
    have Ga:=(t.cell (p:=vA g (k*6)) Ya).trans (Ba k x ka);clear N ma Xa
    go_wp2
    go_loopw [5] (fun i wr=>∃m:Nat,m<=k/\i=vI m/\(∀j∈d.take m,V0 L k j=true)/\Bw f wr) (fun i _=>k-(intOf i).toNat)
    case atStart=>exact⟨0,Nat.zero_le _,rfl,(fun j l=>by simp at l),Below.refl _ _⟩
    case round =>
     obtain⟨m,Bd,rfl,rb,H⟩:=hrel;have sa:Hid (∀j∈d.take m,V0 L k j=true):=rb;clear rb
     by_cases hml:m<k
     ·obtain⟨j,l⟩:∃j,d[m]?=some j:=⟨_,Ur (by rw[P.out];exact hml)⟩;have kd:j<k:=bL (L:=L) (by rw[<-la.out];exact Uq l);obtain⟨y,bb⟩:∃y,L[j]?=some y:=⟨_,Ur (by rw[<-Sa.out];omega)⟩;have kb:=Ma k j x y ka bb;have jb:=(t.cell (p:=vA g (j*6)) Ya).trans (Ba j y bb);have Na:g<f.heap.size:=VJ Ya t.size;have Kb:br<f.heap.size:=VJ Ab t.size;have o1:=ia m j l;have Tc:=(H.cell (p:=vA br 0) Kb).trans ab;have Uc:=(H.cell (p:=vA go m) hgo).trans o1;have Vc:=(H.cell (p:=vA g (j*6)) Na).trans jb;have Wc:=(H.cell (p:=vA g (k*6)) Na).trans Ga;have gd:(m:Int)<k:=o_;have jd:(0:Int)<=m:=o_;have Tb:(j:Int)<n:=o_;have Nb:(0:Int)<=j:=o_;have ib:Hid (V0 L k j=false->m=d.length\/∃x,d[m]?=some x/\V0 L k x=false):=fun e=>.inr ⟨j,l,e⟩
      have Qa:Hid (V0 L k j=true->∀i∈d.take (m+1),V0 L k i=true):=fun e i s=>by
       have vb:=(Uy.1 l).1;rw[VT vb]at s
       rcases UU.1 s with o|o
       ·exact sa.out i o
       ·simp at o;rw[Ur vb]at l;cases l;rw[o];exact e
      clear l bb;generalize V0 L k j=Bb at kb ib Qa
      go_upto_region 7 with fail
      go_cut [6] from 24 to 43 (fun q cd=>q=.bool Bb/\Bw f cd)
      case first =>
       go_region_held3 (fun w'=>w'.cell? (vA br 0)=some (vS g n cap)/\w'.cell? (vA go m)=some (vI j)/\w'.cell? (vA g (j*6))=some (vG (sb (kN y.zb)))/\w'.cell? (vA g (k*6))=some (vG (sb (kN x.zb)))) (go_keep)
        (first
        |(go_at_call 205;refine(kb _).mono ?_;rintro e Zc ⟨rfl,mc⟩;have Ja:Bw f Zc:=s5 cl mc;have s0:=(Ja.cell (p:=vA br 0) Kb).trans ab;have s1:=(Ja.cell (p:=vA go m) hgo).trans o1;have s2:=(Ja.cell (p:=vA g (j*6)) Na).trans jb;have Ed:=(Ja.cell (p:=vA g (k*6)) Na).trans Ga))
       all_goals go_wp2_with fail
       all_goals go_meet
       all_goals exact⟨rfl,cl⟩
      case rest =>
       obtain⟨rfl,pb⟩:=hcut;clear H Tc Uc Vc Wc o1 jb kb
       cases Bb
       ·have ta:Hid (m=d.length\/∃x,d[m]?=some x/\V0 L k x=false):=ib.out rfl;clear ib Qa;have H:=pb;clear pb;clear ia Ma Ba Ga;have Y:=dG (p:=V0 L k) d m (by rw[P.out];omega) sa.out ta.out;have Aa:Hid (wa (VM L (k+1))=(wa d).take m++[vI k]++(wa d).drop m):=by
         show _=_
         rw[a5];unfold insO;rw[<-la.out,Y.1,Y.2]
         simp[wa,List.map_take,List.map_drop]
        have pa:=s8 (T:=fun _=>False) r (zd.new H) (fun _ _ h=>h);have ua:=ins3 (m:=m) (by rw[<-P.out];simp[wa]) (ji d) o_ o_ mb cb pa (vI k) rfl;have O:Hid (Bw w wc):=s5 t H;clear Y pa r sa ta;have Ub:(m:Int)<=c:=o_;have Vb:(m:Int)<=k:=o_;have Qc:(0:Int)<=m:=o_
        go_upto_region 12 with (at_builtin;refine Vk r_ _ _ _ _ rfl _ _ rfl r_ ua ?_;rintro D Jb ⟨a1,Rc,rfl,kc,Z⟩)
        clear ua
        go_upto_region 13 with (at_builtin;refine Vk r_ _ _ _ _ rfl _ _ rfl r_ (Z _ _ s6 cl) ?_;rintro F B ⟨a2,q2,rfl,Fc,M⟩)
        clear Z
        by_cases eb:m=c
        ·have nb:k-m=0:=o_;have I:=M (some (vA go 0)) 0 (fun h=>by omega);subst eb;rw[nb]at I;clear M
         go_wp2_with (at_builtin;refine Vk r_ _ _ _ _ rfl _ _ rfl r_ I ?_;rintro v3 Ea ⟨g3,ea,rfl,ga,ha,da,V,Ua⟩)
         go_round
         case rel=>exact⟨k+1,some (vA g3 0),ea,o_,by go_num,rfl,ga,ha,s5 O.out da,by rw[Aa.out];exact V,(fun b hb=>by have:=O.out.size;simp[Value.ownBlock]at hb;omega),.inr ⟨o_,g3,rfl⟩⟩
         case measure=>simp[intOf];omega
        ·have Oc:¬((m:Int)=c):=o_;have I:=M (some (vA go m)) (c-m) (fun _=>rfl);clear M
         go_wp2_with (at_builtin;refine Vk r_ _ _ _ _ rfl _ _ rfl r_ I ?_;rintro v3 Ea ⟨g3,ea,rfl,ga,ha,da,V,Ua⟩)
         go_round
         case rel=>exact⟨k+1,some (vA g3 0),ea,o_,by go_num,rfl,ga,ha,s5 O.out da,by rw[Aa.out];exact V,(fun b hb=>by have:=O.out.size;simp[Value.ownBlock]at hb;omega),.inr ⟨o_,g3,rfl⟩⟩
         case measure=>simp[intOf];omega
       ·go_wp2
        go_round
        case rel=>exact⟨m+1,o_,by go_num,Qa.out rfl,cl⟩
        case measure=>simp[intOf];omega
     ·have Bc:k=m:=o_;subst Bc;have ta:Hid (k=d.length\/∃x,d[k]?=some x/\V0 L k x=false):=.inl P.out.symm;clear ia Ma Ba Ga;have Y:=dG (p:=V0 L k) d k (by rw[P.out];omega) sa.out ta.out;have Aa:Hid (wa (VM L (k+1))=(wa d).take k++[vI k]++(wa d).drop k):=by
       show _=_
       rw[a5];unfold insO;rw[<-la.out,Y.1,Y.2]
       simp[wa,List.map_take,List.map_drop]
      have pa:=s8 (T:=fun _=>False) r (zd.new H) (fun _ _ h=>h);have ua:=ins3 (m:=k) (by rw[<-P.out];simp[wa]) (ji d) o_ o_ mb cb pa (vI k) rfl;have O:Hid (Bw w wr):=s5 t H;clear Y pa r sa ta;have Ub:(k:Int)<=c:=o_;have Vb:(k:Int)<=k:=o_;have Qc:(0:Int)<=k:=o_
      go_upto_region 12 with (at_builtin;refine Vk r_ _ _ _ _ rfl _ _ rfl r_ ua ?_;rintro D Jb ⟨a1,Rc,rfl,kc,Z⟩)
      clear ua
      go_upto_region 13 with (at_builtin;refine Vk r_ _ _ _ _ rfl _ _ rfl r_ (Z _ _ s6 cl) ?_;rintro F B ⟨a2,q2,rfl,Fc,M⟩)
      clear Z
      by_cases eb:k=c
      ·have nb:k-k=0:=o_;have I:=M (some (vA go 0)) 0 (fun h=>by omega);subst eb;rw[nb]at I;clear M
       go_wp2_with (at_builtin;refine Vk r_ _ _ _ _ rfl _ _ rfl r_ I ?_;rintro v3 Ea ⟨g3,ea,rfl,ga,ha,da,V,Ua⟩)
       go_round
       case rel=>exact⟨k+1,some (vA g3 0),ea,o_,by go_num,rfl,ga,ha,s5 O.out da,by rw[Aa.out];exact V,(fun b hb=>by have:=O.out.size;simp[Value.ownBlock]at hb;omega),.inr ⟨o_,g3,rfl⟩⟩
       case measure=>simp[intOf];omega
      ·have Oc:¬((k:Int)=c):=o_;have I:=M (some (vA go k)) (c-k) (fun _=>rfl);rw[Nat.sub_self]at I;clear M
       go_wp2_with (at_builtin;refine Vk r_ _ _ _ _ rfl _ _ rfl r_ I ?_;rintro v3 Ea ⟨g3,ea,rfl,ga,ha,da,V,Ua⟩)
       go_round
       case rel=>exact⟨k+1,some (vA g3 0),ea,o_,by go_num,rfl,ga,ha,s5 O.out da,by rw[Aa.out];exact V,(fun b hb=>by have:=O.out.size;simp[Value.ownBlock]at hb;omega),.inr ⟨o_,g3,rfl⟩⟩
       case measure=>simp[intOf];omega
  ·have Ic:n=k:=o_;subst Ic;clear Cb Ma Ba Ia mb cb;obtain⟨d,N⟩:∃d,d=VM L n:=⟨_,rfl⟩;have ma:d.length=n:=by rw[N];exact dD L n
   rw[<-N]at r;have la:Hid (d=VM L n):=N;have P:Hid (d.length=n):=ma;have Dd:=Y1 r;have ia:∀(m j:Nat),d[m]?=some j->∃go,a=some (vA go 0)/\go<f.heap.size/\f.cell? (vA go m)=some (vI j):=fun m j l=>by
    obtain⟨go,qd,Ec,_,_⟩:=VX r (h_ ((Uy.1 l).1));injection Ec with o _ _;subst o
    have:=r.cells (g:=go) rfl m (vI j) (by unfold wa;rw[VB,l];rfl)
    rw[Addr.add_lit,Nat.zero_add]at this
    exact⟨go,rfl,UI r rfl,this⟩
   clear N ma Xa r;have qc:=t.size
   go_wp2
   clear ab
   go_loopw [8,9] (fun sl i wr=>∃(j:Nat) (X:Option Addr) (G:Nat) (vs:List Value),j<=n/\i=vI j/\sl=.slice X j G/\j<=G/\G<=maxLen/\Bw f wr/\wr.ownsRow 0 37 9 (.slice X j G) j (W_ L Ws (xk L (d.take j)) vs)/\DolN Ws wr w.heap.size (xk L (d.take j)) vs/\(∀b,(Value.slice X j G).ownBlock=some b->f.heap.size<=b)) (fun _ i _=>n-(intOf i).toNat)
   case atStart=>exact⟨0,none,0,[],Nat.zero_le _,rfl,rfl,Nat.le_refl _,Nat.zero_le _,Below.refl _ _,Vx _ _ _ _,⟨rfl,fun i x u A _=>by simp[xk]at A⟩,(fun b hb=>by simp[Value.ownBlock]at hb)⟩
   case round =>
    obtain⟨j,X,G,vs,l,rfl,rfl,Wb,Ob,na,Ka,oa,ob⟩:=hrel
    by_cases Ia:j<n
    ·obtain⟨i,s⟩:∃i,d[j]?=some i:=⟨_,Ur (by rw[P.out];exact Ia)⟩;have sc:i<n:=bL (L:=L) (by rw[<-la.out];exact Uq s);obtain⟨x,ka⟩:∃x,L[i]?=some x:=⟨_,Ur (by rw[<-Sa.out];exact sc)⟩;obtain⟨go,rfl,hgo,Fb⟩:=ia j i s;have Mb:=(na.cell (p:=vA go j) hgo).trans Fb;have Ib:Bw w wr:=s5 t na;have Wa:=Db wr Ib i x ka;have Hb:Hid (xk L (d.take (j+1))=xk L (d.take j)++[x]):=rF s ka;have Sb:Hid (vs.length=(xk L (d.take j)).length):=oa.1;have Tb:(j:Int)<n:=o_;have Nb:(0:Int)<=j:=o_;have dd:wr.heap.size=wr.heap.size:=rfl;have Za:∀ba,∀(W:World) (aa:Nat),_:=fun ba W aa=>eh un61 jY o_ o_ W X j G aa (W_ L Ws (xk L (d.take j)) vs) (WU (kN x.zb) x.zj (xj (Uz L (kN x.zb))) (xi (Uz L (kN x.zb))) x.b0 x.b1 (yf (Ut Ws (kN x.zb))) (yg (Ut Ws (kN x.zb))) ba) rfl
     have Zb:Hid (W_ L Ws (xk L (d.take j)) vs=W_ L Ws (xk L (d.take j)) vs):=rfl;have Pa:Hid (∀ba,W_ L Ws (xk L (d.take (j+1))) (vs++[ba])=W_ L Ws (xk L (d.take j)) vs++(WU (kN x.zb) x.zj (xj (Uz L (kN x.zb))) (xi (Uz L (kN x.zb))) x.b0 x.b1 (yf (Ut Ws (kN x.zb))) (yg (Ut Ws (kN x.zb))) ba).toList):=fun ba=>by
      rw[Hb.out,n4 Sb.out];rfl
     unfold WU at Za Pa;have Rb:Hid (Ut Ws (kN x.zb)=Ut Ws (kN x.zb)):=rfl;generalize xj (Uz L (kN x.zb))=n0 at *;generalize xi (Uz L (kN x.zb))=n1 at *;generalize yf (Ut Ws (kN x.zb))=Ca at *;generalize yg (Ut Ws (kN x.zb))=Da at *;obtain⟨wt,Oa⟩:∃wt,wt=UR Ws x.zb Ws.length:=⟨_,rfl⟩;rw[<-Oa]at Wa;have Yb:Hid (wt=UR Ws x.zb Ws.length):=Oa;clear Rb Zb s ka Fb ia Db Oa
     go_upto_region 19 with (go_at_call 164;refine Wa.mono ?_;rintro e R ⟨ba,rfl,gb,ic,Ta⟩;obtain⟨J,K,rfl⟩:=rk gb)
     have od:=Ta.size;have pd:=Ib.size;have Eb:Bw R (R.alloc (.cells #[vG (sb (kN x.zb)),.bool x.zj,vI n0,vI n1,vI x.b0,vI x.b1,vI Ca,vI Da,.slice J wt.length K] 37)):=cl;have z:zg (R.alloc (.cells #[vG (sb (kN x.zb)),.bool x.zj,vI n0,vI n1,vI x.b0,vI x.b1,vI Ca,vI Da,.slice J wt.length K] 37)) R.heap.size 37 #[vG (sb (kN x.zb)),.bool x.zj,vI n0,vI n1,vI x.b0,vI x.b1,vI Ca,vI Da,.slice J wt.length K]:=zg.new R 37 _;have Ha:Bw wr (R.alloc (.cells #[vG (sb (kN x.zb)),.bool x.zj,vI n0,vI n1,vI x.b0,vI x.b1,vI Ca,vI Da,.slice J wt.length K] 37)):=Ta.trans (Eb.mono Ta.size);have db:=s8 (T:=fun _=>False) gb (zd.new Eb) (fun _ _ h=>h);generalize R.alloc (.cells #[vG (sb (kN x.zb)),.bool x.zj,vI n0,vI n1,vI x.b0,vI x.b1,vI Ca,vI Da,.slice J wt.length K] 37)=ra at z Ha db ⊢;generalize R.heap.size=bq at z ⊢;have Pc:(Value.slice J wt.length K).oneCell'=true:=rfl;have Z:=Za (.slice J wt.length K);have Qb:Hid _:=Pa.out (.slice J wt.length K);have b0:=z.cell 0;have Jc:=z.cell 1;have Nc:=z.cell 2;have Lc:=z.cell 3;have Mc:=z.cell 4;have Sc:=z.cell 5;have ec:=z.cell 6;have fc:=z.cell 7;have hc:=z.cell 8;have ed:=z.lt;simp only[s7]at b0 Jc Nc Lc Mc Sc ec fc hc;have Va:=s8 (T:=fun _=>False) Ka (zd.new Ha) (fun _ _ h=>h);have Fa:=oa.zf (T:=fun _=>False) (zd.new Ha) (fun _ _ _ h=>h);have Ra:Bw f ra:=na.trans (Ha.mono na.size);have Xb:∀b,(Value.slice J wt.length K).ownBlock=some b->w.heap.size<=b:=fun b hb=>by have:=ic b hb;omega
     clear Za Pa Mb Wa Ka oa gb
     go_wp2_with (at_builtin;refine Vk r_ _ _ _ _ rfl _ _ rfl r_ (Z _ _ (fun u ca=>by simp at ca;rcases ca with rfl|rfl|rfl|rfl|rfl|rfl|rfl|rfl|rfl<;>first|rfl|exact Pc) o_ Wb Ob (s8 (T:=fun _=>False) Va (zd.new cl) (fun _ _ h=>h)) s6) ?_;rintro Gd Yc ⟨jc,oc,rfl,ja⟩;have Kc:Bw f Yc:=YN (sl:=.slice X j G) (Ra.trans ((by exact cl:Bw ra _).mono Ra.size)) ja.zf ob;have Gb:=(zd.new (T:=fun b=>(Value.slice X j G).ownBlock=some b) (by exact cl:Bw ra _)).trans ja.zf)
     go_round
     case rel=>exact⟨j+1,jc,oc,vs++[(.slice J wt.length K)],o_,by go_num,rfl,ja.le,ja.mx,Kc,by rw[Qb.out];exact ja.own,by
       rw[Hb.out]
       refine DolN.snoc ⟨Fa.1,fun i y u A S=>⟨s8 (Fa.2 i y u A S).1 Gb (fun b hb=>ei d_ (Fa.2 i y u A S).1 Va hb),(Fa.2 i y u A S).2⟩⟩ (by rw[<-Yb.out];exact s8 db Gb (fun b hb=>ei d_ db Va hb)) Xb,fun b hb=>by
       rcases ja.new b hb with e|e
       ·exact ob b e
       ·have A:=Ra.size;simp at e;omega⟩
     case measure=>simp[intOf];omega
    ·have Gc:j=n:=o_;subst Gc;have Cc:d.take j=d:=Vl (h_ P.out);rw[Cc]at Ka oa
     go_wp2
     go_ret
     rw[<-la.out]
     exact⟨_,vs,rfl,Ka,oa,s5 t na,fun b hb=>by have:=ob b hb;omega⟩
def QC.sl(q:QC):Value:=.slice q.a q.m q.c
def IS.sl(y:IS)(N:Nat):Value:=.slice y.a N y.c
structure GL (τ : Nat->yd) (A:World) (r z N s:Nat) (ad:Option Addr) (x t:List Value) (d:Nat->QC) (l:Nat->List Int) (y:IS):Prop where
 dr:A.ownsRow 0 37 9 (.slice ad N s) N x
 df:∀b,(Value.slice ad N s).ownBlock=some b -> τ b=.free/\b<z
 dw:∀i,i<N->A.ownsRow 0 3 1 (d i).sl (l i).length ((l i).map fun m=>vI m)/\∀b,(d i).sl.ownBlock=some b -> τ b=.free/\b<z
 dc:∀(i k:Nat) u,i<N->(d i).vals[k]?=some u->x[i*9+k]?=some u
 pr:A.ownsRow 0 37 9 (y.sl N) N t
 pf:∀b,(y.sl N).ownBlock=some b -> τ b=.free/\z+5<=b
 pw:∀i,y.j<=i->i<N->A.ownsRow 0 3 1 (y.q i).sl (l i).length ((l i).map fun m=>vI m)/\∀b,(y.q i).sl.ownBlock=some b -> τ b=.free/\z+5<=b
 pc:∀(i k:Nat) u,i<N->(y.q i).vals[k]?=some u->t[i*9+k]?=some u
 sep:∀(i i' b:Nat),y.j<=i->i<i'->i'<N->(y.q i).sl.ownBlock=some b->(y.q i').sl.ownBlock≠some b
 eq:∀i,i<N->(y.q i).p=(d i).p/\(y.q i).lf=(d i).lf/\(y.q i).i0=(d i).i0/\(y.q i).i1=(d i).i1/\(y.q i).i2=(d i).i2/\(y.q i).i3=(d i).i3/\(y.q i).i4=(d i).i4/\(y.q i).i5=(d i).i5/\(y.q i).m=(l i).length/\(d i).m=(l i).length/\(l i).length<=24
 fr:∀b,Frm r z b -> τ b=.free
 fl:z+5<=A.heap.size
section
variable {τ τ2:Nat->yd}{A B:World}{r z N s:Nat}{ad:Option Addr}{x t:List Value}{d:Nat->QC}{l:Nat->List Int}{y:IS}
theorem GL.move(h:GL τ A r z N s ad x t d l y)(u:r+4<=z)(m:zd T A B)(p:∀b,b<A.heap.size->T b -> τ b≠.free)(o:∀b,b<A.heap.size -> τ2 b = τ b):GL τ2 B r z N s ad x t d l y:=by
 have zb:∀ {e:TypeId} {c n:Nat} {v:Value} {xs:List Value},A.ownsRow 0 e c v n xs->(∀b,v.ownBlock=some b -> τ b=.free)->B.ownsRow 0 e c v n xs:=fun g k=>s8 g m (fun b hb q=>p b (UI g hb) q (k b hb))
 have j:∀ {e:TypeId} {c n:Nat} {v:Value} {xs:List Value} {b:Nat},A.ownsRow 0 e c v n xs->v.ownBlock=some b -> τ b=.free -> τ2 b=.free:=fun g hb k=>by rw[o _ (UI g hb)];exact k
 have w:=h.fl
 exact⟨zb h.dr (fun b hb=>(h.df b hb).1),fun b hb=>⟨j h.dr hb (h.df b hb).1,(h.df b hb).2⟩,
  fun i a=>⟨zb (h.dw i a).1 (fun b hb=>((h.dw i a).2 b hb).1),fun b hb=>⟨j (h.dw i a).1 hb ((h.dw i a).2 b hb).1,((h.dw i a).2 b hb).2⟩⟩,h.dc,
  zb h.pr (fun b hb=>(h.pf b hb).1),fun b hb=>⟨j h.pr hb (h.pf b hb).1,(h.pf b hb).2⟩,
  fun i f a=>⟨zb (h.pw i f a).1 (fun b hb=>((h.pw i f a).2 b hb).1),fun b hb=>⟨j (h.pw i f a).1 hb ((h.pw i f a).2 b hb).1,((h.pw i f a).2 b hb).2⟩⟩,h.pc,h.sep,h.eq,
  fun b hb=>by rw[o b (by unfold Frm at hb;omega)];exact h.fr b hb,Nat.le_trans h.fl m.size⟩
theorem GL.Zk(h:GL τ A r z N s ad x t d l y)(c:zd (fun b=>z<=b/\b<z+5) A B):GL τ B r z N s ad x t d l y:=by
 exact⟨s8 h.dr c (fun b hb e=>by have:=(h.df b hb).2;omega),h.df,
  fun i a=>⟨s8 (h.dw i a).1 c (fun b hb e=>by have:=((h.dw i a).2 b hb).2;omega),(h.dw i a).2⟩,h.dc,
  s8 h.pr c (fun b hb e=>by have:=(h.pf b hb).2;omega),h.pf,
  fun i f a=>⟨s8 (h.pw i f a).1 c (fun b hb e=>by have:=((h.pw i f a).2 b hb).2;omega),(h.pw i f a).2⟩,h.pc,h.sep,h.eq,h.fr,Nat.le_trans h.fl c.size⟩
theorem GL.own(h:GL τ A r z N s ad x t d l y)(J:r+4<=z)(u:y.j<N)(g:OwnT τ A (y.q y.j).sl.ownBlock τ2 B):GL τ2 B r z N s ad x t d l y.next:=by
 have w:∀b,(y.q y.j).sl.ownBlock=some b->z+5<=b:=fun b hb=>((h.pw y.j (Nat.le_refl _) u).2 b hb).2
 have E:=(h.pw y.j (Nat.le_refl _) u).1;have zb:∀ {e:TypeId} {c n:Nat} {v:Value} {xs:List Value},A.ownsRow 0 e c v n xs->(∀b,v.ownBlock=some b -> τ b=.free/\(y.q y.j).sl.ownBlock≠some b)->B.ownsRow 0 e c v n xs:=fun o k=>s8 o g.zf (fun b hb I=>by
  rcases I.2 with e|e
  ·rw[(k b hb).1]at e;exact e
  ·exact(k b hb).2 e)
 have m:∀ {e:TypeId} {c n:Nat} {v:Value} {xs:List Value} {b:Nat},A.ownsRow 0 e c v n xs->v.ownBlock=some b -> τ b=.free->(y.q y.j).sl.ownBlock≠some b -> τ2 b=.free:=fun o hb k F=>by rw[g.old _ (UI o hb) F];exact k
 have n1:∀b,b<z->(y.q y.j).sl.ownBlock≠some b:=fun b hb e=>by have:=w b e;omega
 have n2:∀b,(y.sl N).ownBlock=some b->(y.q y.j).sl.ownBlock≠some b:=fun b hb e=>ei d_ E h.pr e hb
 have C:∀i,y.j+1<=i->i<N->∀b,(y.q i).sl.ownBlock=some b->(y.q y.j).sl.ownBlock≠some b:=fun i f a b hb e=>h.sep y.j i b (Nat.le_refl _) o_ a e hb
 have K:=h.fl
 exact⟨zb h.dr (fun b hb=>⟨(h.df b hb).1,n1 b (h.df b hb).2⟩),fun b hb=>⟨m h.dr hb (h.df b hb).1 (n1 b (h.df b hb).2),(h.df b hb).2⟩,
  fun i a=>⟨zb (h.dw i a).1 (fun b hb=>⟨((h.dw i a).2 b hb).1,n1 b ((h.dw i a).2 b hb).2⟩),fun b hb=>⟨m (h.dw i a).1 hb ((h.dw i a).2 b hb).1 (n1 b ((h.dw i a).2 b hb).2),((h.dw i a).2 b hb).2⟩⟩,h.dc,
  zb h.pr (fun b hb=>⟨(h.pf b hb).1,n2 b hb⟩),fun b hb=>⟨m h.pr hb (h.pf b hb).1 (n2 b hb),(h.pf b hb).2⟩,
  fun i f a=>by
   have f:y.j+1<=i:=f;obtain⟨D,p⟩:=h.pw i o_ a
   exact⟨zb D (fun b hb=>⟨(p b hb).1,C i f a b hb⟩),fun b hb=>⟨m D hb (p b hb).1 (C i f a b hb),(p b hb).2⟩⟩,h.pc,
  fun i H b f G h3 hb=>h.sep i H b (by have:y.j+1<=i:=f;omega) G h3 hb,h.eq,
  fun b hb=>by rw[g.old b (by unfold Frm at hb;omega) (fun e=>by have:=w b e;unfold Frm at hb;omega)];exact h.fr b hb,Nat.le_trans h.fl g.zf.size⟩
end
end
section
open Go.RowKit Go.Shelf
variable {W:World}{N br bt bw most:Nat}
attribute [local go_sem] Oper.semAt_some
structure Rnds (z0 z:Nat) (bw bt br N cd:Nat) (ad:Option Addr) (s s2:ByteArray) (a0 a1 c0 c1:Int) (d:Nat->QC) (Inv Mid ve:IS->World->Prop):Prop where
 zf:∀x A B,Inv x A->zd (fun b=>z<=b/\b<z+5) A B->Inv x B
 keepM:∀x A B,Mid x A->zd (fun b=>z<=b/\b<z+5) A B->Mid x B
 keep2:∀x A B,ve x A->zd (fun b=>z<=b/\b<z+5) A B->ve x B
 cap:N<=cd/\cd<=maxLen
 cells:∀x A,Inv x A->x.j<N->∃g,x.a=some (vA g 0)/\g<A.heap.size/\∀i u,(x.q x.j).vals[i]?=some u->A.cell? (vA g (x.j*9+i))=some u
 doc:∀x A,Inv x A->x.j<N->∃gd,ad=some (vA gd 0)/\gd<z/\∀i u,(d x.j).vals[i]?=some u->A.cell? (vA gd (x.j*9+i))=some u
 same:∀x A B,Inv x A->x.j<N->Bw A B->Calls prog 125 #[.agg (x.q x.j).vals,.agg (d x.j).vals] B fun e w'=>e=vR (.bool true)/\Bw B w'
 look:∀x A B,Inv x A->Bw A B->Calls prog 37 #[vP bw] B fun e w'=>e=vR (.bool true)/\Bw B w'
 own:∀x A B,Inv x A->x.j<N->Bw A B->Calls prog 126 #[vP bw,.slice (x.q x.j).a (x.q x.j).m (x.q x.j).c] B fun e w'=>e=vT #[]/\Mid x w'/\zd (fun b=>¬Frm z0 z b) B w'
 next:∀x A,x.j≠0->Mid x A->Inv x.next A
 next0:∀x A,ve x A->Inv x.next A
 zj:∀x A,x.j=0->Mid x A->∃(er:Int) (n:Nat) (M1:Option Addr->Nat->World->Prop) (M2:Option Addr->Nat->Option Addr->Nat->World->Prop),
  (∀B,Bw A B->Calls prog 26 #[vP bt,vG s,.agg #[vI a0,vI a1],.agg #[vI c0,vI c1]] B fun e w'=>∃va vc,e=vT #[.slice va n vc,vI er]/\zd (fun b=>¬Frm z0 z b) B w'/\M1 va vc w') /\
  (∀va vc B B',M1 va vc B->Bw B B'->Calls prog 69 #[vP br,vG s,.agg #[vI a0,vI a1],.agg #[vI c0,vI c1]] B' fun e w'=>∃fu qo,e=vT #[.slice fu n qo,vI er]/\zd (fun b=>¬Frm z0 z b) B' w'/\M2 va vc fu qo w') /\
  (∀va vc fu qo B B',M2 va vc fu qo B->Bw B B'->Calls prog 68 #[vP bw,.slice va n vc,vI er,.slice fu n qo,vI er] B' fun e w'=>e=vR (.bool true)/\zd (fun b=>¬Frm z0 z b) B' w'/\ve x w')
theorem q5(Zc:N<=1000)(Gd:most<25)(s s2:ByteArray)(z T a0 a1 c0 c1 nm:Int){R:World->Prop}
  (Rb:∀W',Calls prog 66 #[vI nm,vI 25] W' fun e w'=>e=vR (vI most)/\w'=W')
  {Dl:Option Addr->Nat->World->Prop} (h165:∀W',Bw W W'->Calls prog 165 #[vP br] W' fun e w'=>∃ad F,e=vR (.slice ad N F)/\Dl ad F w'/\Below W'.heap.size W' w')
  (hgo:∀ad F f,Dl ad F f->Bw W f->W.heap.size+4<f.heap.size->∃(d:Nat->QC) (Inv Mid ve db:IS->World->Prop),Rnds W.heap.size f.heap.size bw bt br N F ad s s2 a0 a1 c0 c1 d Inv Mid ve /\
   (∀O,Bw f O->f.heap.size+5<=O.heap.size->Calls prog 61 #[vP bt] O fun e w'=>∃a c q,e=vR (.slice a N c)/\N<=c/\c<=maxLen/\db ⟨a,c,q,0⟩ w'/\Bw O w') /\
   (∀x A O,db x A->Bw f O->f.heap.size+5<=O.heap.size->Bw O A->x.j=0/\Inv x A)/\(∀x A,Inv x A->R A)) :
  Calls prog 128 #[vP bw,.agg #[vP bt,vP br],.agg #[vI z,vI T,vG s,vG s2,vI a0,vI a1,vI c0,vI c1,vI nm]] W fun e w'=>e=vR (.bool true)/\R w':=by
 have Cb:∀k:Nat,Fence.wide.depth.isSome=true->1<=k:=fun k h=>by simp[Fence.wide]at h
 have Tb:=fun W'=>lB bt W'
 have td:∀(c:Array Value) (w:World),(binOp BinOp.eql 72 (.func (.func 60) #[] c) .nilFunc).run prog w=.ok (.bool false) w:=fun c w=>by simp[binOp,go_sem];rfl
 refine(UK (n:=3)).1 ?_
 refine callsIn_of_wp_marks func128 rfl trivial ?_ rfl
 simp only[ntmps128,zC,Nat.reduceAdd,Nat.reduceSub]
 gi_wp2_with ((first|refine⟨trivial,Cb _,?_⟩|refine⟨trivial,?_⟩);(first
  |(gi_at_call 66;refine(UK.2 (Rb _)).mono ?_;rintro e Re ⟨rfl,Qc⟩;subst Qc)
  |(gi_at_call 33;refine(UK.2 (Tb _)).mono ?_;rintro e Se ⟨rfl,Tc⟩;subst Tc)
  |(gi_at_call 165;refine(UK.2 (h165 _ cl)).mono ?_;rintro e f ⟨ad,F,rfl,Ub,Fa⟩)))
 have Ic:Bw W f:=s5 cl Fa;have Vc:W.heap.size+4<f.heap.size:=by have:=Fa.size;simp at this;omega
 obtain⟨d,Inv,Mid,ve,db,L,qb,gb,Bb⟩:=hgo ad F f Ub Ic Vc;obtain⟨na,rb⟩:∃na:Array Value,na=#[vI z,vI T,vG s,vG s2,vI a0,vI a1,vI c0,vI c1,vI nm]:=⟨_,rfl⟩;have Eb:zg f W.heap.size 78 #[vP bw]:=zg.below (((((zg.new W 78 _).alloc _).alloc _).alloc _).alloc _) Fa u_;have Ha:zg f (W.heap.size+1) 128 #[vP bt,vP br]:=zg.below ((((zg.new' s_).alloc _).alloc _).alloc _) Fa u_;have Fb:zg f (W.heap.size+1+1) 87 na:=by rw[rb];exact zg.below (((zg.new' s_).alloc _).alloc _) Fa u_
 have Gb:zg f (W.heap.size+1+1+1) 3 #[vI most]:=zg.below ((zg.new' s_).alloc _) Fa u_;have hc:zg f (W.heap.size+1+1+1+1) 45 #[vP bt]:=zg.below (zg.new' s_) Fa u_;have pb:Bw f (((f.alloc (.cells #[.slice ad N F] 61)).alloc (.cells #[vI 0] 3)).alloc (.cells #[.bool true] 4)):=cl;have jb:zg (((f.alloc (.cells #[.slice ad N F] 61)).alloc (.cells #[vI 0] 3)).alloc (.cells #[.bool true] 4)) f.heap.size 61 #[.slice ad N F]:=((zg.new f 61 _).alloc _).alloc _;have kb:zg (((f.alloc (.cells #[.slice ad N F] 61)).alloc (.cells #[vI 0] 3)).alloc (.cells #[.bool true] 4)) (f.heap.size+1) 3 #[vI 0]:=(zg.new' s_).alloc _;have mb:zg (((f.alloc (.cells #[.slice ad N F] 61)).alloc (.cells #[vI 0] 3)).alloc (.cells #[.bool true] 4)) (f.heap.size+1+1) 4 #[.bool true]:=zg.new' s_;have ua:(((f.alloc (.cells #[.slice ad N F] 61)).alloc (.cells #[vI 0] 3)).alloc (.cells #[.bool true] 4)).heap.size=f.heap.size+3:=s_;obtain⟨Na,Yb⟩:∃Na,Na=((f.alloc (.cells #[.slice ad N F] 61)).alloc (.cells #[vI 0] 3)).alloc (.cells #[.bool true] 4):=⟨_,rfl⟩;rw[<-Yb]at pb jb kb mb ua ⊢;clear Yb Ub Fa hgo h165 Rb Tb td;have Db:=hc.cell 0;simp only[s7]at Db
 refine k4 (σ := IS) (gf:=60) (lb:=#[vP (W.heap.size+1+1+1+1)]) rfl (enters_of func60 k_ rfl) (enc:=fun x=>#[.agg (x.q x.j).vals]) (nx:=IS.next) (more:=fun x=>x.j<N) (fin:=fun x=>x.j=N) (Start:=db)
  (Cells:=fun x A=>∃g,x.a=some (vA g 0)/\g<A.heap.size/\∀i u,(x.q x.j).vals[i]?=some u->A.cell? (vA g (x.j*9+i))=some u) ?seq (fun _=>rfl)
  (fun x A=>Inv x A/\x.j<=N/\x.j<=most/\FB W.heap.size f.heap.size bw bt br na most (.slice ad N F) A x.j)
  (fun c x A=>c=.exit 0/\∃y,Inv y A/\most<=N/\FB W.heap.size f.heap.size bw bt br na most (.slice ad N F) A most) ?hI ?hIx ?start ?cells
  (fun x W=>W.alloc (.cells (x.q x.j).vals 37)) (fun x W=>(Below.refl _ _).alloc (Nat.le_refl _) _) ?a1 ?assign ?body ?done ?stop
 case seq =>
  intro k J Gc O hb jd Yc Z Xc cd;have Za:Bw f O:=s5 pb hb
  refine(lJ (W:=O) Zc ((Za.cell (p:=vA (W.heap.size+1+1+1+1) 0) t_).trans Db) (qb O Za o_) k _ J Gc Yc Z Xc cd).mono ?_
  rintro e W' ⟨sa,Ta⟩
  exact⟨sa,Ta.imp id (fun ⟨x,_,gd⟩=>⟨x,gd⟩)⟩
 case hI =>
  rintro x A B ⟨sa,Ta,h3,ja⟩ Ka
  rw[ua]at Ka
  exact⟨L.zf x A B sa (Ka.mono (fun b hb=>by omega)),Ta,h3,ja.zf o_ Ka (fun b hb h=>by omega)⟩
 case hIx =>
  rintro c x A B ⟨sa,y,Ta,h3,ja⟩ Ka
  rw[ua]at Ka
  exact⟨sa,y,L.zf y A B Ta (Ka.mono (fun b hb=>by omega)),h3,ja.zf o_ Ka (fun b hb h=>by omega)⟩
 case start =>
  intro x A O Ec hb jd Pa;have Za:Bw f O:=s5 pb hb;obtain⟨mc,hI⟩:=gb x A O Ec Za o_ Pa;have ob:Bw f A:=s5 Za Pa;have Nb:Bw Na A:=s5 hb Pa;have Md:=Pa.size
  exact⟨hI,o_,o_,⟨Eb.below ob Eb.lt,Ha.below ob Ha.lt,Fb.below ob Fb.lt,Gb.below ob Gb.lt,jb.below Nb jb.lt,by rw[mc];exact kb.below Nb kb.lt,mb.below Nb mb.lt,o_⟩⟩
 case cells=>exact fun x A h ed=>L.cells x A h.1 ed
 case assign =>
  intro l x r K Xa;unfold QC.vals at Xa ⊢
  gi_wp2
  exact Xa
 case body =>
  rintro l x E r ⟨Ua,Lc,tc,Ja⟩ Rc Pb Oa
  rw[ua]at Rc Pb ⊢;have Aa:E.heap.size<r.heap.size:=by have:=Pb.size;simp at this;omega
  have ka:zg r E.heap.size 37 (x.q x.j).vals:=(zg.new E 37 _).zf Pb (fun e=>by omega);obtain⟨C,qc,Kd,ra⟩:=L.doc x r Ua Oa;have Sa:=fun B (Wa:Bw r B)=>L.same x r B Ua Oa Wa
  have Ib:=fun B (Wa:Bw r B)=>L.look x r B Ua Wa
  have eb:=fun B (Wa:Bw r B)=>L.own x r B Ua Oa Wa
  obtain⟨Hd,Jd⟩:=L.cap;obtain⟨t,vb⟩:∃t,t=x.q x.j:=⟨_,rfl⟩;obtain⟨D,Ob⟩:∃D,D=d x.j:=⟨_,rfl⟩;obtain⟨j,Jb⟩:∃j,j=x.j:=⟨_,rfl⟩;rw[<-vb]at ka Sa eb;rw[<-Ob]at Sa ra;rw[<-Jb]at ra Ja Lc tc Oa;have aa:r.cell? (vA E.heap.size 0)=some (vG t.p):=ka.cell 0;have ba:r.cell? (vA E.heap.size 1)=some (.bool t.lf):=ka.cell 1;have q2:r.cell? (vA E.heap.size 2)=some (vI t.i0):=ka.cell 2;have ca:r.cell? (vA E.heap.size 3)=some (vI t.i1):=ka.cell 3;have da:r.cell? (vA E.heap.size 4)=some (vI t.i2):=ka.cell 4;have ea:r.cell? (vA E.heap.size 5)=some (vI t.i3):=ka.cell 5;have ga:r.cell? (vA E.heap.size 6)=some (vI t.i4):=ka.cell 6;have ha:r.cell? (vA E.heap.size 7)=some (vI t.i5):=ka.cell 7;have ia:r.cell? (vA E.heap.size 8)=some (.slice t.a t.m t.c):=ka.cell 8;have d0:r.cell? (vA C (j*9))=some (vG D.p):=ra 0 _ rfl;have d1:r.cell? (vA C (j*9+1))=some (.bool D.lf):=ra 1 _ rfl;have P:r.cell? (vA C (j*9+2))=some (vI D.i0):=ra 2 _ rfl;have Q:r.cell? (vA C (j*9+3))=some (vI D.i1):=ra 3 _ rfl;have S:r.cell? (vA C (j*9+4))=some (vI D.i2):=ra 4 _ rfl;have U:r.cell? (vA C (j*9+5))=some (vI D.i3):=ra 5 _ rfl;have V:r.cell? (vA C (j*9+6))=some (vI D.i4):=ra 6 _ rfl;have X:r.cell? (vA C (j*9+7))=some (vI D.i5):=ra 7 _ rfl;have Y:r.cell? (vA C (j*9+8))=some (.slice D.a D.m D.c):=ra 8 _ rfl;have ic:=Ja.b0.cell 0;have Ra:=Ja.b3.cell 0;have Ia:r.cell? (vA f.heap.size 0)=some (.slice ad N F):=Ja.k.cell 0;have Ea:r.cell? (vA (f.heap.size+1) 0)=some (vI j):=Ja.n.cell 0;simp only[s7]at ic Ra;subst qc;unfold QC.vals at Sa;have Hc:Hid (RK (f.heap.size+3) r r):=⟨rfl,rfl⟩;have ab:Hid (t=x.q x.j/\D=d x.j/\j=x.j):=⟨vb,Ob,Jb⟩;have Ac:Hid (Inv x r):=Ua;have Va:Hid (FB W.heap.size f.heap.size bw bt br na most (vS C N F) r j):=Ja;have Ld:=ua;clear vb Ob Jb ra Ua Ja ua pb jb kb mb Eb Ha Fb Gb hc Db qb gb Bb
  by_cases hjm':j=most
  ·subst hjm';have Sc:j<=N:=o_;clear Sa Ib eb aa ba q2 ca da ea ga ha ia d0 d1 P Q S U V X Y
   gi_wp2
   exact⟨Hc.out,rfl,x,Ac.out,Sc,Va.out⟩
  ·have pe:((j:Int) == (most:Int))=false:=by simp;omega
   have Ed:prog.follows .mixedOrders=true:=k_;have re:(j:Int)<N:=o_;have mc:(0:Int)<=j:=o_
   gi_upto_region 11 with fail
   refine YA (fun W'=>W'.cell? (vA (f.heap.size+1) 0)=some (vI j)/\W'.cell? (vA f.heap.size 0)=some (vS C N F)/\W'.cell? (vA E.heap.size 0)=some (vG t.p)/\W'.cell? (vA E.heap.size 1)=some (.bool t.lf)/\W'.cell? (vA E.heap.size 2)=some (vI t.i0)/\W'.cell? (vA E.heap.size 3)=some (vI t.i1)/\W'.cell? (vA E.heap.size 4)=some (vI t.i2)/\W'.cell? (vA E.heap.size 5)=some (vI t.i3)/\W'.cell? (vA E.heap.size 6)=some (vI t.i4)/\W'.cell? (vA E.heap.size 7)=some (vI t.i5)/\W'.cell? (vA E.heap.size 8)=some (.slice t.a t.m t.c)/\W'.cell? (vA C (j*9))=some (vG D.p)/\W'.cell? (vA C (j*9+1))=some (.bool D.lf)/\W'.cell? (vA C (j*9+2))=some (vI D.i0)/\W'.cell? (vA C (j*9+3))=some (vI D.i1)/\W'.cell? (vA C (j*9+4))=some (vI D.i2)/\W'.cell? (vA C (j*9+5))=some (vI D.i3)/\W'.cell? (vA C (j*9+6))=some (vI D.i4)/\W'.cell? (vA C (j*9+7))=some (vI D.i5)/\W'.cell? (vA C (j*9+8))=some (.slice D.a D.m D.c)/\Bw r W') Ed k_ ⟨Ea,Ia,aa,ba,q2,ca,da,ea,ga,ha,ia,d0,d1,P,Q,S,U,V,X,Y,cl⟩ (fun Z=>?_)
   refine wpAnyH_take (i:=0) (v:=vI j) rfl k_ k_ k_ (fun _ _ _ h=>absurd h.1 e_) (Or.inl ⟨r_,?_⟩) Z ?_
   ·intro w' H;obtain⟨s0,ta,aa,ba,q2,ca,da,ea,ga,ha,ia,d0,d1,P,Q,S,U,V,X,Y,_⟩:=H
    go_simp
   try simp only[Ux,Uv,Uw,Act.put,UF,UE,UD]
   refine wpAnyH_take (i:=1) (v:=vS C N F) rfl k_ k_ k_ (fun _ _ _ h=>absurd h.1 e_) (Or.inl ⟨r_,?_⟩) Z ?_
   ·intro w' H;obtain⟨s0,ta,aa,ba,q2,ca,da,ea,ga,ha,ia,d0,d1,P,Q,S,U,V,X,Y,_⟩:=H
    go_simp
   try simp only[Ux,Uv,Uw,Act.put,UF,UE,UD]
   refine wpAnyH_take (i:=2) (v:=vI N) rfl k_ k_ k_ (fun _ _ _ h=>absurd h.1 e_) (Or.inl ⟨r_,?_⟩) Z ?_
   ·intro w' H;obtain⟨s0,ta,aa,ba,q2,ca,da,ea,ga,ha,ia,d0,d1,P,Q,S,U,V,X,Y,_⟩:=H
    go_simp
   try simp only[Ux,Uv,Uw,Act.put,UF,UE,UD]
   refine wpAnyH_take (i:=3) (v:=.bool true) rfl k_ k_ k_ (fun _ _ _ h=>absurd h.1 e_) (Or.inl ⟨r_,?_⟩) Z ?_
   ·intro w' H;obtain⟨s0,ta,aa,ba,q2,ca,da,ea,ga,ha,ia,d0,d1,P,Q,S,U,V,X,Y,_⟩:=H
    go_simp
   try simp only[Ux,Uv,Uw,Act.put,UF,UE,UD]
   refine wpAnyH_take (i:=4) (v:=.bool true) rfl k_ k_ k_ (fun _ _ _ h=>absurd h.1 e_) (Or.inl ⟨r_,?_⟩) Z ?_
   ·intro w' H;obtain⟨s0,ta,aa,ba,q2,ca,da,ea,ga,ha,ia,d0,d1,P,Q,S,U,V,X,Y,_⟩:=H
    go_simp
   try simp only[Ux,Uv,Uw,Act.put,UF,UE,UD]
   refine wpAnyH_take (i:=5) (v:=.agg #[vG t.p,.bool t.lf,vI t.i0,vI t.i1,vI t.i2,vI t.i3,vI t.i4,vI t.i5,.slice t.a t.m t.c]) rfl k_ k_ k_ (fun _ _ _ h=>absurd h.1 e_) (Or.inl ⟨r_,?_⟩) Z ?_
   ·intro w' H;obtain⟨s0,ta,aa,ba,q2,ca,da,ea,ga,ha,ia,d0,d1,P,Q,S,U,V,X,Y,_⟩:=H
    go_simp
   try simp only[Ux,Uv,Uw,Act.put,UF,UE,UD]
   refine wpAnyH_take (i:=6) (v:=vS C N F) rfl k_ k_ k_ (fun _ _ _ h=>absurd h.1 e_) (Or.inl ⟨r_,?_⟩) Z ?_
   ·intro w' H;obtain⟨s0,ta,aa,ba,q2,ca,da,ea,ga,ha,ia,d0,d1,P,Q,S,U,V,X,Y,_⟩:=H
    go_simp
   try simp only[Ux,Uv,Uw,Act.put,UF,UE,UD]
   refine wpAnyH_take (i:=7) (v:=vI j) rfl k_ k_ k_ (fun _ _ _ h=>absurd h.1 e_) (Or.inl ⟨r_,?_⟩) Z ?_
   ·intro w' H;obtain⟨s0,ta,aa,ba,q2,ca,da,ea,ga,ha,ia,d0,d1,P,Q,S,U,V,X,Y,_⟩:=H
    go_simp
   try simp only[Ux,Uv,Uw,Act.put,UF,UE,UD]
   refine wpAnyH_take (i:=8) (v:=.pointer (some (vA C (j*9)))) rfl k_ k_ k_ (fun _ _ _ h=>absurd h.1 e_) (Or.inl ⟨r_,?_⟩) Z ?_
   ·intro w' H;obtain⟨s0,ta,aa,ba,q2,ca,da,ea,ga,ha,ia,d0,d1,P,Q,S,U,V,X,Y,_⟩:=H
    go_simp
   try simp only[Ux,Uv,Uw,Act.put,UF,UE,UD]
   refine wpAnyH_take (i:=9) (v:=.agg #[vG D.p,.bool D.lf,vI D.i0,vI D.i1,vI D.i2,vI D.i3,vI D.i4,vI D.i5,.slice D.a D.m D.c]) rfl k_ k_ k_ (fun _ _ _ h=>absurd h.1 e_) (Or.inl ⟨r_,?_⟩) Z ?_
   ·intro w' H;obtain⟨s0,ta,aa,ba,q2,ca,da,ea,ga,ha,ia,d0,d1,P,Q,S,U,V,X,Y,_⟩:=H
    go_simp
   try simp only[Ux,Uv,Uw,Act.put,UF,UE,UD]
   refine wpAnyH_ready (rs:=[10]) k_ s_ ?_
   refine AllReadyH.cons rfl (fun K Xa=>?_) AllReadyH.nil
   rw[if_pos r_]
   try simp only[Ux,Uv,Uw]
   go_simp
   refine(Sa _ cl).mono ?_
   rintro e fc ⟨rfl,Pa⟩
   have G:Bw r fc:=s5 (show Bw r r.drew by exact cl) Pa;have Ce:=Va.out.lt;have l1:f.heap.size+1<r.heap.size:=o_;have kd:f.heap.size<r.heap.size:=o_;have Ba:C<r.heap.size:=o_
   refine Xa.out _ _ ⟨(G.cell (p:=vA (f.heap.size+1) 0) l1).trans Ea,(G.cell (p:=vA f.heap.size 0) kd).trans Ia,(G.cell (p:=vA E.heap.size 0) Aa).trans aa,(G.cell (p:=vA E.heap.size 1) Aa).trans ba,(G.cell (p:=vA E.heap.size 2) Aa).trans q2,(G.cell (p:=vA E.heap.size 3) Aa).trans ca,(G.cell (p:=vA E.heap.size 4) Aa).trans da,(G.cell (p:=vA E.heap.size 5) Aa).trans ea,(G.cell (p:=vA E.heap.size 6) Aa).trans ga,(G.cell (p:=vA E.heap.size 7) Aa).trans ha,(G.cell (p:=vA E.heap.size 8) Aa).trans ia,(G.cell (p:=vA C (j*9)) Ba).trans d0,(G.cell (p:=vA C (j*9+1)) Ba).trans d1,(G.cell (p:=vA C (j*9+2)) Ba).trans P,(G.cell (p:=vA C (j*9+3)) Ba).trans Q,(G.cell (p:=vA C (j*9+4)) Ba).trans S,(G.cell (p:=vA C (j*9+5)) Ba).trans U,(G.cell (p:=vA C (j*9+6)) Ba).trans V,(G.cell (p:=vA C (j*9+7)) Ba).trans X,(G.cell (p:=vA C (j*9+8)) Ba).trans Y,G⟩ (fun Z=>?_)
   clear Xa Sa
   try simp only[Ux,Uv,Uw,Act.put,UF,UE,UD]
   refine wpAnyH_take (i:=11) (v:=.bool true) rfl k_ k_ k_ (fun _ _ _ h=>absurd h.1 e_) (Or.inl ⟨r_,?_⟩) Z ?_
   ·intro w' H;obtain⟨s0,ta,aa,ba,q2,ca,da,ea,ga,ha,ia,d0,d1,P,Q,S,U,V,X,Y,_⟩:=H
    go_simp
   try simp only[Ux,Uv,Uw,Act.put,UF,UE,UD]
   refine wpAnyH_take (i:=12) (v:=.bool true) rfl k_ k_ k_ (fun _ _ _ h=>absurd h.1 e_) (Or.inl ⟨r_,?_⟩) Z ?_
   ·intro w' H;obtain⟨s0,ta,aa,ba,q2,ca,da,ea,ga,ha,ia,d0,d1,P,Q,S,U,V,X,Y,_⟩:=H
    go_simp
   try simp only[Ux,Uv,Uw,Act.put,UF,UE,UD]
   refine wpAnyH_done k_ ⟨rfl,?_⟩ _
   have yb:=Va.out.below G;have Qb:=ka.below G ka.lt;have g0:=yb.b0.cell 0;have Wc:fc.cell? (vA E.heap.size 8)=some (.slice t.a t.m t.c):=Qb.cell 8;simp only[s7]at g0;clear Z d0 d1 P Q S U V X Y aa ba q2 ca da ea ga ha ia ic Ra Ia Ea;have La:W.heap.size+4<=f.heap.size:=o_
   gi_upto_region 14 with ((first|refine⟨trivial,Cb _,?_⟩|refine⟨trivial,?_⟩);(first
    |(gi_at_call 37;refine(CallsIn.inRound l (UK.2 (Ib _ G))).mono ?_;rintro e Lb ⟨rfl,Oc⟩;have Qa:Bw r Lb:=s5 G Oc;have Jc:Lb.cell? (vA W.heap.size 0)=some (vP bw):=(Va.out.below Qa).b0.cell 0;have Kc:Lb.cell? (vA E.heap.size 8)=some (.slice t.a t.m t.c):=(ka.below Qa ka.lt).cell 8)
    |(gi_at_call 126;refine(CallsIn.inRound l (UK.2 (eb _ Qa))).mono ?_;rintro e Ma ⟨rfl,Mb,Vb⟩)))
   have Ab:=Va.out.below Qa;have Ga:=Ab.frame La Vb;have Mc:RK (f.heap.size+3) r Ma:=RK.zf (RK.zf ⟨rfl,rfl⟩ (zd.new (T:=fun _=>False) Qa) o_ (fun h=>h) (fun h=>h)) Vb (h_ Qa.size) (fun h=>h (by unfold Frm;omega)) (fun h=>h (by unfold Frm;omega));have Ad:Ma.cell? (vA (f.heap.size+1+1) 0)=some (.bool true):=Ga.o.cell 0;have Bd:=Ga.o.frozen 0;have Cd:Ma.cell? (vA (f.heap.size+1) 0)=some (vI j):=Ga.n.cell 0;have Dd:=Ga.n.frozen 0;have se:=Ga.lt;have Pe:IntKind.i64.wrap ((j:Int)+1)=(j:Int)+1:=by rw[IntKind.wrap_i64];omega
   obtain⟨M,bb⟩:∃M,M=(Ma.setCell (vA (f.heap.size+1+1) 0) (.bool true)).setCell (vA (f.heap.size+1) 0) (vI ((j:Int)+1)):=⟨_,rfl⟩;have la:FB W.heap.size f.heap.size bw bt br na most (vS C N F) M (j+1):=by rw[bb];exact(Ga.setO La).setN La
   have Xb:zd (fun b=>b=f.heap.size+1\/b=f.heap.size+1+1) Ma M:=by
    rw[bb]
    exact((zd.refl (fun b=>b=f.heap.size+1\/b=f.heap.size+1+1) _).setCell (p:=vA (f.heap.size+1+1) 0) (.inr rfl) _).setCell (p:=vA (f.heap.size+1) 0) (.inl rfl) _
   have ec:RK (f.heap.size+3) r M:=Mc.zf Xb o_ o_ o_;have nb:=L.keepM x Ma M Mb (Xb.mono (fun b hb=>by omega));have Sb:Hid (M=(Ma.setCell (vA (f.heap.size+1+1) 0) (.bool true)).setCell (vA (f.heap.size+1) 0) (vI ((j:Int)+1))):=bb;clear g0 Wc Jc Kc Ib eb ka Qb bb
   by_cases Ya:j=0
   ·have Wb:x.j=0:=by rw[<-ab.out.2.2];exact Ya
    obtain⟨er,n,M1,M2,vc,wc,Cc⟩:=L.zj x M Wb nb;have Nd:Hid (j=0):=Ya;have sd:(((j:Int)+1) == 1)=true:=by simp[Ya]
    have sc:=fun A (h:ve x A)=>L.next0 x A h
    have Pc:=L.keep2;have I:Hid (na=#[vI z,vI T,vG s,vG s2,vI a0,vI a1,vI c0,vI c1,vI nm]):=rb;clear Ya L Wb Ga Ab yb Mb nb rb
    gi_upto_region 17 with fail
    rw[<-Sb.out];have m1:M.cell? (vA (W.heap.size+1) 0)=some (vP bt):=la.b1.cell 0;have te:M.cell? (vA (W.heap.size+1) 1)=some (vP br):=la.b1.cell 1;have Od:M.cell? (vA (W.heap.size+1+1) 2)=some (vG s):=(la.b2.cell (2)).trans (by rw[I.out];rfl);have Pd:M.cell? (vA (W.heap.size+1+1) 4)=some (vI a0):=(la.b2.cell (4)).trans (by rw[I.out];rfl);have Qd:M.cell? (vA (W.heap.size+1+1) (4+1))=some (vI a1):=(la.b2.cell (4+1)).trans (by rw[I.out];rfl);have Sd:M.cell? (vA (W.heap.size+1+1) 6)=some (vI c0):=(la.b2.cell (6)).trans (by rw[I.out];rfl);have Td:M.cell? (vA (W.heap.size+1+1) (6+1))=some (vI c1):=(la.b2.cell (6+1)).trans (by rw[I.out];rfl);have Ae:M.cell? (vA W.heap.size 0)=some (vP bw):=la.b0.cell 0;have mk:M.cell? (vA (f.heap.size+1+1) 0)=some (.bool true):=la.o.cell 0;have Be:=la.o.frozen 0;clear Ad Bd Cd Dd
    gi_upto_region 20 with ((first|refine⟨trivial,Cb _,?_⟩|refine⟨trivial,?_⟩);(first
     |(gi_at_call 26;refine(CallsIn.inRound l (UK.2 (vc _ (Below.refl _ _)))).mono ?_;rintro e Ca ⟨va,Qe,rfl,oc,od⟩;have oa:=la.frame La oc;have n1:Ca.cell? (vA (W.heap.size+1) 0)=some (vP bt):=oa.b1.cell 0;have n2:Ca.cell? (vA (W.heap.size+1) 1)=some (vP br):=oa.b1.cell 1;have de:Ca.cell? (vA (W.heap.size+1+1) 2)=some (vG s):=(oa.b2.cell (2)).trans (by rw[I.out];rfl);have ee:Ca.cell? (vA (W.heap.size+1+1) 4)=some (vI a0):=(oa.b2.cell (4)).trans (by rw[I.out];rfl);have fe:Ca.cell? (vA (W.heap.size+1+1) (4+1))=some (vI a1):=(oa.b2.cell (4+1)).trans (by rw[I.out];rfl);have ie:Ca.cell? (vA (W.heap.size+1+1) 6)=some (vI c0):=(oa.b2.cell (6)).trans (by rw[I.out];rfl);have je:Ca.cell? (vA (W.heap.size+1+1) (6+1))=some (vI c1):=(oa.b2.cell (6+1)).trans (by rw[I.out];rfl);have De:Ca.cell? (vA W.heap.size 0)=some (vP bw):=oa.b0.cell 0;have Fe:Ca.cell? (vA (f.heap.size+1+1) 0)=some (.bool true):=oa.o.cell 0;have Ee:=oa.o.frozen 0)
     |(gi_at_call 69;refine(CallsIn.inRound l (UK.2 (wc _ _ _ _ od (Below.refl _ _)))).mono ?_;rintro e Da ⟨qe,Ge,rfl,Zb,pd⟩;have pa:=oa.frame La Zb;have He:Da.cell? (vA (W.heap.size+1) 0)=some (vP bt):=pa.b1.cell 0;have Ie:Da.cell? (vA (W.heap.size+1) 1)=some (vP br):=pa.b1.cell 1;have Ud:Da.cell? (vA (W.heap.size+1+1) 2)=some (vG s):=(pa.b2.cell (2)).trans (by rw[I.out];rfl);have Vd:Da.cell? (vA (W.heap.size+1+1) 4)=some (vI a0):=(pa.b2.cell (4)).trans (by rw[I.out];rfl);have Wd:Da.cell? (vA (W.heap.size+1+1) (4+1))=some (vI a1):=(pa.b2.cell (4+1)).trans (by rw[I.out];rfl);have Xd:Da.cell? (vA (W.heap.size+1+1) 6)=some (vI c0):=(pa.b2.cell (6)).trans (by rw[I.out];rfl);have Yd:Da.cell? (vA (W.heap.size+1+1) (6+1))=some (vI c1):=(pa.b2.cell (6+1)).trans (by rw[I.out];rfl);have Je:Da.cell? (vA W.heap.size 0)=some (vP bw):=pa.b0.cell 0;have Le:Da.cell? (vA (f.heap.size+1+1) 0)=some (.bool true):=pa.o.cell 0;have Ke:=pa.o.frozen 0)
     |(gi_at_call 68;refine(CallsIn.inRound l (UK.2 (Cc _ _ _ _ _ _ pd (Below.refl _ _)))).mono ?_;rintro e ma ⟨rfl,cc,qd⟩;have qa:=pa.frame La cc;have Me:ma.cell? (vA (W.heap.size+1) 0)=some (vP bt):=qa.b1.cell 0;have Oe:ma.cell? (vA (W.heap.size+1) 1)=some (vP br):=qa.b1.cell 1;have Zd:ma.cell? (vA (W.heap.size+1+1) 2)=some (vG s):=(qa.b2.cell (2)).trans (by rw[I.out];rfl);have ae:ma.cell? (vA (W.heap.size+1+1) 4)=some (vI a0):=(qa.b2.cell (4)).trans (by rw[I.out];rfl);have ke:ma.cell? (vA (W.heap.size+1+1) (4+1))=some (vI a1):=(qa.b2.cell (4+1)).trans (by rw[I.out];rfl);have me:ma.cell? (vA (W.heap.size+1+1) 6)=some (vI c0):=(qa.b2.cell (6)).trans (by rw[I.out];rfl);have oe:ma.cell? (vA (W.heap.size+1+1) (6+1))=some (vI c1):=(qa.b2.cell (6+1)).trans (by rw[I.out];rfl);have tb:ma.cell? (vA W.heap.size 0)=some (vP bw):=qa.b0.cell 0;have tk:ma.cell? (vA (f.heap.size+1+1) 0)=some (.bool true):=qa.o.cell 0;have tf:=qa.o.frozen 0)))
    have Nc:RK (f.heap.size+3) r ma:=RK.zf (RK.zf (RK.zf ec oc (h_ la.lt) (fun h=>h (by unfold Frm;omega)) (fun h=>h (by unfold Frm;omega))) Zb (h_ oa.lt) (fun h=>h (by unfold Frm;omega)) (fun h=>h (by unfold Frm;omega))) cc (h_ pa.lt) (fun h=>h (by unfold Frm;omega)) (fun h=>h (by unfold Frm;omega));have kc:zd (fun b=>b=f.heap.size+1+1) ma (ma.setCell (vA (f.heap.size+1+1) 0) (.bool true)):=(zd.refl (fun b=>b=f.heap.size+1+1) _).setCell (p:=vA (f.heap.size+1+1) 0) rfl _;have Fc:=Nc.zf kc (h_ qa.lt) o_ o_;have Dc:=sc _ (Pc x ma _ qd (kc.mono (fun b hb=>by omega)));have Bc:=qa.setO La;have Kb:Hid (rfP3 (f.heap.size+3) (fun A=>Inv x.next A/\x.next.j<=N/\x.next.j<=most/\FB W.heap.size f.heap.size bw bt br na most (vS C N F) A x.next.j) (fun c A=>c=.exit 0/\∃y,Inv y A/\most<=N/\FB W.heap.size f.heap.size bw bt br na most (vS C N F) A most) r .normal {tmps:=#[],defers:=[]} (ma.setCell (vA (f.heap.size+1+1) 0) (.bool true))):=by
     have Ha:x.next.j=j+1:=by rw[ab.out.2.2];rfl
     show RK _ _ _/\_
     rw[Ha]
     exact⟨Fc,Dc,o_,o_,Bc⟩
    gi_wp2
    exact Kb.out
   ·have nc:=L.next x M (fun e=>Ya (by rw[ab.out.2.2];exact e)) nb;have Kb:Hid (rfP3 (f.heap.size+3) (fun A=>Inv x.next A/\x.next.j<=N/\x.next.j<=most/\FB W.heap.size f.heap.size bw bt br na most (vS C N F) A x.next.j) (fun c A=>c=.exit 0/\∃y,Inv y A/\most<=N/\FB W.heap.size f.heap.size bw bt br na most (vS C N F) A most) r .normal {tmps:=#[],defers:=[]} M):=by
     have Ha:x.next.j=j+1:=by rw[ab.out.2.2];rfl
     show RK _ _ _/\_
     rw[Ha]
     exact⟨ec,nc,o_,o_,la⟩
    have sd:(((j:Int)+1) == 1)=false:=by simp;omega
    clear L la Ga Ab yb Mb nb nc
    gi_wp2
    have jc:=Kb.out;rw[Sb.out]at jc
    exact jc
 case done =>
  rintro x A dd ⟨sa,Ta,h3,ja⟩ ib
  have Ra:=ja.b3.cell 0;have Ia:=ja.k.cell 0;have Ea:=ja.n.cell 0;have Hb:=ja.o.cell 0;simp only[s7]at Ra Ia Ea Hb;rw[dd]at Ea;have cb:=Bb x (A.putObj Na.heap.size (.deferred none)) (L.zf x A _ sa ((zd.refl _ _).putObj (by rw[ua];omega) _));clear L gb qb sa ja ua
  by_cases Uc:N=most
  ·subst Uc
   gi_wp2
   refine⟨s_,.inl ⟨_,_,rfl,run_takeDeferred ib,?_⟩⟩
   exact⟨.bool true,by simp[results,results128,go_sem],rfl,cb⟩
  ·have Oa:N<most:=o_
   gi_wp2
   refine⟨s_,.inl ⟨_,_,rfl,run_takeDeferred ib,?_⟩⟩
   exact⟨.bool true,by simp[results,results128,go_sem],rfl,cb⟩
 case stop =>
  rintro c x A ⟨rfl,y,sa,h3,ja⟩ ib
  have Ra:=ja.b3.cell 0;have Ia:=ja.k.cell 0;have Ea:=ja.n.cell 0;have Hb:=ja.o.cell 0;simp only[s7]at Ra Ia Ea Hb;have cb:=Bb y (A.putObj Na.heap.size (.deferred none)) (L.zf y A _ sa ((zd.refl _ _).putObj (by rw[ua];omega) _));clear L gb qb sa ja ua;have Oa:¬(N<most):=o_
  gi_wp2
  refine⟨s_,.inl ⟨_,_,rfl,run_takeDeferred ib,?_⟩⟩
  exact⟨.bool true,by simp[results,results128,go_sem],rfl,cb⟩
end
section
open Go.RowKit
variable {A:World}{c j n t:Nat}{xs:List Value}
section
variable (o:Nat) (τ : Nat->yd) (W:World) (bw:Nat) (a:List Tw) (K:Nat) (z N f:Nat) (ad:Option Addr) (p:List Value) (d:Nat->QC) (k:Nat->List Int)
def bdI (j:Nat):Nat:=200*K+4*j+(if j=0 then 0 else 4)
def GInv (y:IS)(A:World):Prop:=∃τ1 b c,Vo τ W τ1 A/\St o τ1 A bw b (bdI K y.j)/\(∀q∈b,US (if y.j=0 then K else K+1) q)/\b.length=a.length/\(y.j=0->b=a)/\GL τ1 A W.heap.size z N f ad p c d k y/\y.j<=N
def GMid (y:IS)(A:World):Prop:=∃τ1 b c,Vo τ W τ1 A/\St o τ1 A bw b (bdI K y.j+4)/\(∀q∈b,US (if y.j=0 then K else K+1) q)/\b.length=a.length/\(y.j=0->b=a)/\GL τ1 A W.heap.size z N f ad p c d k y.next/\y.j<N
def e5 (y:IS)(A:World):Prop:=∃τ1 b c,Vo τ W τ1 A/\St o τ1 A bw b (200*K+8)/\(∀q∈b,US (K+1) q)/\b.length=a.length/\GL τ1 A W.heap.size z N f ad p c d k y.next/\y.j=0/\y.j<N
end
section
variable {o:Nat}{τ : Nat->yd}{W:World}{bw:Nat}{a:List Tw}{K:Nat}{z N f:Nat}{ad:Option Addr}{p:List Value}{d:Nat->QC}{k:Nat->List Int}
theorem Vo.Zk{τ1:Nat->yd}{B:World}(h:Vo τ W τ1 A)(c:W.heap.size<=z)(a:zd (fun b=>z<=b/\b<z+5) A B):Vo τ W τ1 B :=
 ⟨h.old,h.zf.step a (fun b hb e=>by omega)⟩
theorem Vo.mh{τ1:Nat->yd}{B:World}(h:Vo τ W τ1 A)(hb:Bw A B):Vo τ W (Vq τ1 A.heap.size) B:=h.trans (Vo.below hb)
theorem lk{q e:QC}(h:q.p=e.p/\q.lf=e.lf/\q.i0=e.i0/\q.i1=e.i1/\q.i2=e.i2/\q.i3=e.i3/\q.i4=e.i4/\q.i5=e.i5/\q.m=n/\e.m=n):q.vals=#[vG e.p,.bool e.lf,vI e.i0,vI e.i1,vI e.i2,vI e.i3,vI e.i4,vI e.i5,.slice q.a n q.c]/\e.vals=#[vG e.p,.bool e.lf,vI e.i0,vI e.i1,vI e.i2,vI e.i3,vI e.i4,vI e.i5,.slice e.a n e.c]:=by
 obtain⟨b,d,h3,f,g,i,j,k,l,o⟩:=h;unfold QC.vals;rw[b,d,h3,f,g,i,j,k,l,o]
 exact⟨rfl,rfl⟩
theorem hB{a:Option Addr}{N:Nat}(h:A.ownsRow 0 37 9 (.slice a N c) N xs)(k:j<N):∃g,a=some (vA g 0)/\g<A.heap.size/\∀i u,xs[j*9+i]?=some u->A.cell? (vA g (j*9+i))=some u:=by
 obtain⟨g,f,e,_,_⟩:=VX h o_;injection e with b _ _;subst b
 refine⟨g,rfl,UI h rfl,fun i u d=>?_⟩
 have:=h.cells (g:=g) rfl (j*9+i) u d
 rwa[Addr.add_lit,Nat.zero_add]at this
theorem k8{x:Tw}(Pa:K<=2000000)(eb:N<=20)(Sa:a[t]?=some x)(ha:W.heap.size+4<=z)(Na:o<=W.heap.size)(Ea:N<=f/\f<=maxLen)(s s2:ByteArray)(Ra:s.size<=2000000)(a0 a1 c0 c1:Int):
  Rnds W.heap.size z bw x.bt x.br N f ad s s2 a0 a1 c0 c1 d (GInv o τ W bw a K z N f ad p d k) (GMid o τ W bw a K z N f ad p d k) (e5 o τ W bw a K z N f ad p d k):=by
 have ba:W.heap.size<=z:=o_
 constructor
 case zf =>
  rintro y A B ⟨τ1,G,C,m1,v,w,D,J,c,H⟩ O
  exact⟨τ1,G,C,m1.Zk ba O,v.zf O (fun b hb e=>c.fr b (.inr e)) (fun _ _=>rfl),w,D,J,c.Zk O,H⟩
 case keepM =>
  rintro y A B ⟨τ1,G,C,m1,v,w,D,J,c,H⟩ O
  exact⟨τ1,G,C,m1.Zk ba O,v.zf O (fun b hb e=>c.fr b (.inr e)) (fun _ _=>rfl),w,D,J,c.Zk O,H⟩
 case keep2 =>
  rintro y A B ⟨τ1,G,C,m1,v,w,D,c,H⟩ O
  exact⟨τ1,G,C,m1.Zk ba O,v.zf O (fun b hb e=>c.fr b (.inr e)) (fun _ _=>rfl),w,D,c.Zk O,H⟩
 case cap=>exact Ea
 case cells =>
  rintro y A ⟨τ1,G,C,m1,v,w,D,J,c,H⟩ r
  obtain⟨g,I,P,h3⟩:=hB c.pr r
  exact⟨g,I,P,fun i u ga=>h3 i u (c.pc _ _ _ r ga)⟩
 case doc =>
  rintro y A ⟨τ1,G,C,m1,v,w,D,J,c,H⟩ r
  obtain⟨g,I,P,h3⟩:=hB c.dr r
  exact⟨g,I,(c.df g (by rw[I];rfl)).2,fun i u ga=>h3 i u (c.dc _ _ _ r ga)⟩
 case same =>
  rintro y A B ⟨τ1,G,C,m1,v,w,D,J,c,H⟩ r hb
  obtain⟨na,oa,pa,qa,ra,sa,ta,ua,V,aa,Da⟩:=c.eq y.j r;obtain⟨ab,bb⟩:=lk ⟨na,oa,pa,qa,ra,sa,ta,ua,V,aa⟩;have R:=Yv hb (c.pw y.j (Nat.le_refl _) r).1;have Y:=Yv hb (c.dw y.j r).1;unfold QC.sl at R Y;rw[V]at R;rw[aa]at Y;rw[ab,bb]
  exact fN (l:=k y.j) rfl o_ (ZA R) (ZA Y) (bB R) (bB Y) _ _ _ _ _ _ _ _
 case look =>
  rintro y A B ⟨τ1,G,C,m1,v,w,D,J,c,H⟩ hb
  obtain⟨Ka,Ja,Ma,Ia,La,ns,Oa,ms,Xa,Q⟩:=v.below hb;have r:y.j<=20:=o_;have I:=Q.n1;have P:=Q.n2;have Va:bdI K y.j<=900000000:=by unfold bdI;split<;>omega
  exact bo Q.law.ze Q.law.N Q.law.E o_ o_
 case own =>
  rintro y A B ⟨τ1,G,C,m1,v,w,D,J,c,H⟩ r hb
  obtain⟨Ka,Ja,Ma,Ia,La,ns,Oa,ms,Xa,Q⟩:=v.below hb;have I:=Q.n1;have P:=Q.n2;have Va:bdI K y.j<=900000000:=by unfold bdI;split<;>omega
  obtain⟨na,oa,pa,qa,ra,sa,ta,ua,V,aa,Da⟩:=c.eq y.j r;obtain⟨Ba,ia⟩:=c.pw y.j (Nat.le_refl _) r;have R:=Yv hb Ba;have g1:=c.move (τ2:=Vq τ1 A.heap.size) ha (T:=fun _=>False) (zd.new hb) (fun _ _ h=>h.elim) (fun b hb=>VK hb);have U:∀b,(y.q y.j).sl.ownBlock=some b->Vq τ1 A.heap.size b=.free:=fun b F=>by rw[VK (UI Ba F)];exact(ia b F).1
  have X:∀b,(y.q y.j).sl.ownBlock=some b->W.heap.size<=b:=fun b F=>by have:=(ia b F).2;omega
  have ea:(y.q y.j).m=(k y.j).length:=V;unfold QC.sl at R U X g1;rw[ea]at R U X ⊢
  refine(gx Q.law o_ R o_ U).mono ?_
  rintro e w' ⟨rfl,τ2,ib,gb,jb,kb,Qa,hI,db⟩
  obtain⟨τ3,Aa,Ta⟩:=St.told (e:=vR (.bool true)) (M:=bdI K y.j+4) Q (fun b F=>⟨U b F,Nat.le_trans Na (X b F)⟩) ⟨rfl,τ2,_,_,_,_,_,_,_,_,Qa,hI,o_,o_⟩;have ma:=Aa;have g2:=GL.own g1 ha r (τ2 := τ3) (B:=w') (by unfold QC.sl;rw[ea];exact ma)
  refine⟨rfl,⟨τ3,G,C,(m1.mh hb).own Aa X,Ta,w,D,J,g2,r⟩,ma.zf.mono (fun b F L=>?_)⟩
  have Ua:=g1.fr b L
  rcases F.2 with e|e
  ·rw[Ua]at e;exact e
  ·have:=(ia b (by unfold QC.sl;rw[ea];exact e)).2
   unfold Frm at L
   omega
 case next =>
  rintro y A r ⟨τ1,G,C,m1,v,w,D,J,c,H⟩
  refine⟨τ1,G,C,m1,?_,?_,D,(fun e=>by cases e),c,H⟩
  ·have:bdI K y.next.j=bdI K y.j+4:=by unfold bdI IS.next;simp[r];omega
   rw[this];exact v
  ·rw[if_neg r]at w;rw[if_neg (show ¬y.next.j=0 from fun e=>by cases e)]
   exact w
 case next0 =>
  rintro y A ⟨τ1,G,C,m1,v,w,D,c,H,Wa⟩
  refine⟨τ1,G,C,m1,?_,?_,D,(fun e=>by cases e),c,Wa⟩
  ·have:bdI K y.next.j=200*K+8:=by unfold bdI IS.next;simp[H]
   rw[this];exact v
  ·rw[if_neg (show ¬y.next.j=0 from fun e=>by cases e)]
   exact w
 case zj =>
  rintro y A r ⟨τ1,G,C,m1,v,w,D,J,c,H⟩
  obtain rfl:=J r;rw[if_pos r]at w;have Ha:bdI K y.j+4=200*K+4:=by unfold bdI;simp[r]
  rw[Ha]at v;obtain⟨zm,er,n,M1,M2,ka,la,Ca⟩:=oq (N:=200*K+4) Pa o_ v w Sa s Ra a0 a1 c0 c1;simp only[xn]at ka la;have cb:=c.fl;have Ga:∀b,Frm W.heap.size z b->b<A.heap.size:=fun b L=>by unfold Frm at L;omega
  refine⟨er,n,M1,M2,fun B hb=>(ka B hb).mono ?_,fun va S B Z da hb=>(la va S B Z da hb).mono ?_,fun va S ca ja B Z da hb=>(Ca va S ca ja B Z da hb).mono ?_⟩
  ·rintro e w' ⟨va,S,I,P,h3⟩
   exact⟨va,S,I,P.mono (fun b F L=>F.2 (c.fr b L)),h3⟩
  ·rintro e w' ⟨ca,ja,I,P,h3⟩
   exact⟨ca,ja,I,P.mono (fun b F L=>F.2 (c.fr b L)),h3⟩
  ·rintro e w' ⟨⟨I,τ2,Fa,n1,n2,Ya,Za⟩,P⟩
   refine⟨I,P.mono (fun b F L=>?_),τ2,Fa,C,m1.trans n1,n2,Ya,Za.trans D,c.move ha n1.zf (fun b F e=>e.2) n1.old,r,H⟩
   rcases F with e|e
   ·have:=Ga b L;omega
   ·exact e (c.fr b L)
end
end
end Go.Proofs.YtphclnolomgjoaaGreatDoor
