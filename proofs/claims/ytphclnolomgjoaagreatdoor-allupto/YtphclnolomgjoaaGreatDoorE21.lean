import Derived.Test.YtphclnolomgjoaaGreatDoorE17
import Derived.Defers
set_option linter.unusedVariables false
set_option linter.unusedSimpArgs false
set_option maxRecDepth 100000
set_option maxHeartbeats 4000000
namespace Go.Proofs.YtphclnolomgjoaaGreatDoor
open Tryz
section
open Go.RowKit
variable {s:SS}{W' w w':World}{a d err zo:Int}{ok j zj:Bool}{F1 F2 bp bq bt cap cp gp i n:Nat}{dW dX vp vq:Array Value}{Ws:List Wk}{ev v va vw:Value}{xs:List Value}{k':List Bs}{l ws zh:List Pw}{T:Nat->Prop}
theorem p9(L:List zx)(h:ye s)(d:s.zt=[]):(UH L s).zt.length<=990:=by
 have i:s.Ws.length<=24:=h.yh.yh.len;obtain⟨c,b1⟩:=bn (f:=ej L) (I:=ye) 25 (fun s g b a=>⟨(b.own a).1,(b.own a).2.2.2.2⟩) s.Ws.length s h;obtain⟨_,b2⟩:=bn (f:=VL L) (I:=ye) 1 (fun s g b a=>⟨(b.idle a).1,by rw[(b.idle a).2.2.2.2];omega⟩) s.Ws.length _ c;have e:UH L s=wW (VL L) s.Ws.length (wW (ej L) s.Ws.length s):=rfl;rw[e];rw[d]at b1
 simp at b1
 have:25*s.Ws.length<=600:=o_
 omega
def Tw.same(x:Tw)(err:Int):Out:=⟨err,x.L,x.Ws,x.zo,x.st,[]⟩
def Wg (L:List zx)(zo:Int)(fin:SS):Out:=⟨0,L,fin.Ws,zo,fin.st,fin.zt⟩
section
variable {τ : Nat->yd}{t K:Nat}{W:World}{x:Tw}
theorem Zw(h:UJ τ t W x.bt x.za x.zn x.vw x.va x.ws x.zh)(A:US K x)(hb:Bw W w')(err:Int):vm τ t W x.bt (x.same err) v0_ w':=by
 have a:=h.zf (τ':=Vq τ W.heap.size) (T:=fun _=>False) (zd.new hb) (fun _ _ h=>h.elim) (fun b hb=>VK hb)
 refine⟨Vq τ W.heap.size,x.za,x.vw,x.va,x.ws,x.zh,fun b hb=>VK hb,fun b hb=>.inl (XJ hb),?_,A.L.symm,A.com,Vx _ _ _ _,(fun b hb=>by cases hb),zd.new hb⟩
 show UJ _ t w' x.bt x.za x.zo x.vw x.va x.ws x.zh
 rw[A.zo];exact a
theorem YE(h:zy W x.br x.g x.cap x.L x.ao x.cW x.Ws x.zo x.st)(hb:Bw W w')(err:Int):V_ W x.br x.g x.wv.ownBlock (x.same err).L (x.same err).zo ⟨(x.same err).Ws,(x.same err).st,(x.same err).zt⟩ v0_ w' :=
 ⟨⟨x.g,x.cap,x.ao,x.cW,h.below hb,.inl rfl,fun b a=>⟨fun _=>a,fun e=>by cases e⟩⟩,zd.new hb,Vx _ _ _ _,fun b e=>by cases e⟩
theorem US.inv(A:US K x):ye ⟨x.Ws,x.st,[]⟩:=A.com.inv
theorem US.ents(A:US K x):ym x.L:=by rw[A.L];exact A.com.tree.ents
theorem US.uj(A:US K x):∀a∈x.L,∀b∈x.L,a.zb=b.zb->a=b:=by rw[A.L];exact A.com.tree.uj
theorem zr.bors{za:List zc}(T:zr za):wb (za.map zc.zq):=fun e a=>by
 obtain⟨n,b,rfl⟩:=UC.1 a
 have:=T.zm n b
 exact⟨this.2.2.1,this.2.2.2.1⟩
theorem US.bors(A:US K x):wb x.L:=by rw[A.L];exact A.com.tree.bors
theorem dn(A:US K x){y:zx}{e:Ending}(k:UJ τ t W x.bt x.za x.zn x.vw x.va x.ws x.zh)(h:X7 τ t W x.bt x.za x.zn x.Ws x.st err y e w'):
  ∃ev,e=vT #[ev,vI err]/\(err≠0->vm τ t W x.bt (x.same err) ev w')/\(err=0->vm τ t W x.bt (Wg (x.L++[y]) x.zo (UH (x.L++[y]) ⟨x.Ws,x.st,[]⟩)) ev w'):=by
 rcases h with ⟨f,rfl,hb⟩|⟨f,τ',c,g,i,d,b,ev,rfl,m1,l,j,a,m,n,o,p⟩
 ·exact⟨_,rfl,fun _=>Zw k A hb err,fun e=>absurd e f⟩
 ·subst f
  refine⟨ev,rfl,fun e=>absurd rfl e,fun _=>⟨τ',c,g,i,d,b,m1,l,?_,?_,?_,?_,o,p⟩⟩
  ·show UJ τ' t w' x.bt c x.zo g i d b
   rw[A.zo];exact j
  ·show _=x.L++[y]
   rw[A.L];exact a
  ·show ud c (UH (x.L++[y]) ⟨x.Ws,x.st,[]⟩).Ws x.zo (UH (x.L++[y]) ⟨x.Ws,x.st,[]⟩).st d b
   rw[A.L,<- a]
   refine ud.settled j.pr.tree A.inv (A.com.wkl.grown a) A.com.cnt0 ?_
   rw[a];exact m
  ·show w'.ownsRow 0 60 2 ev (UH (x.L++[y]) ⟨x.Ws,x.st,[]⟩).zt.length (UZ (UH (x.L++[y]) ⟨x.Ws,x.st,[]⟩).zt)
   rw[A.L];exact n
theorem dT(A:US K x){s:Bs}(f:vy x.L s ok=0){b c:Int}(l:ok=true->Uu a b=true/\Uu c d=true):
  ym (x.L++[⟨s4 s,zj,a,b,c,d⟩])/\wb (x.L++[⟨s4 s,zj,a,b,c,d⟩]):=by
 have E:=A.ents;have B:=A.bors;unfold vy at f
 split at f
 ·cases f
 rename_i n
 split at f
 ·cases f
 split at f
 ·cases f
 rename_i i
 obtain⟨j,k⟩:=l (by cases ok;simp at i;rfl)
 simp[Uu]at j k
 split at f
 ·cases f
 rename_i hd
 split at f
 ·cases f
 unfold lY at f
 split at f
 ·cases f
 split at f
 ·cases f
 split at f
 ·cases f
 rename_i o
 have h:UB s=true:=by cases m:UB s;simp[m]at n;rfl
 refine⟨⟨fun e f=>?_,fun e f=>?_,by simp;omega,s_⟩,fun e f=>?_⟩
 ·rcases UU.1 f with g|g
  ·exact E.ok e g
  ·simp only[List.mem_singleton]at g;subst g
   exact⟨by simp only;rw[<-VY];exact h,by simp only;unfold WR at hd;omega⟩
 ·rcases UU.1 f with g|g
  ·exact E.zm e g
  ·simp only[List.mem_singleton]at g;subst g
   simp only;omega
 ·rcases UU.1 f with g|g
  ·exact B e g
  ·simp only[List.mem_singleton]at g;subst g
   simp only;omega
def xn (_num er:Int)(v:Value):Value:=.tuple #[v,vI er]
def mkk3 (zm er:Int)(v:Value):Value:=.tuple #[vI zm,v,vI er]
def Yp (p:Nat)(τ : Nat->yd)(W:World)(bw k K:Nat)(F1:Nat)(dW:Array Value)(F2:Nat)(dX:Array Value)(mk:Int->Int->Value->Value):Prop :=
 ∃(zm er:Int) (n:Nat) (M1:Option Addr->Nat->World->Prop) (M2:Option Addr->Nat->Option Addr->Nat->World->Prop),
   (∀d,Bw W d->Calls prog F1 dW d fun e w'=>∃a c,e=vR (mk zm er (.slice a n c))/\zd (fun b=>b<W.heap.size) d w'/\M1 a c w') /\
   (∀a c d f,M1 a c d->Bw d f->Calls prog F2 dX f fun e w'=>∃a2 c2,e=vR (mk zm er (.slice a2 n c2))/\zd (fun b=>b<W.heap.size) f w'/\M2 a c a2 c2 w') /\
   (∀a c a2 c2 d f,M2 a c a2 c2 d->Bw d f->Calls prog 68 #[vP bw,.slice a n c,vI er,.slice a2 n c2,vI er] f (VI p τ W bw k (K+1)))
variable {p bw:Nat}{f:List Tw}{r:Nat}
theorem WM{o:Out}(i:K<=2000000)(h:St p τ W bw f (200*K))(d:∀y∈f,US K y)(m:f[t]?=some x)(n:o.zt.length<=990)(j:o.zo<=K+1)(l:o.st<=48*(K+1))
  (mk:Int->Int->Value->Value) (zm:Int)
  (hp:∀τ1 a,UJ τ1 t a x.bt x.za x.zn x.vw x.va x.ws x.zh->Calls prog F1 dW a fun e w'=>∃ev,e=vR (mk zm o.err ev)/\vm τ1 t a x.bt o ev w')
  (k:∀a,zy a x.br x.g x.cap x.L x.ao x.cW x.Ws x.zo x.st->Calls prog F2 dX a fun e w'=>∃sl,e=vR (mk zm o.err sl)/\V_ a x.br x.g x.wv.ownBlock o.L o.zo ⟨o.Ws,o.st,o.zt⟩ sl w') :
  Yp p τ W bw f.length K F1 dW F2 dX mk:=by
 obtain⟨M1,M2,b,c,h3⟩:=r9 (mk1:=mk zm o.err) (mk2:=mk zm o.err) i h d m (o:=o) rfl n j l hp k
 exact⟨zm,o.err,_,M1,M2,b,c,h3⟩
theorem XO(A:US K x)(err:Int):(x.same err).zt.length<=990/\(x.same err).zo<=K+1/\(x.same err).st<=48*(K+1):=by
 have:=A.cntK;have:=A.stK
 exact⟨by simp[Tw.same],by simp only[Tw.same];omega,by simp only[Tw.same];omega⟩
theorem YG(A:US K x)(L:List zx)(I:ye ⟨Ws,x.st,[]⟩)(a:zo<=K+1):(Wg L zo (UH L ⟨Ws,x.st,[]⟩)).zt.length<=990/\(Wg L zo (UH L ⟨Ws,x.st,[]⟩)).zo<=K+1/\(Wg L zo (UH L ⟨Ws,x.st,[]⟩)).st<=48*(K+1):=by
 have b:=A.stK;obtain⟨_,_,h3⟩:=hD L I
 simp only at h3
 exact⟨p9 L I rfl,a,by simp only[Wg];omega⟩
theorem oX(z:K<=2000000)(h:St p τ W bw f (200*K))(u:∀y∈f,US K y)(v:f[t]?=some x)(s:ByteArray)(B:s.size<=2000000)(a b c d:Int):
  Yp p τ W bw f.length K 26 #[vP x.bt,vG s,.agg #[vI a,vI b],.agg #[vI c,vI d]] 69 #[vP x.br,vG s,.agg #[vI a,vI b],.agg #[vI c,vI d]] xn:=by
 have A:=u x (Uq v);have C:x.st<=900000000:=by have:=A.stK;omega
 have E:UX [(a,b),(c,d)]=(Uu a b&&Uu c d):=by simp[UX]
 have D:vy x.L (bl s) (Uu a b&&Uu c d)=VC x.za (bl s) (UX [(a,b),(c,d)]):=by rw[E,A.L];exact dI _ _ _
 have hp:=fun τ1 i (k:UJ τ1 t i x.bt x.za x.zn x.vw x.va x.ws x.zh)=>(fh k A.com.rel A.inv s B a b c d).mono (fun e w' n=>dn A k n)
 have r:=fun i (l:zy i x.br x.g x.cap x.L x.ao x.cW x.Ws x.zo x.st)=>iX l A.ents A.uj A.inv C s B a b c d (fun q=>dT A q (fun h=>by simpa using h))
 rw[D]at r;generalize VC x.za (bl s) (UX [(a,b),(c,d)])=err at hp r
 by_cases q:err=0
 ·subst q;obtain⟨l1,l2,w⟩:=YG A (x.L++[⟨s4 (bl s),true,a,b,c,d⟩]) A.inv (zo:=x.zo) (h_ A.cntK);unfold Yn at r;generalize UH (x.L++[⟨s4 (bl s),true,a,b,c,d⟩]) ⟨x.Ws,x.st,[]⟩=fin at *
  refine WM z h u v (o:=Wg (x.L++[⟨s4 (bl s),true,a,b,c,d⟩]) x.zo fin) l1 l2 w xn 0 (fun τ1 i k=>(hp τ1 i k).mono fun e w' ⟨ev,j,_,h3⟩=>⟨ev,j,h3 rfl⟩) (fun i l=>(r i l).mono fun e w' n=>?_)
  rcases n with ⟨j,_⟩|⟨_,sl,j,m⟩
  ·exact absurd rfl j
  ·exact⟨sl,j,m⟩
 ·obtain⟨l1,l2,w⟩:=XO A err
  refine WM z h u v (o:=x.same err) l1 l2 w xn 0 (fun τ1 i k=>(hp τ1 i k).mono fun e w' ⟨ev,j,m,_⟩=>⟨ev,j,m q⟩) (fun i l=>(r i l).mono fun e w' n=>?_)
  rcases n with ⟨_,j,m⟩|⟨j,_⟩
  ·exact⟨_,j,YE l m err⟩
  ·exact absurd j q
theorem nk(v:K<=2000000)(h:St p τ W bw f (200*K))(q:∀y∈f,US K y)(r:f[t]?=some x)(s:ByteArray)(w:s.size<=2000000)(c d:Int):
  Yp p τ W bw f.length K 27 #[vP x.bt,vG s,.agg #[vI c,vI d]] 67 #[vP x.br,vG s,.agg #[vI c,vI d]] xn:=by
 have A:=q x (Uq r);have z:x.st<=900000000:=by have:=A.stK;omega
 have C:UX [(c,d)]=(Uu 0 0&&Uu c d):=by simp[UX,Uu]
 have B:vy x.L (bl s) (Uu 0 0&&Uu c d)=VC x.za (bl s) (UX [(c,d)]):=by rw[C,A.L];exact dI _ _ _
 have hp:=fun τ1 a (i:UJ τ1 t a x.bt x.za x.zn x.vw x.va x.ws x.zh)=>(kI i A.com.rel A.inv s w c d).mono (fun e w' l=>dn A i l)
 have n:=fun a (j:zy a x.br x.g x.cap x.L x.ao x.cW x.Ws x.zo x.st)=>o9 j A.ents A.uj A.inv z s w c d (fun m=>dT A m (fun h=>by simpa using h))
 rw[B]at n;generalize VC x.za (bl s) (UX [(c,d)])=err at hp n
 by_cases m:err=0
 ·subst m;obtain⟨l1,l2,u⟩:=YG A (x.L++[⟨s4 (bl s),false,0,0,c,d⟩]) A.inv (zo:=x.zo) (h_ A.cntK);unfold Yn at n;generalize UH (x.L++[⟨s4 (bl s),false,0,0,c,d⟩]) ⟨x.Ws,x.st,[]⟩=fin at *
  refine WM v h q r (o:=Wg (x.L++[⟨s4 (bl s),false,0,0,c,d⟩]) x.zo fin) l1 l2 u xn 0 (fun τ1 a i=>(hp τ1 a i).mono fun e w' ⟨ev,b,_,h3⟩=>⟨ev,b,h3 rfl⟩) (fun a j=>(n a j).mono fun e w' l=>?_)
  rcases l with ⟨b,_⟩|⟨_,sl,b,k⟩
  ·exact absurd rfl b
  ·exact⟨sl,b,k⟩
 ·obtain⟨l1,l2,u⟩:=XO A err
  refine WM v h q r (o:=x.same err) l1 l2 u xn 0 (fun τ1 a i=>(hp τ1 a i).mono fun e w' ⟨ev,b,k,_⟩=>⟨ev,b,k m⟩) (fun a j=>(n a j).mono fun e w' l=>?_)
  rcases l with ⟨_,b,k⟩|⟨b,_⟩
  ·exact⟨_,b,YE j k err⟩
  ·exact absurd b m
theorem jr(f:UJ τ t W x.bt x.za x.zn x.vw x.va x.ws x.zh)(A:US K x){r:zc}(h:x.za[0]?=some r)(I:ye ⟨Ws,x.st,[]⟩)(e:ue x.za Ws zo)(g:0<=zo) 
  (i:SetT x.za x.bt r (vI zo) x.vw x.va x.ws x.zh (UH (x.za.map zc.zq) ⟨Ws,x.st,[]⟩) ev W w'):vm τ t W x.bt (Wg x.L zo (UH x.L ⟨Ws,x.st,[]⟩)) ev w':=by
 obtain⟨τ',c,d,b,a,m1,j,k,l,m,n,o⟩:=f.set h i
 refine⟨τ',x.za,c,d,b,a,m1,j,k,A.L.symm,?_,?_,n,o⟩
 ·show ud x.za (UH x.L ⟨Ws,x.st,[]⟩).Ws zo (UH x.L ⟨Ws,x.st,[]⟩).st b a
  rw[A.L]
  exact ud.settled A.com.tree I e g l
 ·show w'.ownsRow 0 60 2 ev (UH x.L ⟨Ws,x.st,[]⟩).zt.length (UZ (UH x.L ⟨Ws,x.st,[]⟩).zt)
  rw[A.L];exact m
theorem nN(P:K<=1999999)(h:St p τ W bw f (200*K))(w:∀y∈f,US K y)(C:f[t]?=some x)(s:ByteArray)(B:s.size<=2000000)(a b:Int):
  Yp p τ W bw f.length K 32 #[vP x.bt,vG s,.agg #[vI a,vI b]] 70 #[vP x.br,vG s,.agg #[vI a,vI b]] mkk3:=by
 have A:=w x (Uq C);have J:x.st<=900000000:=by have:=A.stK;omega
 have O:=A.cntK;have H:=A.com.cnt0;have m:zS x.za (x.ws.length+x.zh.length) (bl s) (Uu a b)=xx x.L x.Ws (bl s) (Uu a b):=by rw[A.L];exact n8 A.com.rel A.inv.yh _ _
 have G:=fun d=>A.com.lR (s:=bl s) (a:=a) (b:=b) d
 have I:=fun j (k:zy j x.br x.g x.cap x.L x.ao x.cW x.Ws x.zo x.st)=>pI k A.ents A.bors A.uj A.inv J ⟨H,o_⟩ s B a b (fun d=>(G (m.trans d)).1)
 by_cases d:zS x.za (x.ws.length+x.zh.length) (bl s) (Uu a b)=0
 ·obtain⟨E,F⟩:=G d;obtain⟨l1,l2,D⟩:=YG A x.L E (zo:=x.zo+1) o_
  refine WM o_ h w C (o:=Wg x.L (x.zo+1) (UH x.L ⟨x.Ws++[VR x.zo (bl s) a b],x.st,[]⟩)) l1 l2 D mkk3 (x.zo+1) (fun τ1 j c=>?_) (fun j k=>(I j k).mono fun e w' z=>?_)
  ·obtain⟨r,l,hb⟩:=c.bk;obtain⟨u,q⟩:=Ww c.pr.tree l;have n:=E;rw[A.zo]at n F ⊢
   refine(oY c.pr.tree c.pr.WY hb (by rw[<-A.zo];exact H) (by rw[<-A.zo];omega) u q s B a b d A.com.rel n).mono ?_
   rintro e w' ⟨ev,rfl,N⟩
   exact⟨ev,rfl,jr c A l n F (by rw[<-A.zo];omega) N⟩
  ·rcases z with ⟨i,_⟩|⟨_,sl,i,v⟩
   ·exact absurd (m.symm.trans d) i
   ·exact⟨sl,i,v⟩
 ·obtain⟨l1,l2,D⟩:=XO A (zS x.za (x.ws.length+x.zh.length) (bl s) (Uu a b))
  refine WM o_ h w C (o:=x.same (zS x.za (x.ws.length+x.zh.length) (bl s) (Uu a b))) l1 l2 D mkk3 0 (fun τ1 j c=>?_) (fun j k=>(I j k).mono fun e w' z=>?_)
  ·obtain⟨r,l,hb⟩:=c.bk;obtain⟨u,q⟩:=Ww c.pr.tree l
   refine(oO c.pr.tree hb u q s B a b d).mono ?_
   rintro e w' ⟨rfl,M⟩
   exact⟨_,rfl,Zw c A M _⟩
  ·rcases z with ⟨_,i,v⟩|⟨i,_⟩
   ·rw[<-m]at i
    exact⟨_,i,YE k v _⟩
   ·exact absurd (m.trans i) d
theorem nt(D:K<=2000000)(h:St p τ W bw f (200*K))(s:∀y∈f,US K y)(v:f[t]?=some x)(m:Int):
  Yp p τ W bw f.length K 28 #[vP x.bt,vI m] 71 #[vP x.br,vI m] xn:=by
 have A:=s x (Uq v);have J:x.st<=900000000:=by have:=A.stK;omega
 have R:=A.cntK;have G:=fun b (c:zy b x.br x.g x.cap x.L x.ao x.cW x.Ws x.zo x.st)=>pB c A.ents A.bors A.inv J m
 by_cases F:∃(i:Nat) (y:Wk),x.Ws[i]?=some y/\y.zm=m
 ·obtain⟨i,y,d,rfl⟩:=F;obtain⟨n,H⟩:=A.com.finish i;obtain⟨l1,l2,B⟩:=YG A x.L n (zo:=x.zo) o_
  refine WM D h s v (o:=Wg x.L x.zo (UH x.L ⟨x.Ws.take i++x.Ws.drop (i+1),x.st,[]⟩)) l1 l2 B xn 0 (fun τ1 b a=>?_) (fun b c=>(G b c).mono fun e w' u=>?_)
  ·obtain⟨r,q,hb⟩:=a.bk;obtain⟨N,I⟩:=Ww a.pr.tree q
   refine(oM a.pr.tree a.pr.WY hb N I A.com.rel A.inv d n).mono ?_
   rintro e w' ⟨ev,rfl,E⟩
   rw[<-A.zo]at E
   exact⟨ev,rfl,jr a A q n H A.com.cnt0 E⟩
  ·rcases u with ⟨k,_⟩|⟨j,z,sl,l,w,k,O⟩
   ·exact absurd rfl (k y (Uq d))
   ·have:z=y:=YL A.inv.yh.nums (Uq l) (Uq d) w
    subst this;have Q:j=i:=(List.getElem?_inj (j_ ((Uy.1 l).1)) A.inv.yh.nums).1 (by simp[l,d]);subst Q
    exact⟨sl,k,O⟩
 ·have C:∀y∈x.Ws,y.zm≠m:=fun y P e=>by
   obtain⟨i,d⟩:=Vh P
   exact F ⟨i,y,d,e⟩
  obtain⟨l1,l2,B⟩:=XO A 12
  refine WM D h s v (o:=x.same 12) l1 l2 B xn 0 (fun τ1 b a=>?_) (fun b c=>(G b c).mono fun e w' u=>?_)
  ·obtain⟨r,q,hb⟩:=a.bk
   refine(oL hb A.com.rel A.inv.yh C).mono ?_
   rintro e w' ⟨rfl,M⟩
   exact⟨_,rfl,Zw a A M _⟩
  ·rcases u with ⟨_,k,rfl⟩|⟨j,z,sl,l,w,_⟩
   ·exact⟨_,k,YE c (Below.refl _ _) 12⟩
   ·exact absurd w (C z (Uq l))
end
theorem i97a:(prog.info? 97).map (fun i=>(i.size,i.bytes))=some (1,8):=k_
theorem i97b:(prog.info? 97).bind (fun i=>i.zero)=some (.pointer none):=k_
theorem fg:Wx 97 1 8:=XD i97a i97b rfl
theorem cz:prog.underlying 134=some (.slice 97):=k_
theorem lz(w:World):(zeroValue 97).run prog w=.ok (.pointer none) w:=k_
theorem kE{W:World}{g:Nat}(h:W.ownsRow 0 97 1 (vS g n cap) n xs)(J:i+1<n)(w:∀u∈xs,u.oneCell'=true)(c:Nat):
  ∃q w',(∀o,(Builtin.append_ #[134,134] o #[vS g i cap,.slice (some (vA g (i+1))) (n-(i+1)) c]).run prog W=.ok q w')/\q=vS g (n-1) cap /\
   (∃zn,w'.ownsRow 0 97 1 (vS g n cap) n (xs.take i++xs.drop (i+1)++[zn]))/\zd (fun b=>b=g) W w':=by
 obtain⟨i0,z,q2,L,m,M,N⟩:=fg;have s:=fun j (x:j<n*1)=>h.cellAt j x
 obtain⟨K,d⟩:=h
 rcases d with ⟨f,_⟩|⟨g',cap',a,f,hb,p,E,B,t,C⟩
 ·cases f
 cases f
 have H:xs.length=n:=o_;have d:=fun o=>run_append_room (P:=prog) W 134 o 97 i0 cz q2 g i cap a p (vA g (i+1)) (n-(i+1)) c (xs.drop (i+1)) (by rw[m];simp;omega)
  (fun j u e=>by
   rw[List.getElem?_drop]at e;rw[Addr.add_lit,s _ (h_ ((Uy.1 e).1))];exact e)
  (fun u e=>w u (List.mem_of_mem_drop e)) o_ (by rw[m];simp;omega)
 rw[m]at d;have v:i+(n-(i+1))=n-1:=o_;rw[v]at d
 refine⟨_,_,d,rfl,⟨a[n-1]'o_,⟨by simp;omega,.inr ⟨g,cap,_,rfl,Nat.zero_le _,setRow_heap W g a _ 97 _ p,E,B,?_,?_⟩⟩⟩,⟨rfl,rfl,rfl,s_,fun k _ y=>setRow_other W g k _ y⟩⟩
 ·simp;omega
 ·have D:xs=a.toList.take n:=by rw[<-C];simp
  have G:a.toList.length=cap*1:=by simpa using t
  rw[Nat.mul_one,Nat.mul_one];have ht:(a.toList.take i)=xs.take i:=by rw[D,List.take_take,Nat.min_eq_left o_]
  have hd:i+(xs.drop (i+1)).length=n-1:=by simp;omega
  rw[ht,hd];have r:a.toList.drop (n-1)=a[n-1]'o_::a.toList.drop n:=by
   have:=List.drop_eq_getElem_cons (l:=a.toList) (i:=n-1) o_
   rw[show n-1+1=n by omega]at this
   simpa using this
  rw[r];have F:(xs.take i++xs.drop (i+1)).length=n-1:=by simp;omega
  rw[List.toList_toArray];generalize xs.take i++xs.drop (i+1)=A at F ⊢;generalize a[n-1]'o_=I at r ⊢
  have:n=A.length+1:=o_
  rw[this,List.take_length_add_append]
  rfl
structure DelR (v:Value) (n i:Nat) (xs:List Value) (w:World) (v':Value) (w':World):Prop where
 row:w'.ownsRow 0 97 1 v' (n-1) (xs.take i++xs.drop (i+1))
 zf:zd (fun b=>v.ownBlock=some b) w w'
 own:v'.ownBlock=v.ownBlock
theorem oF(h:w.ownsRow 0 97 1 v n xs)(ba:n<=1000)(aa:i<n)(L:∀u∈xs,u.oneCell'=true):
  Calls prog 146 #[v,vI i,vI ((i:Int)+1)] w fun e w'=>∃a,e=vR a/\DelR v n i xs w a w':=by
 obtain⟨g,cap,rfl,ma,ca⟩:=VX h o_;have da:xs.length=n:=by have:=h.1;omega
 have t:∀W zn,W.ownsRow 0 97 1 (vS g n cap) n (xs.take i++xs.drop (i+1)++[zn])->zd (fun b=>b=g) w W->(∀f c,(Builtin.clear_ #[134] f #[.slice (some (vA g (n-1))) (n-(n-1)) c]).run prog W=.ok (.tuple #[]) (W.setCell (vA g (n-1)) (.pointer none)))/\DelR (vS g n cap) n i xs w (vS g (n-1) cap) (W.setCell (vA g (n-1)) (.pointer none)):=by
  intro W zn j q;have E:(xs.take i++xs.drop (i+1)).length=n-1:=by simp;omega
  have z:=j.cellAt (n-1) o_;rw[Wp o_,E,Nat.sub_self]at z;have K:=j.frozenAt (n-1);rw[show n-(n-1)=1 by omega]
  refine⟨fun f c=>Lib.run_clear_slice (P:=prog) W 134 97 f (.pointer none) cz lz rfl rfl g (n-1) 1 c o_ (fun k M=>by
     have:k=0:=o_
     subst this;rw[Nat.add_zero,z];rfl) (fun k M=>by
     have:k=0:=o_
     subst this
     exact K),⟨?_,?_,rfl⟩⟩
  ·have V:=(j.stored (n-1) (.pointer none)).1;have C:=dR V (m:=n-1) o_;rw[List.take_set_of_le (Nat.le_refl _),List.take_append,E,Nat.sub_self,List.take_zero,List.append_nil,Vl o_]at C
   exact C
  ·exact(q.mono (fun b e=>by rw[e];rfl)).setCell (p:=vA g (n-1)) r_ _
 have ea:(0:Int)<=i:=o_;have ga:(i:Int)<n:=o_;have ia:(n:Int)<=cap:=o_;have ja:((i:Int) == (i:Int)+1)=false:=by simp;omega
 have n1:((n-1:Nat):Int)<n:=o_
 by_cases I:i+1<n
 ·have F:∀W,Bw w W->∃a w',(∀f,(Builtin.append_ #[134,134] f #[vS g i cap,.slice (some (vA g (i+1))) (n-(i+1)) (cap-(i+1))]).run prog W=.ok a w')/\a=vS g (n-1) cap /\
   (∃zn,w'.ownsRow 0 97 1 (vS g n cap) n (xs.take i++xs.drop (i+1)++[zn]))/\zd (fun b=>b=g) w w':=fun W d=>by
   obtain⟨a,w',R,q2,S,U⟩:=kE (s8 (T:=fun _=>False) h (zd.new d) (fun _ _ h=>h)) I L (cap-(i+1))
   exact⟨a,w',R,q2,S,(zd.new d).trans U⟩
  have ha:(i:Int)+1<n:=o_;have ka:¬(cap=i+1):=o_;have la:¬(cap=n-1):=o_;have N:(i:Int)<=cap:=o_;have O:(i:Int)+1<=n:=o_;have Q:(0:Int)<=(i:Int)+1:=o_;have G:((n-1:Nat):Int)<=n:=o_;clear h
  go_enter func146,ntmps146
  go_wp2
  go_region_law (refine WL rfl (.tmp 22) (.tmp 25) 134 134 rfl _ _ ?_ ?_ (F _ ?_) ?_;(focus (simp[Act.eval,Act.put]));(focus ((try simp[Act.eval,Act.put]);(try rfl)));(focus exact cl);rintro D r ⟨rfl,⟨zn,j⟩,q⟩;obtain⟨H,A⟩:=t _ _ j q;have l:Hid (DelR (vS g n cap) n i xs w (vS g (n-1) cap) (r.setCell (vA g (n-1)) (.pointer none))):=A;clear A)
  all_goals go_wp2
  all_goals go_ret
  all_goals exact⟨_,rfl,l.out⟩
 ·obtain rfl:n=i+1:=o_;have B:xs.take i++xs.drop (i+1)++[xs[i]'o_]=xs:=by
   rw[List.drop_of_length_le o_,List.append_nil,List.take_append_getElem o_,Vl o_]
  have o:=fun W (d:Bw w W)=>t W (xs[i]'o_) (by rw[B];exact s8 (T:=fun _=>False) h (zd.new d) (fun _ _ h=>h)) (zd.new d)
  simp only[Nat.add_sub_cancel,Nat.add_sub_cancel_left]at o;have H:=(o w.drew ((Below.refl _ _).drew)).1;have l:Hid (∀W,Bw w W->DelR (vS g (i+1) cap) (i+1) i xs w (vS g i cap) (W.setCell (vA g i) (.pointer none))):=fun W d=>(o W d).2
  have N:(i:Int)<=cap:=o_;have O:(i:Int)+1<=(i+1:Nat):=o_;have Q:(0:Int)<=(i:Int)+1:=o_;have G:i<=cap:=o_;have Z:¬(cap=i):=o_;clear h o t B;have x:∀W,Bw w W->∀s c,∃a w',(∀f,(Builtin.append_ #[134,134] f #[vS g i cap,.slice s 0 c]).run prog W=.ok a w')/\a=vS g i cap/\Bw w w':=fun W d s c =>
   ⟨_,W,fun f=>bS cz fg W _ i cap o_ s c f,rfl,d⟩
  by_cases y:cap=i+1
  ·subst y;have X:(i:Int)<=(i:Int)+1:=o_;have Y:((i:Int)+1<(i:Int))=False:=by simp;omega
   go_enter func146,ntmps146
   go_wp2
   go_region_law (refine WL rfl (.tmp 22) (.tmp 25) 134 134 rfl _ _ ?_ ?_ (x _ ?_ _ _) ?_;(focus (simp[Act.eval,Act.put]));(focus ((try simp[Act.eval,Act.put]);(try rfl)));(focus exact cl);rintro D r ⟨rfl,J⟩)
   all_goals go_wp2
   all_goals go_ret
   all_goals exact⟨_,rfl,l.out w.drew cl⟩
  ·have na:¬(i+1=cap):=fun e=>y e.symm
   go_enter func146,ntmps146
   go_wp2
   go_region_law (refine WL rfl (.tmp 22) (.tmp 25) 134 134 rfl _ _ ?_ ?_ (x _ ?_ _ _) ?_;(focus (simp[Act.eval,Act.put]));(focus ((try simp[Act.eval,Act.put]);(try rfl)));(focus exact cl);rintro D r ⟨rfl,J⟩)
   all_goals go_wp2
   all_goals go_ret
   all_goals exact⟨_,rfl,l.out w.drew cl⟩
structure X1 (W:World) (p:zc) (ks:List zc):Prop where
 zv:p.zv=ks.map (·.ze)
 inn:∀k∈ks,UA W k
 sort:(ks.map fun k=>mN k.zb).Pairwise fun a b=>yn a b<0
 len:ks.length<=1000
theorem X1.below{W:World}{p:zc}{a:List zc}(h:X1 W p a)(hb:Bw W W'):X1 W' p a:=⟨h.zv,fun k b=>(h.inn k b).below hb,h.sort,h.len⟩
theorem iq{W:World}{p:zc}(h:UA W p){a:List zc}(K:X1 W p a)(x:ByteArray):
  Calls prog 104 #[vP p.ze,vG x] W fun e w'=>ai (a.map fun k=>mN k.zb) (bl x) e/\w'=W:=by
 have c:W.cell? (vA p.ze 7)=some p.sl:=h.cell rfl;have o:=K.zv;have i:p.zv.length=a.length:=by rw[o];simp
 obtain⟨B,s⟩:=h.row
 rcases s with ⟨f,y⟩|⟨g,cap,v,f,w,A,C,D,z,ht⟩
 ·have:a=[]:=List.eq_nil_of_length_eq_zero o_
  subst this;rw[f]at c
  exact im p.ze x W c
 ·rw[f,i]at c;have u:(a.map fun k=>mN k.zb).length=a.length:=s_;rw[<-u]at c
  refine il p.ze g cap p.zv (a.map fun k=>mN k.zb) x W (by simp[i]) (j_ K.len) K.sort c ?_ ?_
  ·intro j b d;obtain⟨g',cap',l,t⟩:=h.kid d;rw[f]at l;cases l;exact t
  ·intro j b n d m;rw[o]at d;simp only[VB,Option.map_eq_some_iff]at d m;obtain⟨k,q,rfl⟩:=d;obtain⟨k',r,rfl⟩:=m;rw[q]at r;cases r
   exact(K.inn k (Uq q)).name
theorem sI{ns:List Bs}(m:ns.Pairwise fun a b=>yn a b<0){x:Bs}{zl:Nat}(h:wm ns x zl j)(d:ns[i]?=some x):zl=i:=by
 obtain⟨o,l,h3,p⟩:=h;have f:=(Uy.1 d).1;have n:yn x x=0:=XL x
 rcases Nat.lt_trichotomy zl i with c|c|c
 ·obtain⟨y,e⟩:∃y,ns[zl]?=some y:=⟨_,Ur o_⟩;have q:=h3 zl y (Nat.le_refl _) e;have r:yn y x<0:=by
   have:=List.pairwise_iff_getElem.1 m zl i o_ f c
   rw[Ur o_]at e;rw[Ur f]at d;injection e with g;injection d with k;rw[g,k]at this;exact this
  omega
 ·exact c
 ·have:=l i x c d;omega
def zc.Vw(p:zc)(i:Nat)(sl:Value):zc:={p with sl:=sl,zv:=p.zv.take i++p.zv.drop (i+1)}
def zc.loose(q:zc):zc:={q with up:=none}
theorem pQ{s:ByteArray}(m:zg w bp 136 vp)(h:zg w bq 136 vq)
  (u:vp[7]?=some (vS gp n cp)) (y:vq[0]?=some (vG s)) (t:vq[6]?=some (vP bp)) (l:bp≠bq) (A:gp≠bp) (E:gp≠bq)
  (v:∀W,Bw w W->Calls prog 104 #[vP bp,vG s] W fun e w'=>e=vT #[vI i,.bool true]/\w'=W)
  (P:∀W,Bw w W->Calls prog 146 #[vS gp n cp,vI i,vI ((i:Int)+1)] W fun e w'=>∃f,e=vR f/\DelR (vS gp n cp) n i xs W f w') (Z:i<n) (Y:n<=1000) :
  Calls prog 97 #[vP bq] w fun e w'=>e=vT #[]/\∃W d a c,Bw w W/\DelR (vS gp n cp) n i xs W (.slice a (n-1) c) d/\zg w' bp 136 (vp.setIfInBounds 7 (.slice a (n-1) c))/\zg w' bq 136 (vq.setIfInBounds 6 (.pointer none))/\zd (fun x=>x=bp\/x=bq) d w':=by
 have z:=m.lt;have B:=h.lt;have F:w.cell? (vA bq 6)=some (vP bp):=by rw[h.cell 6];exact t
 have J:w.cell? (vA bq 0)=some (vG s):=by rw[h.cell 0];exact y
 have C:w.cell? (vA bp 7)=some (vS gp n cp):=by rw[m.cell 7];exact u
 have q:∀W f b,Bw w W->DelR (vS gp n cp) n i xs W f b->(∃a c,f=.slice a (n-1) c)/\b.cell? (vA bq 6)=some (vP bp)/\b.cell? (vA bp 7)=some (vS gp n cp)/\b.frozen? (vA bp 7)=false/\b.frozen? (vA bq 6)=false/\bp<b.heap.size/\bq<b.heap.size/\zg b bp 136 vp/\zg b bq 136 vq:=fun W f b g D=>by
  have b1:=(m.below g z).zf D.zf (fun e=>A (by simpa [Value.ownBlock] using e));have b2:=(h.below g B).zf D.zf (fun e=>E (by simpa [Value.ownBlock] using e))
  exact⟨Xs D.row,by rw[b2.cell 6];exact t,by rw[b1.cell 7];exact u,b1.frozen 7,b2.frozen 6,b1.lt,b2.lt,b1,b2⟩
 have aa:(0:Int)<=i:=o_;have G:Hid (∀W d a c w' k,Bw w W->DelR (vS gp n cp) n i xs W (.slice a (n-1) c) d->Bw d w'->Below (w'.setCell (vA bp 7) (.slice a (n-1) c)).heap.size (w'.setCell (vA bp 7) (.slice a (n-1) c)) k->∃W d a c,Bw w W/\DelR (vS gp n cp) n i xs W (.slice a (n-1) c) d/\zg (k.setCell (vA bq 6) (.pointer none)) bp 136 (vp.setIfInBounds 7 (.slice a (n-1) c))/\zg (k.setCell (vA bq 6) (.pointer none)) bq 136 (vq.setIfInBounds 6 (.pointer none))/\zd (fun x=>x=bp\/x=bq) d (k.setCell (vA bq 6) (.pointer none))):=fun W d a c w' k g D j r=>by
  obtain⟨_,_,_,_,_,l1,l2,b1,b2⟩:=q W _ d g D
  refine⟨W,d,a,c,g,D,?_,?_,?_⟩
  ·exact(((b1.below j l1).set 7 (.slice a (n-1) c)).below r (by have:=j.size;simp[World.setCell];omega)).other _ _ l
  ·exact(((b2.below j l2).other (vA bp 7) (.slice a (n-1) c) (fun e=>l e.symm)).below r (by have:=j.size;simp[World.setCell];omega)).set 6 (.pointer none)
  ·exact((((zd.new j).setCell (p:=vA bp 7) (.inl rfl) _).trans (zd.new r))).setCell (p:=vA bq 6) (.inr rfl) _
 have H:∀W f b,Bw w W->DelR (vS gp n cp) n i xs W f b->(∃a c,f=.slice a (n-1) c)/\b.cell? (vA bq 6)=some (vP bp)/\b.cell? (vA bp 7)=some (vS gp n cp)/\b.frozen? (vA bp 7)=false/\b.frozen? (vA bq 6)=false/\bp<b.heap.size/\bq<b.heap.size:=fun W f b g D=>by
  obtain⟨K,L,M,r4,r5,N,O,_,_⟩:=q W f b g D
  exact⟨K,L,M,r4,r5,N,O⟩
 have Q:IntKind.i64.wrap ((i:Int)+1)=(i:Int)+1:=by rw[IntKind.wrap_i64];omega
 have S:¬(bp=bq):=l;have T:¬(bq=bp):=fun e=>l e.symm
 clear q m h u y t A E l
 go_enter func97,ntmps97
 go_wp2_with fail
 go_quiet ((go_at_call 104;exact Calls.quiet_of_same (v _ cl)))
 have o:Bw w (w.drewN nq):=UT (Below.refl _ _) _;generalize w.drewN nq=V at o ⊢;clear v J;have X:=o.size;have F:=(o.cell (p:=vA bq 6) B).trans F;have C:=(o.cell (p:=vA bp 7) z).trans C
 go_wp2_with fail
 go_region_with
  (first
  |(go_at_call 146;refine(P _ cl).mono ?_;rintro e b ⟨ba,rfl,D⟩;obtain⟨⟨a2,c2,I⟩,ca,da,ea,ga,U,R⟩:=H _ _ _ cl D;subst I))
 all_goals go_wp2_with fail
 all_goals go_end0
 all_goals exact⟨rfl,G.out _ _ _ _ _ _ cl D (Below.refl _ _) (Below.refl _ _)⟩
theorem hS{p q:zc}(f:UA w p)(y:UA w q){l:List zc}(K:X1 w p l)(z:l[i]?=some q)(J:q.up=some p.ze)(O:p.ze≠q.ze)(o:p.sl.ownBlock≠some p.ze)(r:p.sl.ownBlock≠some q.ze)(F:q.sl.ownBlock≠some q.ze)(G:q.sl.ownBlock≠some p.ze)(t:∀g,p.sl.ownBlock=some g->q.sl.ownBlock≠some g):
  Calls prog 97 #[vP q.ze] w fun e w'=>e=vT #[]/\∃sl,sl.ownBlock=p.sl.ownBlock/\UA w' (p.Vw i sl)/\UA w' q.loose/\zd (fun x=>x=p.ze\/x=q.ze\/p.sl.ownBlock=some x) w w':=by
 have R:=(Uy.1 z).1;have S:p.zv.length=l.length:=by rw[K.zv];simp
 have I:∀W,Bw w W->Calls prog 104 #[vP p.ze,vG (sb (mN q.zb))] W fun e w'=>e=vT #[vI i,.bool true]/\w'=W:=fun W d=>(iq (f.below d) (K.below d) (sb (mN q.zb))).mono fun e w' hp=>by
  obtain⟨⟨zl,j,rfl,m⟩,rfl⟩:=hp;rw[UO]at m;have C:(l.map fun k=>mN k.zb)[i]?=some (mN q.zb):=by rw[VB,z];rfl
  have:zl=i:=sI K.sort m C
  subst this
  have:j=true:=m.2.2.2.2 C
  subst this
  exact⟨rfl,rfl⟩
 have E:=fun W (d:Bw w W)=>oF (s8 (T:=fun _=>False) f.row (zd.new d) (fun _ _ h=>h)) (h_ K.len) (by omega:i<p.zv.length) (fun u N=>by obtain⟨x,_,rfl⟩:=UC.1 N;rfl)
 obtain⟨gp,cp,v,_,_⟩:=VX f.row o_;rw[v]at E o r t ⊢;have Q:=K.len
 refine(pQ (vp:=p.cells) (vq:=q.cells) (gp:=gp) (cp:=cp) (n:=p.zv.length) (s:=sb (mN q.zb)) (xs:=p.zv.map zi) f.zl y.zl (by simp[zc.cells,v]) (by simp[zc.cells]) (by simp[zc.cells,J,vd]) O (fun e=>o (by rw[e];rfl)) (fun e=>r (by rw[e];rfl)) I E o_ o_).mono fun e w' hp=>?_
 obtain⟨rfl,W,P,a,c,d,D,b1,b2,A⟩:=hp;have B:zd (fun x=>x=p.ze\/x=q.ze\/(vS gp p.zv.length cp).ownBlock=some x) w w':=((zd.new d).trans (D.zf.mono (fun x e=>.inr (.inr e)))).trans (A.mono (fun x e=>e.elim (fun e=>.inl e) (fun e=>.inr (.inl e))))
 refine⟨rfl,.slice a (p.zv.length-1) c,D.own,⟨?_,?_⟩,⟨?_,?_⟩,B⟩
 ·refine b1.trans ?_
  simp[zc.cells,zc.Vw]
 ·have H:¬((Value.slice a (p.zv.length-1) c).ownBlock=some p.ze):=by rw[D.own];exact o
  have L:¬((Value.slice a (p.zv.length-1) c).ownBlock=some q.ze):=by rw[D.own];exact r
  have:=s8 D.row A (fun g b e=>by
   rcases e with e|e
   ·exact H (by rw[b,e])
   ·exact L (by rw[b,e]))
  have M:(p.Vw i (.slice a (p.zv.length-1) c)).zv.length=p.zv.length-1:=by simp[zc.Vw];omega
  rw[M]
  simpa [zc.Vw,List.map_take,List.map_drop] using this
 ·refine b2.trans ?_
  simp[zc.cells,zc.loose,vd]
 ·refine s8 y.row B (fun g b e=>?_)
  have b:q.sl.ownBlock=some g:=b
  rcases e with e|e|e
  ·exact G (by rw[b,e])
  ·exact F (by rw[b,e])
  ·exact t g e b
theorem iG{p qn:zc}(hP:UA w p)(hQ:UA w qn){ks:List zc}(K:X1 w p ks)(nm:Bs)(eE:Vs nm=true)(a8:∀k∈ks,mN k.zb≠nm)(dV:mN k'=nm)
  (fT:qn.ze≠p.ze) (An:p.sl.ownBlock≠some qn.ze) (jR:p.sl.ownBlock≠some p.ze) (jf:qn.sl.ownBlock≠some qn.ze) (Hn:qn.sl.ownBlock≠some p.ze) (Fs:∀g,p.sl.ownBlock=some g->qn.sl.ownBlock≠some g) :
  Calls prog 82 #[.pointer (some ⟨p.ze,0,none⟩),.string (sb nm),.pointer (some ⟨qn.ze,0,none⟩)] w fun e w'=>e=.returned (.tuple #[])/\∃zl sl,wm (ks.map fun k=>mN k.zb) nm zl false/\UA w' (p.Wl zl qn.ze sl)/\UA w' {qn with zb:=k',up:=some p.ze}/\zd (fun x=>x=p.ze\/x=qn.ze\/p.sl.ownBlock=some x) w w'/\(sl.ownBlock=p.sl.ownBlock\/∃g,sl.ownBlock=some g/\w.heap.size<=g):=by
 have hq:zg w qn.ze 136 #[.string (sb (mN qn.zb)),.bool qn.zj,.int .i64 qn.n0,.int .i64 qn.n1,.int .i64 qn.b0,.int .i64 qn.b1,vd qn.up,qn.sl]:=hQ.zl;have db:=(iq hP K (sb nm)).mono (R':=fun e w'=>(∃zl:Nat,e=.returned (.tuple #[.int .i64 zl,.bool false])/\wm (ks.map fun k=>mN k.zb) nm zl false)/\w=w') (by
  rintro e w' ⟨⟨zl,j,rfl,hF⟩,rfl⟩
  rw[UO]at hF
  cases j with
  |false=>exact⟨⟨zl,rfl,hF⟩,rfl⟩
  |true =>
   exfalso
   have h1:=hF.2.2.2.1 rfl;simp only[VB,Option.map_eq_some_iff]at h1;obtain⟨k,dg,bM⟩:=h1
   exact a8 k (Uq dg) bM)
 have hk:=K.zv;have aV:=fun W=>c8 (sb nm) W (by rw[Wq];have:=(Yw eE).2;omega)
 have gG:=hP.lt;have og:=hq.lt;obtain⟨uu,OS⟩:∃uu,uu=vd qn.up:=⟨_,rfl⟩;obtain⟨ua,DO⟩:∃ua,vd qn.up=.pointer ua:=⟨_,rfl⟩;rw[DO]at hq;generalize sb (mN qn.zb)=ss at hq;clear OS uu
 go_enter func82,ntmps82
 go_wp2_with (first
  |(go_at_call 104;refine db.mono ?_;rintro e w1 ⟨⟨zl,rfl,hF⟩,bX⟩;subst bX)
  |(go_at_call 129;refine(aV _).mono ?_;rintro e w1 ⟨rfl,aa⟩;have iO:=hq.below aa og;have q0:=iO.cell 0;have q6:=iO.cell 6;have r0:=iO.frozen 0;have r6:=iO.frozen 6;have nE:=hP.below aa;have p7:w1.cell? ⟨p.ze,7,none⟩=some p.sl:=nE.cell rfl;have Ql:=nE.frozen 7))
 have kJ:p.zv.length=ks.length:=by rw[hk];simp
 have Dp:ks.length<=1000:=K.len;obtain⟨W2,fp⟩:∃W2,W2=(w1.setCell ⟨qn.ze,0,none⟩ (.string (sb nm))).setCell ⟨qn.ze,6,none⟩ (.pointer (some ⟨p.ze,0,none⟩)):=⟨_,rfl⟩;have bM:zd (fun x=>x=qn.ze) w1 W2:=by rw[fp];exact((zd.refl (fun x=>x=qn.ze) _).setCell (p:=⟨qn.ze,0,none⟩) rfl _).setCell (p:=⟨qn.ze,6,none⟩) rfl _
 have Ay:W2.heap.size=w1.heap.size:=by rw[fp];simp[World.setCell]
 have ja:zg W2 qn.ze 136 #[.string (sb nm),.bool qn.zj,.int .i64 qn.n0,.int .i64 qn.n1,.int .i64 qn.b0,.int .i64 qn.b1,.pointer (some ⟨p.ze,0,none⟩),qn.sl]:=by
  rw[fp];simpa using (iO.set 0 (.string (sb nm))).set 6 (.pointer (some ⟨p.ze,0,none⟩))
 have xT:=nE.zf bM (fun e=>fT e.symm) (fun g hg e=>An (by rw[hg,e]));rw[<-fp,<- Ay];have eG:zg (W2.alloc (.cells #[.pointer (some ⟨qn.ze,0,none⟩)] 97)) W2.heap.size 97 #[zi qn.ze]:=zg.new W2 97 _;have lu:=xT.below (W':=W2.alloc (.cells #[.pointer (some ⟨qn.ze,0,none⟩)] 97)) ((Below.refl _ _).alloc (Nat.le_refl _) _);have D9:=ja.alloc (.cells #[.pointer (some ⟨qn.ze,0,none⟩)] 97);have dx:zd (fun x=>x=qn.ze) w1 (W2.alloc (.cells #[.pointer (some ⟨qn.ze,0,none⟩)] 97)):=bM.alloc _;have Az:w1.heap.size<=(W2.alloc (.cells #[.pointer (some ⟨qn.ze,0,none⟩)] 97)).heap.size:=by simp;omega
 obtain⟨W3,gK⟩:∃W3,W3=W2.alloc (.cells #[.pointer (some ⟨qn.ze,0,none⟩)] 97):=⟨_,rfl⟩;rw[<-gK]at eG lu D9 dx Az ⊢;clear fp gK;have an:=lu.row
 refine(gO p.sl p.zv.length zl W2.heap.size (p.zv.map zi) (zi qn.ze) W3 (by omega) (by have:=hF.1;simp at this;omega) rfl (fun u hu=>by obtain⟨x,_,rfl⟩:=UC.1 hu;rfl) an eG (fun e=>by have:=(xT.row.lt _ e).2;omega)).mono ?_
 rintro e w4 ⟨eZ,rfl,ei,mI,dP⟩
 obtain⟨g,cap,oh⟩:∃g cap,eZ=.slice (some ⟨g,0,none⟩) (p.zv.length+1) cap:=by
  rcases ei.2 with ⟨_,h0⟩|⟨g,cap,aH,h,_⟩
  ·omega
  ·exact⟨g,cap,h⟩
 have Qk:w4.cell? ⟨p.ze,7,none⟩=some p.sl:=(mI.cell (p:=⟨p.ze,7,none⟩) lu.lt jR).trans (lu.cell rfl);have JE:w4.frozen? ⟨p.ze,7,none⟩=false:=(mI.frozen (p:=⟨p.ze,7,none⟩) lu.lt jR).trans (lu.frozen 7);have BK:Hid (eZ=.slice (some ⟨g,0,none⟩) (p.zv.length+1) cap):=oh;rw[oh];have HK:Hid (p.zv=ks.map (·.ze)):=hk;have FM:Hid (p.zv.length=ks.length):=kJ;clear oh hk kJ
 go_wp2
 go_end0
 have hk:=HK.out;have kJ:=FM.out;have xU:zg w4 p.ze 136 p.cells:=(mI.block p.ze lu.lt jR).trans lu.zl;have k1:zd (fun x=>x=p.ze\/x=qn.ze\/p.sl.ownBlock=some x) w w1:=zd.new aa;have k2:=k1.trans (dx.mono (fun x h=>.inr (.inl h)));have k3:=k2.trans (mI.mono (fun x h=>.inr (.inr h)));have k4:=k3.setCell (p:=⟨p.ze,7,none⟩) (.inl rfl) (.slice (some ⟨g,0,none⟩) (p.zv.length+1) cap)
 refine⟨rfl,zl,eZ,hF,?_,?_,k4,?_⟩
 ·refine⟨?_,?_⟩
  ·have:=xU.set 7 eZ
   rw[<-BK.out]
   refine this.trans ?_
   simp[zc.cells,zc.Wl]
  ·have aX:eZ.ownBlock≠some p.ze:=by
    rcases dP with h|⟨g',h,fh⟩
    ·rw[h];exact jR
    ·rw[h];intro e;injection e with e;have:=lu.lt;omega
   have h1:=ei.kept (row:=some p.ze) (w':=w4.setCell ⟨p.ze,7,none⟩ (.slice (some ⟨g,0,none⟩) (p.zv.length+1) cap)) ⟨rfl,rfl,rfl,by simp[World.setCell],fun k dV Aa=>Below.heap_setCell _ _ _ _ (fun e=>Aa (by rw[e]))⟩ (.inr aX);have e1:(p.Wl zl qn.ze eZ).zv.length=p.zv.length+1:=by
    have:=hF.1;simp[zc.Wl]at this ⊢;omega
   have e2:(p.Wl zl qn.ze eZ).zv.map zi=(p.zv.map zi).take zl++zi qn.ze::(p.zv.map zi).drop zl:=by
    simp[zc.Wl]
   rw[e1,e2];exact h1
 ·have wM:¬(p.sl.ownBlock=some qn.ze):=An;have h4:zg w4 qn.ze 136 _:=D9.zf mI wM;have h5:=h4.other ⟨p.ze,7,none⟩ (.slice (some ⟨g,0,none⟩) (p.zv.length+1) cap) fT
  refine⟨?_,?_⟩
  ·refine h5.trans ?_
   simp[zc.cells,dV,vd]
  ·refine s8 hQ.row k4 (fun g hg e=>?_)
   have hg:qn.sl.ownBlock=some g:=hg
   rcases e with e|e|e
   ·exact Hn (by rw[hg,e])
   ·exact jf (by rw[hg,e])
   ·exact Fs g e hg
 ·rcases dP with h|⟨g',h,fh⟩
  ·exact .inl h
  ·exact .inr ⟨g',h,by have:=aa.size;omega⟩
theorem gQ{n:zc}(b:UA w n):Calls prog 92 #[vP n.ze] w fun e w'=>e=vR (vd n.up)/\w'=w:=by
 have a:w.cell? (vA n.ze 6)=some (vd n.up):=b.cell rfl;unfold vd at a ⊢
 go_enter func92,ntmps92
 go_wp2
 go_ret
 exact⟨rfl,rfl⟩
theorem po{n:zc}(b:UA w n)(h:n.zv.length<=1000):Calls prog 144 #[vP n.ze] w fun e w'=>e=vR (.bool (n.zv.length == 0))/\w'=w:=by
 have f:w.cell? (vA n.ze 7)=some n.sl:=b.cell rfl;obtain⟨a,c,d⟩:=Xs b.row;rw[d]at f;generalize n.zv.length=k at *;have g:((k:Int) == 0)=(k == 0):=by
  cases k with
  |zero=>rfl
  |succ k=>simp;omega
 go_enter func144,ntmps144
 go_wp2
 go_ret
 rw[<-g]
 exact⟨rfl,rfl⟩
def xu (za:List zc)(q p:zc)(i:Nat)(sl:Value):List zc :=
 (za.filter fun n=>!decide (n.zb=q.zb)).map fun n=>if n.zb=p.zb then p.Vw i sl else n
theorem XM{a b:List Bs}{x y:Bs}(h:a++[x]=b++[y]):a=b/\x=y:=by
 have:=List.append_inj' h rfl
 exact⟨this.1,by simpa using this.2⟩
theorem dP(za:List zc)(q p:zc)(i:Nat)(sl:Value)(n:zc):n∈xu za q p i sl↔∃z∈za,z.zb≠q.zb/\n=if z.zb=p.zb then p.Vw i sl else z:=by
 unfold xu;simp only[UC,Vu,Bool.not_eq_true',decide_eq_false_iff_not]
 exact⟨fun ⟨z,⟨a,b⟩,h3⟩=>⟨z,a,b,h3.symm⟩,fun ⟨z,a,b,h3⟩=>⟨z,⟨a,b⟩,h3.symm⟩⟩
theorem dN{c:List zc}(d:(c.map fun k=>mN k.zb).Pairwise fun a b=>yn a b<0):c.Nodup:=by
 have:(c.map fun k=>mN k.zb).Nodup:=d.imp (fun {a b} h e=>by subst e;rw[show yn a a=0 from XL a]at h;omega)
 exact Yz this
theorem ov{α : Type}[DecidableEq α]{l:List α}(j:l.Nodup){q : α}(a:l[i]?=some q)(y : α):y∈l.take i++l.drop (i+1)↔y∈l/\y≠q:=by
 have c:=(Uy.1 a).1;have e:l=l.take i++q::l.drop (i+1):=by
  conv=>lhs;rw[<-List.take_append_drop i l]
  congr 1
  rw[List.drop_eq_getElem_cons c];rw[Ur c]at a;injection a with a;rw[a]
 have b:(l.take i++q::l.drop (i+1)).Nodup:=by rw[<-e];exact j
 have hq:q ∉ l.take i++l.drop (i+1):=by
  rw[List.nodup_append]at b;obtain⟨_,g,h3⟩:=b;intro h
  rcases UU.1 h with h|h
  ·exact h3 q h q s_ rfl
  ·exact(List.nodup_cons.1 g).1 h
 constructor
 ·intro h
  refine⟨?_,fun f=>hq (f ▸ h)⟩
  rw[e]
  rcases UU.1 h with h|h
  ·exact UM _ h
  ·exact U8 _ (V3 _ h)
 ·rintro⟨h,d⟩
  rw[e]at h
  rcases UU.1 h with h|h
  ·exact UM _ h
  ·rcases List.mem_cons.1 h with h|h
   ·exact absurd h d
   ·exact U8 _ h
theorem Zm{l:List zc}(b:l.Nodup){q:zc}(a:l[i]?=some q)(y:zc):y∈l.take i++l.drop (i+1)↔y∈l/\y≠q:=by
 classical
 exact ov b a y
theorem zr.xu{za:List zc}(T:zr za){q p:zc}(hq:q∈za)(hp:p∈za){x:Bs}(E:q.zb=p.zb++[x])(aa:q.zv=[])
  {j:List zc} (Y:p.zv=j.map (·.ze)) (H:∀k,k∈j↔(k∈za/\∃x,k.zb=p.zb++[x])) (O:(j.map fun k=>mN k.zb).Pairwise fun a b=>yn a b<0) (G:j[i]?=some q) (sl:Value):zr (xu za q p i sl):=by
 have g:=dP za q p i sl;have S:q.zb≠[]:=by rw[E];simp
 have ca:p.zb≠q.zb:=by rw[E];intro e;have:=congrArg List.length e;simp at this
 have f:∀z,(if z.zb=p.zb then p.Vw i sl else z).zb=z.zb:=fun z=>by
  by_cases h:z.zb=p.zb
  ·rw[if_pos h];exact h.symm
  ·rw[if_neg h]
 have t:∀z∈za,(if z.zb=p.zb then p.Vw i sl else z).zj=z.zj/\(if z.zb=p.zb then p.Vw i sl else z).n0=z.n0/\(if z.zb=p.zb then p.Vw i sl else z).n1=z.n1/\(if z.zb=p.zb then p.Vw i sl else z).b0=z.b0/\(if z.zb=p.zb then p.Vw i sl else z).b1=z.b1/\(if z.zb=p.zb then p.Vw i sl else z).up=z.up/\(if z.zb=p.zb then p.Vw i sl else z).ze=z.ze:=fun z c=>by
  by_cases h:z.zb=p.zb
  ·obtain rfl:=T.inj z c p hp h;rw[if_pos rfl];exact⟨rfl,rfl,rfl,rfl,rfl,rfl,rfl⟩
  ·rw[if_neg h];exact⟨rfl,rfl,rfl,rfl,rfl,rfl,rfl⟩
 have Q:∀n∈za,∀y,n.zb≠q.zb++[y]:=fun n d y e=>by
  obtain⟨P,g1,g2,_⟩:=T.zv q hq;have M:n∈P:=(g2 n).2 ⟨d,y,e⟩;rw[aa]at g1;have X:P=[]:=by simpa using g1.symm
  rw[X]at M
  cases M
 refine⟨?_,?_,?_,?_,?_,?_,?_,?_,?_⟩
 ·obtain⟨r,A,v,o,h3,B⟩:=T.root;have W:=Uq A;obtain⟨g1,g2,g3,g4,F,U,V⟩:=t r W
  refine⟨if r.zb=p.zb then p.Vw i sl else r,?_,(f r).trans v,g1.trans o,g4.trans h3,F.trans B⟩
  cases L:za with
  |nil=>rw[L]at A;simp at A
  |cons a l =>
   rw[L]at A
   simp at A
   subst A
   have:a.zb≠q.zb:=by rw[v];exact fun e=>S e.symm
   simp[Go.Proofs.YtphclnolomgjoaaGreatDoor.xu,this]
 ·intro n d m Z e;obtain⟨z,c,_,rfl⟩:=(g n).1 d;obtain⟨y,s,_,rfl⟩:=(g m).1 Z;rw[f,f]at e;rw[T.inj z c y s e]
 ·have e:(Go.Proofs.YtphclnolomgjoaaGreatDoor.xu za q p i sl).map (·.zb)=(za.filter fun n=>!decide (n.zb=q.zb)).map (·.zb):=by
   unfold Go.Proofs.YtphclnolomgjoaaGreatDoor.xu;rw[List.map_map]
   exact List.map_congr_left fun z _=>f z
  rw[e]
  exact T.nodup.sublist (List.filter_sublist.map _)
 ·intro n d;obtain⟨z,c,_,rfl⟩:=(g n).1 d;rw[f];exact T.ok z c
 ·intro n d;obtain⟨z,c,_,rfl⟩:=(g n).1 d;obtain⟨g1,g2,g3,g4,F,U,V⟩:=t z c;rw[g1,g2,g3,g4,F];exact T.zm z c
 ·intro n d w;obtain⟨z,c,_,rfl⟩:=(g n).1 d;rw[f]at w;rw[(t z c).2.2.2.2.2.1];exact T.top z c w
 ·intro n d k y w;obtain⟨z,c,_,rfl⟩:=(g n).1 d;rw[f]at w;obtain⟨C,g1,g2,g3,g4⟩:=T.par z c k y w;have R:C.zb≠q.zb:=fun e=>Q z c y (by rw[w,<- g2,e])
  exact⟨_,(g _).2 ⟨C,g1,R,rfl⟩,(f C).trans g2,(t C g1).1.trans g3,by rw[(t z c).2.2.2.2.2.1,(t C g1).2.2.2.2.2.2];exact g4⟩
 ·intro n d;obtain⟨z,c,ba,rfl⟩:=(g n).1 d
  by_cases D:z.zb=p.zb
  ·obtain rfl:=T.inj z c p hp D;rw[if_pos rfl];have I:=dN O
   refine⟨(j.take i++j.drop (i+1)).map fun n=>if n.zb=z.zb then z.Vw i sl else n,?_,fun k=>?_,?_⟩
   ·rw[List.map_map]
    show z.zv.take i++z.zv.drop (i+1)=_
    rw[Y,<- List.map_take,<- List.map_drop,<- List.map_append]
    refine List.map_congr_left fun n d=>?_
    exact((t n ((H n).1 ((Zm I G n).1 d).1).1).2.2.2.2.2.2).symm
   ·constructor
    ·intro h;obtain⟨y,s,rfl⟩:=UC.1 h;obtain⟨v,o⟩:=(Zm I G y).1 s;obtain⟨h3,u,B⟩:=(H y).1 v
     exact⟨(g _).2 ⟨y,h3,fun e=>o (T.inj y h3 q hq e),rfl⟩,u,by rw[f];exact B⟩
    ·rintro⟨v,u,o⟩
     obtain⟨y,s,K,rfl⟩:=(g k).1 v;rw[f]at o
     exact UC.2 ⟨y,(Zm I G y).2 ⟨(H y).2 ⟨s,u,o⟩,fun e=>K (by rw[e])⟩,rfl⟩
   ·have e:((j.take i++j.drop (i+1)).map fun n=>if n.zb=z.zb then z.Vw i sl else n).map (fun k=>mN k.zb)=(j.take i++j.drop (i+1)).map fun k=>mN k.zb:=by
     rw[List.map_map];exact List.map_congr_left fun n _=>by simp only[Function.comp];rw[f]
    rw[e]
    refine List.Pairwise.sublist ?_ O
    refine List.Sublist.map _ ?_
    conv=>rhs;rw[<-List.take_append_drop i j]
    exact List.Sublist.append (List.Sublist.refl _) (List.drop_sublist_drop_left j (Nat.le_succ i))
  ·rw[if_neg D];obtain⟨J,g1,g2,g3⟩:=T.zv z c
   refine⟨J.map fun n=>if n.zb=p.zb then p.Vw i sl else n,?_,fun k=>?_,?_⟩
   ·rw[g1,List.map_map]
    exact List.map_congr_left fun n d=>((t n ((g2 n).1 d).1).2.2.2.2.2.2).symm
   ·constructor
    ·intro h;obtain⟨y,s,rfl⟩:=UC.1 h;obtain⟨h3,u,B⟩:=(g2 y).1 s
     exact⟨(g _).2 ⟨y,h3,fun e=>D (XM (B.symm.trans (e.trans E))).1,rfl⟩,u,by rw[f];exact B⟩
    ·rintro⟨v,u,o⟩
     obtain⟨y,s,K,rfl⟩:=(g k).1 v;rw[f]at o
     exact UC.2 ⟨y,(g2 y).2 ⟨s,u,o⟩,rfl⟩
   ·have e:(J.map fun n=>if n.zb=p.zb then p.Vw i sl else n).map (fun k=>mN k.zb)=J.map fun k=>mN k.zb:=by
     rw[List.map_map];exact List.map_congr_left fun n _=>by simp only[Function.comp];rw[f]
    rw[e];exact g3
 ·unfold Go.Proofs.YtphclnolomgjoaaGreatDoor.xu;rw[List.length_map]
  exact Nat.le_trans (Wt _ _) T.len
structure Zg (a b:Pw):Prop where
 ze:b.ze=a.ze
 q:b.q=a.q
 zm:b.x.zm=a.x.zm
 d0:b.x.d0=a.x.d0
 d1:b.x.d1=a.x.d1
theorem Zg.cells{a b:Pw}(h:Zg a b):b.cells=a.cells:=by unfold Pw.cells;rw[h.q,h.zm,h.d0,h.d1]
theorem ir{f:Pw->Pw}(h:∀y∈l,Zg y (f y)):UN (l.map f)=UN l:=by
 unfold UN;rw[List.map_map]
 exact List.map_congr_left fun y a=>by simp only[Function.comp];rw[(h y a).ze]
theorem UJ.new{τ τ':Nat->yd}{t:Nat}{W:World}{za l:List zc}{zn:Int}(h:UJ τ t W bt za zn vw va ws zh)(T':zr l)(D:∀n∈l,UA W' n)
  (U:∀n∈l,τ' n.ze=.node t n.ze/\∀g,n.sl.ownBlock=some g -> τ' g=.row t n.ze) (V:∀a∈l,∀b∈l,a.ze=b.ze->a=b) {r r':zc} (S:za[0]?=some r) (C:l[0]?=some r') (K:r'.ze=r.ze)
  (k:zd T W W') (Q:∀b,b<W.heap.size->T b->(τ b).k=1\/(τ b).k=2) (B:∀b,b<W.heap.size -> τ' b = τ b) {f:Pw->Pw} (d:∀y∈ws++zh,Zg y (f y)) (N:∀y∈ws++zh,∃n∈l,n.ze=y.q/\n.zb=(f y).x.zb) :
  UJ τ' t W' bt l zn vw va (ws.map f) (zh.map f):=by
 obtain⟨l1,l2,I⟩:=h.lts;obtain⟨X,F,hb⟩:=h.bk;rw[S]at F
 cases F
 have w:∀b tg,b<W.heap.size -> τ b=tg->tg.k≠1->tg.k≠2->¬T b:=fun b tg s e O P ht=>by
  rcases Q b s ht with u|u
  ·rw[e]at u;exact O u
  ·rw[e]at u;exact P u
 have E:zg W' bt 102 #[zi r'.ze,vI zn,vw,va]:=by
  rw[K]
  exact hb.bk.zl.zf k (w _ _ l1 h.pr.ui s_ s_)
 have m:=hb.bk;have H:(ws.map f)++(zh.map f)=(ws++zh).map f:=by rw[List.map_append]
 have o:∀y∈(ws.map f)++(zh.map f),∃z∈ws++zh,y=f z:=fun y j=>by
  rw[H]at j;obtain⟨z,c,rfl⟩:=UC.1 j
  exact⟨z,c,rfl⟩
 have J:∀y∈ws,Zg y (f y):=fun y j=>d y (UM _ j)
 have M:∀y∈zh,Zg y (f y):=fun y j=>d y (U8 _ j)
 refine⟨⟨T',D,fun i n R=>U n (Uq R),⟨r',C,E⟩,by rw[B _ l1];exact h.pr.ui,V⟩,⟨r',C,D,?_,fun p hp=>?_,fun p hp=>?_⟩,fun b e=>by rw[B b (l2 b e)];exact h.vf b e,fun p hq=>?_⟩
 ·refine⟨E,?_,?_,fun p hp=>?_,m.sep,?_,fun a A b s e=>?_,by simpa using m.len⟩
  ·rw[ir J,List.length_map]
   exact s8 m.yc k (fun g v=>w _ _ (l2 g (.inl v)) (h.vf g (.inl v)) s_ s_)
  ·rw[ir M,List.length_map]
   exact s8 m.yr k (fun g v=>w _ _ (l2 g (.inr v)) (h.vf g (.inr v)) s_ s_)
  ·obtain⟨z,c,rfl⟩:=o p hp;rw[(d z c).cells,(d z c).ze]
   exact(m.zu z c).zf k (w _ _ (I z c) (h.ptag z c) s_ s_)
  ·rw[H];have G:=m.nd;unfold List.Nodup at G ⊢;rw[List.pairwise_map]
   refine List.Pairwise.imp_of_mem (fun {a b} A s L e=>L ?_) G
   have:=congrArg Pw.ze e
   rw[(d a A).ze,(d b s).ze]at this
   exact m.inj a A b s this
  ·obtain⟨z,c,rfl⟩:=o a A;obtain⟨y,j,rfl⟩:=o b s;rw[(d z c).ze,(d y j).ze]at e;rw[m.inj z c y j e]
 ·obtain⟨z,c,rfl⟩:=o p hp;rw[(d z c).q];exact N z c
 ·obtain⟨z,c,rfl⟩:=o p hp;rw[(d z c).d0,(d z c).d1];exact hb.nm z c
 ·obtain⟨z,c,rfl⟩:=o p hq;rw[(d z c).ze,B _ (I z c)];exact h.ptag z c
theorem UJ.apart{τ : Nat->yd}{t:Nat}{W:World}{za:List zc}{zn:Int}(h:UJ τ t W bt za zn vw va ws zh){a b:zc}(f:a∈za)(hb:b∈za):
  a.sl.ownBlock≠some b.ze/\(a≠b->a.ze≠b.ze)/\(a≠b->∀g,a.sl.ownBlock=some g->b.sl.ownBlock≠some g):=by
 obtain⟨i,n⟩:=Vh f;obtain⟨j,o⟩:=Vh hb;obtain⟨r,k⟩:=h.pr.tags i a n;obtain⟨p,q⟩:=h.pr.tags j b o
 refine⟨fun e=>?_,fun d e=>d (h.pr.uk a f b hb e),fun d g l m=>d (h.pr.uk a f b hb ?_)⟩
 ·have:=k _ e;rw[p]at this;cases this
 ·have c:=k g l;rw[q g m]at c;injection c with _ _ c
  exact c.symm
end
section
open Go.RowKit Go.Shelf
variable {W w:World}{bt:Nat}{va vw:Value}{ws zh:List Pw}
attribute [local go_sem] Oper.semAt_some
def okQ (za:List zc)(l:List Pw)(m:zc):Bool:=(xe (yf (pun l m.zb)) (xt za m.zb+m.b0) == 0)&&(xe (yg (pun l m.zb)) (xr za m.zb+m.b1) == 0)
def WV (za:List zc)(l:List Pw):Int:=if za.all (okQ za l) then 0 else 11
theorem iJ{α : Type}{l l':List α}(h:l.Perm l')(f : α -> Bool):l.all f=l'.all f:=by
 rw[Bool.eq_iff_iff,List.all_eq_true,List.all_eq_true]
 exact⟨fun k x a=>k x (h.mem_iff.2 a),fun k x a=>k x (h.mem_iff.1 a)⟩
theorem yt.lT{za:List zc}{r:zc}{zw:Value}(h:yt W za bt r zw vw va ws zh)(k:List Bs):(0<=yf (pun zh k)/\yf (pun zh k)<=24000)/\(0<=yg (pun zh k)/\yg (pun zh k)<=24000):=by
 have b:zh.length<=24:=by have:=h.bk.len;omega
 have a:=fun p hp=>h.nm p (U8 _ hp)
 exact eE a b k
theorem cI{za:List zc}(T:zr za)(Aa:U_ za){r:zc}{zw:Value}(h:yt w za bt r zw vw va ws zh)(ba:r∈za)(sa:r.zb=[]):
  Calls prog 141 #[vP bt] w fun e w'=>e=vR (vI (WV za zh))/\Bw w w':=by
 obtain⟨ch,K⟩:=T.ch;have Q:∀k:Nat,Fence.wide.depth.isSome=true->1<=k:=fun k h=>by simp[Fence.wide]at h
 have L:∀W,(∀n∈za,UA W n)->_:=fun W a=>ZG T K ba W a
 have ka:=ZH K 4 r ba;have R:(dfs ch 4 r).Perm za:=by
  have:=Y2 T K T.nd ba
  have e:(za.filter fun m=>r.zb.isPrefixOf m.zb)=za:=List.filter_eq_self.2 (fun _ _=>by rw[sa];rfl);rw[e]at this
  exact this
 have C:WV za zh=if (dfs ch 4 r).all (okQ za zh) then 0 else 11:=by unfold WV;rw[iJ R]
 have ca:=fun W (a:Bw w W) m (D:m∈za)=>c_ T Aa W (h.below a).yj bt (va:=va) (l:=zh) (by have:=(h.below a).bk.zl.cell 3;simpa using this) (h.below a).pws D
 have ea:=fun W (a:Bw w W) m (D:m∈za)=>g8 T D W (h.below a).yj
 have pa:=fun W m (D:m∈za)=>by
  have u:=h.lT m.zb;have q:=YT T m.zb;have b:=T.zm m D
  exact s9 (yf (pun zh m.zb)) (yg (pun zh m.zb)) (xt za m.zb+m.b0) (xr za m.zb+m.b1) W o_ o_ o_ o_ o_ o_ o_ o_
 have Na:w.cell? (vA bt 0)=some (vP r.ze):=by have:=h.bk.zl.cell 0;simpa [zi] using this
 have Oa:=h.bk.zl.lt;have aa:=h.yj;generalize dfs ch 4 r=X at L ka C R;generalize WV za zh=ma at C ⊢;have ja:Hid ((X.all (okQ za zh)=true->ma=0)/\(X.all (okQ za zh)=false->ma=11)):=⟨fun h=>by rw[C,h];rfl,fun h=>by rw[C,h];rfl⟩;clear C R
 refine(UK (n:=3)).1 ?_
 refine callsIn_of_wp_marks func141 rfl trivial ?_ rfl
 unfold zi at L ca ea;have Qa:¬(bt=w.heap.size):=o_;have Ra:¬(bt=w.heap.size+1):=o_;simp only[ntmps141,zC,Nat.reduceAdd,Nat.reduceSub]
 gi_wp2_with ((first|refine⟨trivial,Q _,?_⟩|refine⟨trivial,?_⟩);gi_at_call 101;refine(UK.2 (L _ (fun n Ea=>(aa n Ea).below Vy))).mono ?_;rintro e W ⟨rfl,rfl,M⟩)
 obtain⟨W,a⟩:∃W,W=((w.alloc (.cells #[vP bt] 45)).alloc (.cells #[vI 0] 53)).alloc (.cells #[vP r.ze] 97):=⟨_,rfl⟩;have Pa:W.heap.size=w.heap.size+3:=by rw[a];simp
 have la:((w.alloc (.cells #[vP bt] 45)).alloc (.cells #[vI 0] 53)).heap.size=w.heap.size+1+1:=s_;have v:zz W w.heap.size 45 (vP bt):=by rw[a];exact((zz.new w 45 _).alloc _).alloc _
 have ra:zz W (w.heap.size+1) 53 (vI 0):=by
  rw[a];have:=zz.new (w.alloc (.cells #[vP bt] 45)) 53 (vI 0);rw[Vv]at this;exact this.alloc _
 have ua:Bw w W:=by rw[a];exact Vy
 rw[la]at M;simp only[<-a]at M ⊢;have hq:=M (fun b=>b=w.heap.size+1\/W.heap.size<=b) (fun k i=>⟨fun h=>by have:=(aa k i).lt;omega,fun g Da h=>by have:=((aa k i).row.lt g Da).2;omega⟩);clear M L la a;have s:∀b,b<W.heap.size->¬(False\/W.heap.size<=b):=fun b hb e=>by rcases e with e|e;exact e;omega
 refine XQ (T:=fun b=>b=w.heap.size+1) (S:=fun _=>False) rfl (enters_of func149 k_ rfl) hq (Below.refl _ _) rfl (fun b h=>h.elim) (fun b h=>by omega)
  (fun pre A=>pre.all (okQ za zh)=true/\zz A w.heap.size 45 (vP bt)/\zz A (w.heap.size+1) 53 (vI 0)/\Bw w A)
  (fun c pre A=>c=.ret/\pre.all (okQ za zh)=false/\zz A (w.heap.size+1) 53 (vI 11)/\Bw w A)
  (fun pre A B f i=>⟨f.1,f.2.1.zf i (s _ o_),f.2.2.1.zf i (s _ o_),f.2.2.2.trans (i.ya f.2.2.2.size (fun b qa=>s b o_))⟩)
  (fun c pre A B f i=>⟨f.1,f.2.1,f.2.2.1.zf i (s _ o_),f.2.2.2.trans (i.ya f.2.2.2.size (fun b qa=>s b o_))⟩)
  ⟨rfl,v,ra,ua⟩
  (fun x=>{tmps:=#[vP bt,vP w.heap.size,vP (w.heap.size+1),vP x.ze,vP bt,vP bt,vP bt,vP r.ze,
   .func (.func 149) #[] #[vP (w.heap.size+1+1)],vP x.ze,undef,undef,undef,undef,undef,undef,undef,undef,undef,undef],defers:=[]}) ?assign ?body ?done ?stop
 case assign =>
  intro l x W K Ba
  gi_wp2
  exact Ba
 case body =>
  rintro l2 pre x J ⟨N,O,d,j⟩ Ta P
  have U:x∈za:=ka x (P.subset s_);have c2:=O.cell;have Ma:=d.cell;have Sa:=d.frozen;have oa:=fun W a=>ca W a x U
  have na:=fun W a=>ea W a x U
  have E:=fun W=>pa W x U
  have Ga:=fun W=>cr (xe (yf (pun zh x.zb)) (xt za x.zb+x.b0)) (xe (yg (pun zh x.zb)) (xr za x.zb+x.b1)) 0 0 W
  have ia:Hid (pre.all (okQ za zh)=true):=N;have da:Hid (okQ za zh x=((xe (yf (pun zh x.zb)) (xt za x.zb+x.b0) == 0)&&(xe (yg (pun zh x.zb)) (xr za x.zb+x.b1) == 0))):=rfl;clear N ca ea pa hq;generalize xe (yf (pun zh x.zb)) (xt za x.zb+x.b0)=s0 at *;generalize xe (yg (pun zh x.zb)) (xr za x.zb+x.b1)=La at *;generalize yf (pun zh x.zb)=Xa at *;generalize yg (pun zh x.zb)=Ya at *;generalize xt za x.zb+x.b0=m0 at *;generalize xr za x.zb+x.b1=m1 at *;generalize Ja:(s0 == 0&&La == 0)=ta at da Ga;clear Ja
  cases ta
  ·gi_wp2_with ((first|refine⟨trivial,Q _,?_⟩|refine⟨trivial,?_⟩);first
    |(gi_at_call 106;refine(CallsIn.inRound l2 (UK.2 (oa _ cl))).mono ?_;rintro e ga ⟨rfl,z⟩;have t:Bw w ga:=s5 j z)
    |(gi_at_call 190;refine(CallsIn.inRound l2 (UK.2 (na _ t))).mono ?_;rintro e ha ⟨rfl,H⟩;have V:Bw w ha:=s5 t H)
    |(gi_at_call 189;refine(CallsIn.inRound l2 (UK.2 (E _))).mono ?_;rintro e I ⟨rfl,F⟩;have Y:Bw w I:=s5 V F;have o:Bw J I:=s5 (s5 z H) F;have G:=d.below o d.lt;have Wa:=G.cell;have g3:=G.frozen))
   refine⟨(zd.new (T:=fun b=>b=w.heap.size+1) o).setCell (p:=vA (w.heap.size+1) 0) rfl _,rfl,?_,G.set _,Y.setCell s_ _⟩
   rw[List.all_append,ia.out]
   simp[da.out]
  ·gi_wp2_with ((first|refine⟨trivial,Q _,?_⟩|refine⟨trivial,?_⟩);first
    |(gi_at_call 106;refine(CallsIn.inRound l2 (UK.2 (oa _ cl))).mono ?_;rintro e ga ⟨rfl,z⟩;have t:Bw w ga:=s5 j z)
    |(gi_at_call 190;refine(CallsIn.inRound l2 (UK.2 (na _ t))).mono ?_;rintro e ha ⟨rfl,H⟩;have V:Bw w ha:=s5 t H)
    |(gi_at_call 189;refine(CallsIn.inRound l2 (UK.2 (E _))).mono ?_;rintro e I ⟨rfl,F⟩;have Y:Bw w I:=s5 V F;have o:Bw J I:=s5 (s5 z H) F;have G:=d.below o d.lt;have Ia:=O.below o O.lt))
   refine⟨zd.new o,?_,Ia,G,Y⟩
   rw[List.all_append,ia.out]
   simp[da.out]
 case done =>
  rintro A ⟨N,O,d,j⟩ Z
  have Ua:=d.cell;have Va:=d.frozen
  gi_wp2
  have Ha:(A.setCell (vA (w.heap.size+1) 0) (vI 0)).heap[W.heap.size]?=some (.deferred (some [])):=(Below.heap_setCell _ _ _ _ t_).trans Z;have v:=((d.set (vI 0)).put W.heap.size (.deferred none) o_).cell
  refine⟨s_,.inl ⟨_,_,rfl,run_takeDeferred Ha,?_⟩⟩
  exact⟨vI 0,by simp[results,results141,go_sem,v],by rw[ja.out.1 N],Wn (j.setCell s_ _) _ _ o_⟩
 case stop =>
  rintro c pre A P ⟨rfl,E,d,j⟩ Z
  gi_wp2
  have v:=(d.put W.heap.size (.deferred none) o_).cell
  refine⟨s_,.inl ⟨_,_,rfl,run_takeDeferred Z,?_⟩⟩
  have Ca:X.all (okQ za zh)=false:=by
   rw[List.all_eq_false]at E ⊢;obtain⟨y,Fa,Ka⟩:=E
   exact⟨y,P.subset Fa,Ka⟩
  exact⟨vI 11,by simp[results,results141,go_sem,v],by rw[ja.out.2 Ca],Wn j _ _ o_⟩
end
section
open Go.RowKit
variable {W' w:World}{b i:Nat}{g x2 x3 l c j:Value}{a d er:Int}{T:Nat->Prop}{k:List Bs}
theorem sj{a:Nat}(h:w.cell? (vA a 0)=some (vI 0)):
  CallsD prog 140 #[vP a,vP b] .returning w fun e c w'=>c=.returning/\(e=vT #[]/\w'=w):=by
 go_enter_d func140,ntmps140
 go_wp2
 go_end0
 exact⟨rfl,rfl⟩
theorem pN{a:Nat}(i:(er != 0)=true)(h:w.cell? (vA a 0)=some (vI er))(hb:w.cell? (vA b 0)=some (.func (.func 98) #[] #[l,c,j])){M:World->Prop}
  (f:Calls prog 98 #[l,c,j] w fun e w'=>e=vT #[]/\M w') :
  CallsD prog 140 #[vP a,vP b] .returning w fun e g w'=>g=.returning/\(e=vT #[]/\M w'):=by
 go_enter_d func140,ntmps140
 go_wp2_with (go_at_call 98;refine f.mono ?_;rintro e k ⟨rfl,d⟩)
 go_end0
 exact⟨rfl,d⟩
theorem tH{bt:Nat}{M1 M2 M3:World->Prop}(H:bt<w.heap.size)
  (x:∀a,Bw w a->Calls prog 97 #[g] a fun e w'=>e=vT #[]/\zd (fun b=>b<w.heap.size) a w'/\M1 w')
  (y:∀a,M1 a->Calls prog 141 #[vP bt] a fun e w'=>e=vR (vI er)/\Bw a w')
  (v:er=0->∀a h,M1 a->w.heap.size<=a.heap.size->zd (fun b=>w.heap.size<=b) a h->M2 h)
  (z:er≠0->∀a h,M1 a->w.heap.size<=a.heap.size->zd (fun b=>w.heap.size<=b) a h->Calls prog 98 #[l,c,j] h fun e w'=>e=vT #[]/\zd (fun b=>b<w.heap.size) h w'/\M3 w') :
  Calls prog 87 #[vP bt,.func (.func 97) #[g] #[],.func (.func 98) #[] #[l,c,j]] w fun e w'=>e=vR (vI er)/\(er=0->M2 w')/\(er≠0->M3 w'):=by
 have J:∀(fn:Fn) (first cap:Array Value) (w:World),(Instr.makeFunc fn first cap).run prog w=.ok (.func fn first cap) w:=fun _ _ _ _=>rfl
 obtain⟨d,i⟩:∃d,d=(w.alloc (.cells #[.func (.func 98) #[] #[l,c,j]] 1)).alloc (.cells #[vI 0] 53):=⟨_,rfl⟩;have b1:zz d w.heap.size 1 (.func (.func 98) #[] #[l,c,j]):=by rw[i];exact(zz.new w 1 _).alloc _
 have b2:zz d (w.heap.size+1) 53 (vI 0):=by
  rw[i];have:=zz.new (w.alloc (.cells #[.func (.func 98) #[] #[l,c,j]] 1)) 53 (vI 0)
  rwa[Vv]at this
 have F:Bw w d:=by rw[i];exact cl
 have I:w.heap.size+2<=d.heap.size:=by rw[i];simp
 go_enter_defers func87,ntmps87
 go_upto_region 1 with fail
 rw[<-i];clear i
 go_wp2_with (first
  |(go_at_call 97;refine(x _ cl).mono ?_;rintro e D ⟨rfl,o,q⟩;have d1:=b1.zf o o_;have s:=b2.zf o o_;have G:=o.size)
  |(go_at_call 141;refine(y _ q).mono ?_;rintro e E ⟨rfl,n⟩;have u:=d1.below n d1.lt;have k:=s.below n s.lt;have q2:=k.cell;have K:=k.frozen))
 have r:zd (fun b=>w.heap.size<=b) D (E.setCell (vA (w.heap.size+1) 0) (vI er)):=(zd.new (T:=fun b=>w.heap.size<=b) n).setCell (p:=vA (w.heap.size+1) 0) s_ _;have g1:=(u.other (vA (w.heap.size+1) 0) (vI er) s_).cell;have g2:=(k.set (vI er)).cell
 by_cases m:er=0
 ·subst m
  refine leaves_cons (f:=140) (args:=#[vP (w.heap.size+1),vP w.heap.size]) s_ (by simp[go_sem]) ?_
  refine(sj (b:=w.heap.size) g2).mono ?_
  rintro e C A ⟨rfl,rfl,rfl⟩
  simp[Leaves,settle,results,results87,go_sem,g2]
  exact v rfl _ _ q o_ r
 ·refine leaves_cons (f:=140) (args:=#[vP (w.heap.size+1),vP w.heap.size]) s_ (by simp[go_sem]) ?_
  refine(pN (j_ m) g2 g1 (z m _ _ q o_ r)).mono ?_
  rintro e C A ⟨rfl,rfl,t,B⟩
  have g3:=((k.set (vI er)).zf t o_).cell
  simp[Leaves,settle,results,results87,go_sem,g3]
  exact⟨fun e=>absurd e m,fun _=>B⟩
structure e0 (n n':zc):Prop where
 ze:n'.ze=n.ze
 zb:n'.zb=n.zb
 zj:n'.zj=n.zj
 up:n'.up=n.up
 zv:n'.zv=n.zv
theorem zr.mapS{za:List zc}(T:zr za){f:zc->zc}(b:∀n∈za,e0 n (f n))
  (A:∀n∈za,(0<=(f n).n0/\(f n).n0<=1000)/\(0<=(f n).n1/\(f n).n1<=1000)/\(0<=(f n).b0/\(f n).b0<=1000)/\(0<=(f n).b1/\(f n).b1<=1000)/\((f n).zj=false->(f n).n0=0/\(f n).n1=0))
  (w:∀n∈za,n.zb=[]->(f n).b0=0/\(f n).b1=0):zr (za.map f):=by
 have d:∀x,x∈za.map f↔∃n∈za,x=f n:=fun x=>by simp only[UC];exact⟨fun ⟨n,h,e⟩=>⟨n,h,e.symm⟩,fun ⟨n,h,e⟩=>⟨n,h,e.symm⟩⟩
 refine⟨?_,?_,?_,?_,?_,?_,?_,?_,by simpa using T.len⟩
 ·obtain⟨r,u,g,q,h3,v⟩:=T.root;have s:=Uq u;have k:=b r s
  exact⟨f r,by simp[u],k.zb.trans g,k.zj.trans q,(w r s g).1,(w r s g).2⟩
 ·intro n c m B e;obtain⟨x,a,rfl⟩:=(d n).1 c;obtain⟨y,j,rfl⟩:=(d m).1 B;rw[(b x a).zb,(b y j).zb]at e;rw[T.inj x a y j e]
 ·rw[List.map_map]
  have:za.map ((fun n=>n.zb) ∘ f)=za.map (·.zb):=List.map_congr_left (fun n c=>(b n c).zb)
  rw[this];exact T.nodup
 ·intro n c;obtain⟨x,a,rfl⟩:=(d n).1 c;rw[(b x a).zb];exact T.ok x a
 ·intro n c;obtain⟨x,a,rfl⟩:=(d n).1 c
  exact A x a
 ·intro n c i;obtain⟨x,a,rfl⟩:=(d n).1 c;rw[(b x a).zb]at i;rw[(b x a).up];exact T.top x a i
 ·intro n c k z i;obtain⟨x,a,rfl⟩:=(d n).1 c;rw[(b x a).zb]at i;obtain⟨p,g,q,h3,v⟩:=T.par x a k z i
  exact⟨f p,(d _).2 ⟨p,g,rfl⟩,(b p g).zb.trans q,(b p g).zj.trans h3,by rw[(b x a).up,(b p g).ze];exact v⟩
 ·intro p hp;obtain⟨x,a,rfl⟩:=(d p).1 hp;obtain⟨t,C,o,D⟩:=T.zv x a
  refine⟨t.map f,?_,fun k=>?_,?_⟩
  ·rw[(b x a).zv,C,List.map_map]
   exact List.map_congr_left (fun n c=>((b n ((o n).1 c).1).ze).symm)
  ·rw[(b x a).zb]
   constructor
   ·intro h;obtain⟨z,l,rfl⟩:=UC.1 h;obtain⟨g1,y,g2⟩:=(o z).1 l
    exact⟨(d _).2 ⟨z,g1,rfl⟩,y,by rw[(b z g1).zb];exact g2⟩
   ·rintro⟨h,y,j⟩
    obtain⟨z,l,rfl⟩:=(d k).1 h;rw[(b z l).zb]at j
    exact UC.2 ⟨z,(o z).2 ⟨l,y,j⟩,rfl⟩
  ·have:(t.map f).map (fun k=>mN k.zb)=t.map fun k=>mN k.zb:=by
    rw[List.map_map];exact List.map_congr_left (fun n c=>by simp only[Function.comp];rw[(b n ((o n).1 c).1).zb])
   rw[this];exact D
def vl (za:List zc)(p:zc)(sl:Value):List zc:=za.map fun n=>if n.zb=p.zb then {n with sl:=sl} else n
theorem dp(p:zc)(sl:Value)(n:zc):e0 n (if n.zb=p.zb then {n with sl:=sl} else n):=by
 by_cases h:n.zb=p.zb
 ·rw[if_pos h];exact⟨rfl,rfl,rfl,rfl,rfl⟩
 ·rw[if_neg h];exact⟨rfl,rfl,rfl,rfl,rfl⟩
theorem j5(za:List zc)(p:zc)(sl:Value):(vl za p sl).map zc.zq=za.map zc.zq:=by
 unfold vl;rw[List.map_map]
 exact List.map_congr_left fun n _=>by simp only[Function.comp];split<;>rfl
theorem zr.vl{za:List zc}(T:zr za)(p:zc)(sl:Value):zr (vl za p sl):=by
 refine T.mapS (fun n _=>dp p sl n) (fun n a=>?_) (fun n a b=>?_)
 ·have:=T.zm n a
  by_cases h:n.zb=p.zb
  ·rw[if_pos h];exact this
  ·rw[if_neg h];exact this
 ·obtain⟨r,g0,g1,g2,g3,g4⟩:=T.root
  have:n=r:=T.inj n a r (Uq g0) (b.trans g1.symm)
  subst this
  by_cases h:n.zb=p.zb
  ·rw[if_pos h];exact⟨g3,g4⟩
  ·rw[if_neg h];exact⟨g3,g4⟩
def uc (p q:zc)(x:Nat):Prop:=x=p.ze\/x=q.ze\/p.sl.ownBlock=some x
structure LvM (W:World) (p q:zc) (i:Nat) (sl:Value) (w':World):Prop where
 own:sl.ownBlock=p.sl.ownBlock
 par:UA w' (p.Vw i sl)
 kid:UA w' q.loose
 zf:zd (uc p q) W w'
structure BkM (W:World) (p q:zc) (sl:Value) (w':World):Prop where
 par:UA w' {p with sl:=sl}
 kid:UA w' q
 zf:zd (uc p q) W w'
 own:sl.ownBlock=p.sl.ownBlock\/∃g,sl.ownBlock=some g/\W.heap.size<=g
section
variable {τ : Nat->yd}{t:Nat}{W w':World}{bt:Nat}{za:List zc}{zn:Int}{vw va:Value}{ws zh:List Pw}
theorem UJ.tch(h:UJ τ t W bt za zn vw va ws zh){q p:zc}(hq:q∈za)(hp:p∈za):∀b,uc p q b->((τ b).k=1\/(τ b).k=2)/\(τ b).prog t:=fun b hb=>by
 obtain⟨i,a⟩:=Vh hp;obtain⟨j,c⟩:=Vh hq;obtain⟨d,f⟩:=h.pr.tags i p a;obtain⟨g,l⟩:=h.pr.tags j q c
 rcases hb with rfl|rfl|e
 ·rw[d];exact⟨.inl rfl,rfl⟩
 ·rw[g];exact⟨.inl rfl,rfl⟩
 ·rw[f b e];exact⟨.inr rfl,rfl⟩
theorem UJ.other(h:UJ τ t W bt za zn vw va ws zh){q p z:zc}(hq:q∈za)(hp:p∈za)(a:z∈za)(c:z≠p)(d:z≠q)(k:zd (uc p q) W w'):UA w' z:=by
 refine(h.pr.yj z a).zf k (fun e=>?_) (fun g b e=>?_)
 ·rcases e with e|e|e
  ·exact(h.apart a hp).2.1 c e
  ·exact(h.apart a hq).2.1 d e
  ·exact(h.apart hp a).1 e
 ·rcases e with e|e|e
  ·exact(h.apart a hp).1 (by rw[b,e])
  ·exact(h.apart a hq).1 (by rw[b,e])
  ·exact(h.apart a hp).2.2 c g b e
theorem UJ.left(h:UJ τ t W bt za zn vw va ws zh){q p:zc}(hq:q∈za)(hp:p∈za){x:Bs}(F:q.zb=p.zb++[x])(U:q.zv=[])
  {A:List zc} (P:p.zv=A.map (·.ze)) (Q:∀k,k∈A↔(k∈za/\∃x,k.zb=p.zb++[x])) (R:(A.map fun k=>mN k.zb).Pairwise fun a b=>yn a b<0) (N:A[i]?=some q) (H:∀y∈ws++zh,y.q≠q.ze) {sl:Value} (M:LvM W p q i sl w') :
  UJ (Vq τ W.heap.size) t w' bt (xu za q p i sl) zn vw va ws zh:=by
 have T:=h.pr.tree;have T':=T.xu hq hp F U P Q R N sl;have u:=dP za q p i sl;have J:q.zb≠[]:=by rw[F];simp
 obtain⟨r,o,hb⟩:=h.bk;obtain⟨K,I⟩:=Ww T o;have s:∀z∈za,(if z.zb=p.zb then p.Vw i sl else z).ze=z.ze/\(if z.zb=p.zb then p.Vw i sl else z).zb=z.zb:=fun z c=>by
  by_cases e:z.zb=p.zb
  ·obtain rfl:=T.inj z c p hp e;rw[if_pos rfl];exact⟨rfl,rfl⟩
  ·rw[if_neg e];exact⟨rfl,rfl⟩
 have:=h.new (τ':=Vq τ W.heap.size) (f:=id) T' (fun n m=>?_) (fun n m=>?_) (fun a L b B e=>?_) o (r':=if r.zb=p.zb then p.Vw i sl else r) ?_ (s r K).1 M.zf (fun b _ e=>(h.tch hq hp b e).1) (fun b B=>VK B) (fun y _=>⟨rfl,rfl,rfl,rfl,rfl⟩) (fun y w=>?_)
 ·simpa using this
 ·obtain⟨z,c,C,rfl⟩:=(u n).1 m
  by_cases e:z.zb=p.zb
  ·rw[if_pos e];exact M.par
  ·rw[if_neg e];exact h.other hq hp c (fun v=>e (by rw[v])) (fun v=>C (by rw[v])) M.zf
 ·obtain⟨z,c,C,rfl⟩:=(u n).1 m;obtain⟨j,O⟩:=Vh c;obtain⟨V,G⟩:=h.pr.tags j z O;rw[(s z c).1]
  refine⟨by rw[VK (h.pr.yj z c).lt];exact V,fun g d=>?_⟩
  by_cases e:z.zb=p.zb
  ·obtain rfl:=T.inj z c p hp e;rw[if_pos rfl]at d;have d:sl.ownBlock=some g:=d;rw[M.own]at d;rw[VK ((h.pr.yj z c).row.lt g d).2];exact G g d
  ·rw[if_neg e]at d;rw[VK ((h.pr.yj z c).row.lt g d).2];exact G g d
 ·obtain⟨z,c,_,rfl⟩:=(u a).1 L;obtain⟨y,w,_,rfl⟩:=(u b).1 B;rw[(s z c).1,(s y w).1]at e;rw[h.pr.uk z c y w e]
 ·cases D:za with
  |nil=>rw[D]at o;simp at o
  |cons a l =>
   rw[D]at o
   simp at o
   subst o
   have:a.zb≠q.zb:=by rw[I];exact fun e=>J e.symm
   simp[xu,this]
 ·obtain⟨n,m,E,v⟩:=hb.lf y w;have S:n.zb≠q.zb:=fun e=>H y w (by rw[<-E,T.inj n m q hq e])
  exact⟨_,(u _).2 ⟨n,m,S,rfl⟩,(s n m).1.trans E,(s n m).2.trans v⟩
theorem UJ.back(h:UJ τ t W bt za zn vw va ws zh){q p:zc}(hq:q∈za)(hp:p∈za)(K:q≠p){sl:Value}(M:BkM W p q sl w'):
  ∃τ',(∀b,b<W.heap.size -> τ' b = τ b)/\(∀b,W.heap.size<=b -> τ' b=.free\/(τ' b).prog t)/\UJ τ' t w' bt (vl za p sl) zn vw va ws zh:=by
 have T:=h.pr.tree;obtain⟨r,v,hb⟩:=h.bk;obtain⟨N,L⟩:=Ww T v;obtain⟨τ',B⟩:∃τ':Nat->yd,τ'=fun x=>if x<W.heap.size then τ x else if sl.ownBlock=some x then .row t p.ze else .free:=⟨_,rfl⟩
 have o:∀x,x<W.heap.size -> τ' x = τ x:=fun x w=>by rw[B];simp[w]
 have k:=fun z=>dp p sl z
 have l:∀n,n∈vl za p sl↔∃z∈za,n=if z.zb=p.zb then {z with sl:=sl} else z:=fun n=>by
  unfold vl;simp only[UC];exact⟨fun ⟨z,s,u⟩=>⟨z,s,u.symm⟩,fun ⟨z,s,u⟩=>⟨z,s,u.symm⟩⟩
 refine⟨τ',o,fun x w=>?_,?_⟩
 ·rw[B];simp only[Nat.not_lt.2 w,if_false]
  split
  ·exact .inr rfl
  ·exact .inl rfl
 have:=h.new (τ' := τ') (f:=id) (T.vl p sl) (fun n m=>?_) (fun n m=>?_) (fun a H b D e=>?_) v (r':=if r.zb=p.zb then {r with sl:=sl} else r) ?_ (k r).ze M.zf (fun b _ e=>(h.tch hq hp b e).1) o (fun y _=>⟨rfl,rfl,rfl,rfl,rfl⟩) (fun y A=>?_)
 ·simpa using this
 ·obtain⟨z,d,rfl⟩:=(l n).1 m
  by_cases e:z.zb=p.zb
  ·obtain rfl:=T.inj z d p hp e;rw[if_pos rfl];exact M.par
  ·rw[if_neg e]
   by_cases i:z=q
   ·rw[i];exact M.kid
   ·exact h.other hq hp d (fun F=>e (by rw[F])) i M.zf
 ·obtain⟨z,d,rfl⟩:=(l n).1 m;obtain⟨j,I⟩:=Vh d;obtain⟨J,C⟩:=h.pr.tags j z I;rw[(k z).ze]
  refine⟨by rw[o _ (h.pr.yj z d).lt];exact J,fun g c=>?_⟩
  by_cases e:z.zb=p.zb
  ·obtain rfl:=T.inj z d p hp e;rw[if_pos rfl]at c;have c:sl.ownBlock=some g:=c
   rcases M.own with i|⟨g',i,G⟩
   ·rw[i]at c;rw[o _ ((h.pr.yj z d).row.lt g c).2];exact C g c
   ·rw[c]at i;cases i;rw[B]
    simp[Nat.not_lt.2 G,c]
  ·rw[if_neg e]at c;rw[o _ ((h.pr.yj z d).row.lt g c).2];exact C g c
 ·obtain⟨z,d,rfl⟩:=(l a).1 H;obtain⟨y,A,rfl⟩:=(l b).1 D;rw[(k z).ze,(k y).ze]at e;rw[h.pr.uk z d y A e]
 ·unfold vl;rw[VB,v];rfl
 ·obtain⟨n,m,E,i⟩:=hb.lf y A
  exact⟨_,(l _).2 ⟨n,m,rfl⟩,(k n).ze.trans E,(k n).zb.trans i⟩
end
def zc.U9(n:zc)(a b c d:Int):zc:={n with n0:=if n.zj then a else n.n0,n1:=if n.zj then b else n.n1,b0:=c,b1:=d}
theorem fO{n:zc}(m:UA w n)(r:n.sl.ownBlock≠some n.ze)(a b c d:Int):
  Calls prog 89 #[vP n.ze,.agg #[vI a,vI b],.agg #[vI c,vI d]] w fun e w'=>e=vT #[]/\UA w' (n.U9 a b c d)/\zd (fun x=>x=n.ze) w w':=by
 have A:=m.lt;have z:zg w n.ze 136 n.cells:=m.zl;obtain⟨i,h⟩:∃i,i=(w.alloc (.cells #[vI a,vI b] 35)).alloc (.cells #[vI c,vI d] 35):=⟨_,rfl⟩;have f:zg i n.ze 136 n.cells:=by rw[h];exact(z.alloc _).alloc _
 have b1:zg i w.heap.size 35 #[vI a,vI b]:=by rw[h];exact(zg.new w 35 _).alloc _
 have b2:zg i (w.heap.size+1) 35 #[vI c,vI d]:=by rw[h];exact zg.new' s_
 have q:zd (fun x=>x=n.ze) w i:=by rw[h];exact((zd.refl _ _).alloc _).alloc _
 have n1:¬(n.ze=w.heap.size):=o_;have n2:¬(n.ze=w.heap.size+1):=o_;have F:¬(w.heap.size=n.ze):=o_;have G:¬(w.heap.size+1=n.ze):=o_;have c1:=f.cell 1;have c2:=f.cell 2;have s:=f.cell 3;have t:=f.cell 4;have u:=f.cell 5;have B:=f.frozen 2;have C:=f.frozen 3;have D:=f.frozen 4;have E:=f.frozen 5;have d0:=b1.cell 0;have d1:=b1.cell 1;have v:=b2.cell 0;have y:=b2.cell 1;simp only[zc.cells,s7]at c1 c2 s t u d0 d1 v y;have o:=m.row
 cases k:n.zj with
 |true =>
  rw[k]at c1
  go_enter func89,ntmps89
  go_upto_region 1 with fail
  rw[<-h];clear h
  go_wp2
  go_end0
  have j:=((((q.setCell (p:=vA n.ze 2) rfl (vI a)).setCell (p:=vA n.ze 3) rfl (vI b)).setCell (p:=vA n.ze 4) rfl (vI c)).setCell (p:=vA n.ze 5) rfl (vI d))
  refine⟨rfl,⟨?_,s8 o j (fun g l e=>r (by rw[<-e];exact l))⟩,j⟩
  refine((((f.set 2 (vI a)).set 3 (vI b)).set 4 (vI c)).set 5 (vI d)).trans ?_
  simp[zc.cells,zc.U9,k]
 |false =>
  rw[k]at c1
  go_enter func89,ntmps89
  go_upto_region 1 with fail
  rw[<-h];clear h
  go_wp2
  go_end0
  have j:=(q.setCell (p:=vA n.ze 4) rfl (vI c)).setCell (p:=vA n.ze 5) rfl (vI d)
  refine⟨rfl,⟨?_,s8 o j (fun g l e=>r (by rw[<-e];exact l))⟩,j⟩
  refine((f.set 4 (vI c)).set 5 (vI d)).trans ?_
  simp[zc.cells,zc.U9,k]
structure aw (n n':zc):Prop where
 ze:n'.ze=n.ze
 zb:n'.zb=n.zb
 zj:n'.zj=n.zj
 up:n'.up=n.up
 sl:n'.sl=n.sl
 zv:n'.zv=n.zv
theorem zr.mapN{za:List zc}(T:zr za){f:zc->zc}(b:∀n∈za,aw n (f n))
  (A:∀n∈za,(0<=(f n).n0/\(f n).n0<=1000)/\(0<=(f n).n1/\(f n).n1<=1000)/\(0<=(f n).b0/\(f n).b0<=1000)/\(0<=(f n).b1/\(f n).b1<=1000)/\((f n).zj=false->(f n).n0=0/\(f n).n1=0))
  (w:∀n∈za,n.zb=[]->(f n).b0=0/\(f n).b1=0):zr (za.map f):=by
 have d:∀x,x∈za.map f↔∃n∈za,x=f n:=fun x=>by simp only[UC];exact⟨fun ⟨n,h,e⟩=>⟨n,h,e.symm⟩,fun ⟨n,h,e⟩=>⟨n,h,e.symm⟩⟩
 refine⟨?_,?_,?_,?_,?_,?_,?_,?_,by simpa using T.len⟩
 ·obtain⟨r,u,g,q,h3,v⟩:=T.root;have s:=Uq u;have k:=b r s
  exact⟨f r,by simp[u],k.zb.trans g,k.zj.trans q,(w r s g).1,(w r s g).2⟩
 ·intro n c m B e;obtain⟨x,a,rfl⟩:=(d n).1 c;obtain⟨y,j,rfl⟩:=(d m).1 B;rw[(b x a).zb,(b y j).zb]at e;rw[T.inj x a y j e]
 ·rw[List.map_map]
  have:za.map ((fun n=>n.zb) ∘ f)=za.map (·.zb):=List.map_congr_left (fun n c=>(b n c).zb)
  rw[this];exact T.nodup
 ·intro n c;obtain⟨x,a,rfl⟩:=(d n).1 c;rw[(b x a).zb];exact T.ok x a
 ·intro n c;obtain⟨x,a,rfl⟩:=(d n).1 c
  exact A x a
 ·intro n c i;obtain⟨x,a,rfl⟩:=(d n).1 c;rw[(b x a).zb]at i;rw[(b x a).up];exact T.top x a i
 ·intro n c k z i;obtain⟨x,a,rfl⟩:=(d n).1 c;rw[(b x a).zb]at i;obtain⟨p,g,q,h3,v⟩:=T.par x a k z i
  exact⟨f p,(d _).2 ⟨p,g,rfl⟩,(b p g).zb.trans q,(b p g).zj.trans h3,by rw[(b x a).up,(b p g).ze];exact v⟩
 ·intro p hp;obtain⟨x,a,rfl⟩:=(d p).1 hp;obtain⟨t,C,o,D⟩:=T.zv x a
  refine⟨t.map f,?_,fun k=>?_,?_⟩
  ·rw[(b x a).zv,C,List.map_map]
   exact List.map_congr_left (fun n c=>((b n ((o n).1 c).1).ze).symm)
  ·rw[(b x a).zb]
   constructor
   ·intro h;obtain⟨z,l,rfl⟩:=UC.1 h;obtain⟨g1,y,g2⟩:=(o z).1 l
    exact⟨(d _).2 ⟨z,g1,rfl⟩,y,by rw[(b z g1).zb];exact g2⟩
   ·rintro⟨h,y,j⟩
    obtain⟨z,l,rfl⟩:=(d k).1 h;rw[(b z l).zb]at j
    exact UC.2 ⟨z,(o z).2 ⟨l,y,j⟩,rfl⟩
  ·have:(t.map f).map (fun k=>mN k.zb)=t.map fun k=>mN k.zb:=by
    rw[List.map_map];exact List.map_congr_left (fun n c=>by simp only[Function.comp];rw[(b n ((o n).1 c).1).zb])
   rw[this];exact D
theorem UJ.mapN{τ τ':Nat->yd}{t:Nat}{W:World}{bt:Nat}{za:List zc}{zn:Int}{vw va:Value}{ws zh:List Pw}(h:UJ τ t W bt za zn vw va ws zh){f:zc->zc}(j:∀n∈za,aw n (f n))(T':zr (za.map f))
  (k:zd T W W') (H:∀b,b<W.heap.size->T b->∃n∈za,n.ze=b) (D:∀n∈za,UA W' (f n)) (o:∀b,b<W.heap.size -> τ' b = τ b):UJ τ' t W' bt (za.map f) zn vw va ws zh:=by
 obtain⟨l1,l2,B⟩:=h.lts;obtain⟨r,v,hb⟩:=h.bk;have G:=Uq v;have u:∀b,b<W.heap.size->T b->(τ b).k=1:=fun b C e=>by
  obtain⟨n,c,rfl⟩:=H b C e;obtain⟨i,s⟩:=Vh c;rw[(h.pr.tags i n s).1]
 have w:∀n∈za.map f,UA W' n:=fun n c=>by obtain⟨x,m,rfl⟩:=UC.1 c;exact D x m
 have z:zg W' bt 102 #[zi (f r).ze,vI zn,vw,va]:=by
  rw[(j r G).ze]
  exact hb.bk.zl.zf k (fun e=>by have:=u _ l1 e;rw[h.pr.ui]at this;simp at this)
 refine⟨⟨T',w,fun i n s=>?_,⟨f r,by simp[v],z⟩,by rw[o _ l1];exact h.pr.ui,fun a I b hb e=>by
  obtain⟨x,m,rfl⟩:=UC.1 I;obtain⟨y,A,rfl⟩:=UC.1 hb;rw[(j x m).ze,(j y A).ze]at e;rw[h.pr.uk x m y A e]⟩,⟨f r,by simp[v],w,?_,fun p hp=>?_,hb.nm⟩,fun b e=>by rw[o b (l2 b e)];exact h.vf b e,fun p hq=>by rw[o _ (B p hq)];exact h.ptag p hq⟩
 ·simp only[VB,Option.map_eq_some_iff]at s;obtain⟨x,m,rfl⟩:=s;have q:=Uq m;obtain⟨J,K⟩:=h.pr.tags i x m;have c:=h.pr.yj x q
  exact⟨by rw[(j x q).ze,o _ c.lt];exact J,fun g d=>by rw[(j x q).sl]at d;rw[(j x q).ze,o _ (c.row.lt g d).2];exact K g d⟩
 ·have l:=hb.bk
  refine⟨z,s8 l.yc k (fun g d e=>by have:=u _ (l2 g (.inl d)) e;rw[h.vf g (.inl d)]at this;simp at this),s8 l.yr k (fun g d e=>by have:=u _ (l2 g (.inr d)) e;rw[h.vf g (.inr d)]at this;simp at this),fun p hp=>(l.zu p hp).zf k (fun e=>by have:=u _ (B p hp) e;rw[h.ptag p hp]at this;simp at this),l.sep,l.nd,l.inj,l.len⟩
 ·obtain⟨n,c,E,F⟩:=hb.lf p hp
  exact⟨f n,VF c,(j n c).ze.trans E,(j n c).zb.trans F⟩
def yz (za:List zc)(k:List Bs)(a b c d:Int):List zc:=za.map fun n=>if n.zb=k then n.U9 a b c d else n
theorem XK(k:List Bs)(a b c d:Int)(n:zc):aw n (if n.zb=k then n.U9 a b c d else n):=by
 by_cases h:n.zb=k
 ·rw[if_pos h];exact⟨rfl,rfl,rfl,rfl,rfl,rfl⟩
 ·rw[if_neg h];exact⟨rfl,rfl,rfl,rfl,rfl,rfl⟩
theorem zr.yz{za:List zc}(T:zr za)(m:k≠[]){b c:Int}(j:Uu a b=true)(l:Uu c d=true):zr (yz za k a b c d):=by
 simp[Uu]at j l
 refine T.mapN (fun n _=>XK k a b c d n) (fun n g=>?_) (fun n g i=>?_)
 ·have:=T.zm n g
  by_cases h:n.zb=k
  ·rw[if_pos h]
   cases f:n.zj
   ·have h3:=this.2.2.2.2 f;simp only[zc.U9,f,Bool.false_eq_true,if_false]
    exact⟨this.1,this.2.1,o_,o_,fun _=>h3⟩
   ·simp only[zc.U9,f,if_true]
    exact⟨o_,o_,o_,o_,fun e=>by cases e⟩
  ·rw[if_neg h];exact this
 ·rw[if_neg (fun e=>m (by rw[<-e,i]))];obtain⟨r,g0,g1,g2,g3,g4⟩:=T.root;rw[T.inj n g r (Uq g0) (i.trans g1.symm)]
  exact⟨g3,g4⟩
def kv (za:List zc)(s:Bs)(ok:Bool)(a b:Int):Int :=
 if UB s=false then 1 else if s=[] then 2 else match zp za (s4 s) with
 |none=>3
 |some n=>if ok=false then 6 else if (!n.zj&&!(a == 0&&b == 0))=true then 6 else 0
theorem fm{za:List zc}(Y:zr za){bt:Nat}{r:zc}{zw vw va:Value}{ws zh:List Pw}(h:yt w za bt r zw vw va ws zh)(ba:r∈za)(aa:r.zb=[])(s:ByteArray)(T:s.size<=2000000)(a b c d:Int):
  Calls prog 84 #[vP bt,vG s,.agg #[vI a,vI b],.agg #[vI c,vI d]] w fun e w'=>e=vR (vI (kv za (bl s) (UX [(a,b),(c,d)]) a b))/\Bw w w':=by
 have o:=fun W=>cJ s T W
 rw[dJ]at o;have ea:=h.bk.zl.lt;have A:∀W,Bw w W->W.cell? (vA bt 0)=some (zi r.ze):=fun W (H:Bw w W)=>(h.below H).bk.zl.cell 0
 have p:=fun W (H:Bw w W) v K=>XA Y ba aa s T W (h.below H).yj v K
 have q:=fun n (O:n∈za) W (H:Bw w W)=>Z3 n.ze n.zj W (((h.below H).yj n O).cell rfl)
 have y:∀W M,zg W M 35 #[vI a,vI b,vI c,vI d]->Calls prog 133 #[vS M 2 2] W fun e w'=>e=vR (.bool (UX [(a,b),(c,d)]))/\Bw W w':=fun W M hb=>by
  refine fD M 2 [(a,b),(c,d)] s_ W hb.lt (fun j x J=>?_)
  cases j with
  |zero=>simp at J;subst J;have c0:=hb.cell 0;have c1:=hb.cell 1;simp at c0 c1;exact⟨c0,c1⟩
  |succ j =>
   cases j with
   |zero=>simp at J;subst J;have c0:=hb.cell 2;have c1:=hb.cell 3;simp at c0 c1;exact⟨c0,c1⟩
   |succ j=>simp at J
 have b0:zg ((w.alloc (.cells #[vI a,vI b] 35)).alloc (.cells #[vI c,vI d] 35)) w.heap.size 35 #[vI a,vI b]:=(zg.new w 35 _).alloc _;have b1:zg ((w.alloc (.cells #[vI a,vI b] 35)).alloc (.cells #[vI c,vI d] 35)) (w.heap.size+1) 35 #[vI c,vI d]:=zg.new' s_;have U:=fun W=>cr a b 0 0 W
 unfold zi at A;unfold kv
 cases K:UB (bl s)
 ·rw[K]at o;simp only[if_true]at o ⊢;clear p A q y
  go_enter func84,ntmps84
  go_wp2_with (go_at_call 132;refine(o _).mono ?_;rintro e k ⟨rfl,f⟩)
  refine Us (v:=vI 1) (by simp[results,results84,go_sem]) rfl ⟨rfl,?_⟩
  exact s5 cl f
 rw[K]at o;simp only[Bool.true_eq_false,if_false]at o ⊢
 by_cases N:bl s=[]
 ·have ca:s=⟨#[]⟩:=Wy (N.trans XP.symm);simp only[N,if_true]at o ⊢;clear p A q y;subst ca
  go_enter func84,ntmps84
  go_wp2_with (go_at_call 132;refine(o _).mono ?_;rintro e k ⟨rfl,f⟩)
  refine Us (v:=vI 2) (by simp[results,results84,go_sem]) rfl ⟨rfl,?_⟩
  exact s5 cl f
 simp only[N,if_false]at o ⊢
 cases I:zp za (s4 (bl s)) with
 |none =>
  rw[I]at p;clear I q y;unfold zi at p
  go_enter func84,ntmps84
  go_wp2_with (first
   |(go_at_call 132;refine(o _).mono ?_;rintro e k ⟨rfl,f⟩;have i:Bw w k:=s5 cl f;have L:=A k i)
   |(go_at_call 63;refine(p _ i (.pointer none) rfl).mono ?_;rintro e z ⟨rfl,m⟩;have E:Bw w z:=s5 i m))
  refine Us (v:=vI 3) (by simp[results,results84,go_sem]) rfl ⟨rfl,?_⟩
  exact E
 |some n =>
  obtain⟨O,ga⟩:=VZ I;rw[I]at p
  replace q:=q n O
  clear I;simp only[zi]at p
  dsimp only
  have ha:∀k:World,Below (w.heap.size+2) ((w.alloc (.cells #[vI a,vI b] 35)).alloc (.cells #[vI c,vI d] 35)) k->True:=fun _ _=>trivial
  cases V:UX [(a,b),(c,d)]
  ·rw[V]at y;simp only[if_true];clear q
   go_enter func84,ntmps84
   go_wp2_with (first
    |(go_at_call 132;refine(o _).mono ?_;rintro e k ⟨rfl,f⟩;have i:Bw w k:=s5 cl f;have L:=A k i;have c0:=b0.below f u_;have c1:=b1.below f u_)
    |(go_at_call 63;refine(p _ i (vP n.ze) rfl).mono ?_;rintro e z ⟨rfl,m⟩;have E:Bw w z:=s5 i m;have d0:=c0.below m c0.lt;have d1:=c1.below m c1.lt;have C:=d0.cell 0;have g:=d0.cell 1;have D:=d1.cell 0;have l:=d1.cell 1;have P:=d0.lt;have l1:=d1.lt;simp only[s7]at C g D l)
    |(go_at_call 133;refine(y _ _ s6).mono ?_;rintro e B ⟨rfl,u⟩;have t:Bw w B:=s5 cl u))
   refine Us (v:=vI 6) (by simp[results,results84,go_sem]) rfl ⟨rfl,?_⟩
   exact t
  ·rw[V]at y;simp only[Bool.true_eq_false,if_false]
   cases S:n.zj
   ·rw[S]at q;simp only[Bool.not_false,Bool.true_and];generalize da:(a == 0&&b == 0)=Z at U ⊢;clear da
    cases Z
    ·simp only[Bool.not_false,if_true]
     go_enter func84,ntmps84
     go_wp2_with (first
      |(go_at_call 132;refine(o _).mono ?_;rintro e k ⟨rfl,f⟩;have i:Bw w k:=s5 cl f;have L:=A k i;have c0:=b0.below f u_;have c1:=b1.below f u_)
      |(go_at_call 63;refine(p _ i (vP n.ze) rfl).mono ?_;rintro e z ⟨rfl,m⟩;have E:Bw w z:=s5 i m;have d0:=c0.below m c0.lt;have d1:=c1.below m c1.lt;have C:=d0.cell 0;have g:=d0.cell 1;have D:=d1.cell 0;have l:=d1.cell 1;have P:=d0.lt;have l1:=d1.lt;simp only[s7]at C g D l)
      |(go_at_call 133;refine(y _ _ s6).mono ?_;rintro e B ⟨rfl,u⟩;have t:Bw w B:=s5 cl u;have F:=(d0.alloc (.cells #[vI a,vI b,vI c,vI d] 35)).below u t_;have Q:=F.cell 0;have R:=F.cell 1;simp only[s7]at Q R)
      |(go_at_call 105;refine(q _ t).mono ?_;rintro e X ⟨rfl,G⟩;subst G))
     refine Us (v:=vI 6) (by simp[results,results84,go_sem]) rfl ⟨rfl,?_⟩
     exact t
    ·simp only[Bool.not_true,Bool.false_eq_true,if_false]
     go_enter func84,ntmps84
     go_wp2_with (first
      |(go_at_call 132;refine(o _).mono ?_;rintro e k ⟨rfl,f⟩;have i:Bw w k:=s5 cl f;have L:=A k i;have c0:=b0.below f u_;have c1:=b1.below f u_)
      |(go_at_call 63;refine(p _ i (vP n.ze) rfl).mono ?_;rintro e z ⟨rfl,m⟩;have E:Bw w z:=s5 i m;have d0:=c0.below m c0.lt;have d1:=c1.below m c1.lt;have C:=d0.cell 0;have g:=d0.cell 1;have D:=d1.cell 0;have l:=d1.cell 1;have P:=d0.lt;have l1:=d1.lt;simp only[s7]at C g D l)
      |(go_at_call 133;refine(y _ _ s6).mono ?_;rintro e B ⟨rfl,u⟩;have t:Bw w B:=s5 cl u;have F:=(d0.alloc (.cells #[vI a,vI b,vI c,vI d] 35)).below u t_;have Q:=F.cell 0;have R:=F.cell 1;simp only[s7]at Q R)
      |(go_at_call 105;refine(q _ t).mono ?_;rintro e X ⟨rfl,G⟩;subst G))
     refine Us (v:=vI 0) (by simp[results,results84,go_sem]) rfl ⟨rfl,?_⟩
     exact t
   ·rw[S]at q;simp only[Bool.not_true,Bool.false_and,Bool.false_eq_true,if_false];clear U
    go_enter func84,ntmps84
    go_wp2_with (first
     |(go_at_call 132;refine(o _).mono ?_;rintro e k ⟨rfl,f⟩;have i:Bw w k:=s5 cl f;have L:=A k i;have c0:=b0.below f u_;have c1:=b1.below f u_)
     |(go_at_call 63;refine(p _ i (vP n.ze) rfl).mono ?_;rintro e z ⟨rfl,m⟩;have E:Bw w z:=s5 i m;have d0:=c0.below m c0.lt;have d1:=c1.below m c1.lt;have C:=d0.cell 0;have g:=d0.cell 1;have D:=d1.cell 0;have l:=d1.cell 1;have P:=d0.lt;have l1:=d1.lt;simp only[s7]at C g D l)
     |(go_at_call 133;refine(y _ _ s6).mono ?_;rintro e B ⟨rfl,u⟩;have t:Bw w B:=s5 cl u)
     |(go_at_call 105;refine(q _ t).mono ?_;rintro e X ⟨rfl,G⟩;subst G))
    refine Us (v:=vI 0) (by simp[results,results84,go_sem]) rfl ⟨rfl,?_⟩
    exact t
theorem si{a:Nat}(h:w.cell? (vA a 0)=some (vI 0)):
  CallsD prog 140 #[vP a,vP b] .returning w fun e c w'=>c=.returning/\(e=vT #[]/\w'=w):=by
 go_enter_d func140,ntmps140
 go_wp2
 go_end0
 exact⟨rfl,rfl⟩
theorem pM{a:Nat}(k:(er != 0)=true)(h:w.cell? (vA a 0)=some (vI er))(hb:w.cell? (vA b 0)=some (.func (.func 90) #[] #[g,c,j])){M:World->Prop}
  (f:Calls prog 90 #[g,c,j] w fun e w'=>e=vT #[]/\M w') :
  CallsD prog 140 #[vP a,vP b] .returning w fun e i w'=>i=.returning/\(e=vT #[]/\M w'):=by
 go_enter_d func140,ntmps140
 go_wp2_with (go_at_call 90;refine f.mono ?_;rintro e l ⟨rfl,d⟩)
 go_end0
 exact⟨rfl,d⟩
theorem qI{bt:Nat}{M1 M2 M3:World->Prop}(G:bt<w.heap.size)
  (v:∀a,Bw w a->Calls prog 88 #[g,x2,x3] a fun e w'=>e=vT #[]/\zd (fun b=>b<w.heap.size) a w'/\M1 w')
  (x:∀a,M1 a->Calls prog 141 #[vP bt] a fun e w'=>e=vR (vI er)/\Bw a w')
  (u:er=0->∀a h,M1 a->w.heap.size<=a.heap.size->zd (fun b=>w.heap.size<=b) a h->M2 h)
  (y:er≠0->∀a h,M1 a->w.heap.size<=a.heap.size->zd (fun b=>w.heap.size<=b) a h->Calls prog 90 #[g,c,j] h fun e w'=>e=vT #[]/\zd (fun b=>b<w.heap.size) h w'/\M3 w') :
  Calls prog 87 #[vP bt,.func (.func 88) #[] #[g,x2,x3],.func (.func 90) #[] #[g,c,j]] w fun e w'=>e=vR (vI er)/\(er=0->M2 w')/\(er≠0->M3 w'):=by
 have I:∀(fn:Fn) (first cap:Array Value) (w:World),(Instr.makeFunc fn first cap).run prog w=.ok (.func fn first cap) w:=fun _ _ _ _=>rfl
 obtain⟨d,i⟩:∃d,d=(w.alloc (.cells #[.func (.func 90) #[] #[g,c,j]] 1)).alloc (.cells #[vI 0] 53):=⟨_,rfl⟩;have b1:zz d w.heap.size 1 (.func (.func 90) #[] #[g,c,j]):=by rw[i];exact(zz.new w 1 _).alloc _
 have b2:zz d (w.heap.size+1) 53 (vI 0):=by
  rw[i];have:=zz.new (w.alloc (.cells #[.func (.func 90) #[] #[g,c,j]] 1)) 53 (vI 0)
  rwa[Vv]at this
 have E:Bw w d:=by rw[i];exact cl
 have H:w.heap.size+2<=d.heap.size:=by rw[i];simp
 go_enter_defers func87,ntmps87
 go_upto_region 1 with fail
 rw[<-i];clear i
 go_wp2_with (first
  |(go_at_call 88;refine(v _ cl).mono ?_;rintro e C ⟨rfl,n,o⟩;have d1:=b1.zf n o_;have r:=b2.zf n o_;have F:=n.size)
  |(go_at_call 141;refine(x _ o).mono ?_;rintro e D ⟨rfl,m⟩;have t:=d1.below m d1.lt;have k:=r.below m r.lt;have q2:=k.cell;have J:=k.frozen))
 have q:zd (fun b=>w.heap.size<=b) C (D.setCell (vA (w.heap.size+1) 0) (vI er)):=(zd.new (T:=fun b=>w.heap.size<=b) m).setCell (p:=vA (w.heap.size+1) 0) s_ _;have g1:=(t.other (vA (w.heap.size+1) 0) (vI er) s_).cell;have g2:=(k.set (vI er)).cell
 by_cases l:er=0
 ·subst l
  refine leaves_cons (f:=140) (args:=#[vP (w.heap.size+1),vP w.heap.size]) s_ (by simp[go_sem]) ?_
  refine(si (b:=w.heap.size) g2).mono ?_
  rintro e B z ⟨rfl,rfl,rfl⟩
  simp[Leaves,settle,results,results87,go_sem,g2]
  exact u rfl _ _ o o_ q
 ·refine leaves_cons (f:=140) (args:=#[vP (w.heap.size+1),vP w.heap.size]) s_ (by simp[go_sem]) ?_
  refine(pM (j_ l) g2 g1 (y l _ _ o o_ q)).mono ?_
  rintro e B z ⟨rfl,rfl,s,A⟩
  have g3:=((k.set (vI er)).zf s o_).cell
  simp[Leaves,settle,results,results87,go_sem,g3]
  exact⟨fun e=>absurd e l,fun _=>A⟩
end
end Go.Proofs.YtphclnolomgjoaaGreatDoor
