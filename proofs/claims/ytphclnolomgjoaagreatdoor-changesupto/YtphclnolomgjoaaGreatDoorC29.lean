import Derived.Test.YtphclnolomgjoaaGreatDoorC28
set_option linter.unusedVariables false
set_option linter.unusedSimpArgs false
set_option maxRecDepth 100000
set_option maxHeartbeats 4000000
namespace Go.Proofs.YtphclnolomgjoaaGreatDoor
open Tryz
open Go.RowKit
variable {s:SS}{w' w1 w2:World}{nodes:List Node}{a cnt d err:Int}{leaf ok:Bool}{F1 F2 N br bt c:Nat}{iy iz:Array Value}{Ws:List Wk}{bL bO cC cd cy ev v:Value}{e:TypeId}{es ns xs:List Value}{me ms:List Int}
theorem qpk(L:List Ent)(h:SInv s)(he:s.evs=[]):(qaj L s).evs.length<=990:=by
 have A_:s.Ws.length<=24:=h.wks.wks.len;obtain⟨I1,b1⟩:=qgk (f:=ownStep L) (I:=SInv) 25 (fun s s' hs hf=>⟨(hs.own hf).1,(hs.own hf).2.2.2.2⟩) s.Ws.length s h;obtain⟨_,b2⟩:=qgk (f:=qas L) (I:=SInv) 1 (fun s s' hs hf=>⟨(hs.idle hf).1,by rw[(hs.idle hf).2.2.2.2];omega⟩) s.Ws.length _ I1;have e:qaj L s=iterS (qas L) s.Ws.length (iterS (ownStep L) s.Ws.length s):=rfl;rw[e];rw[he]at b1
 simp at b1
 have:25*s.Ws.length<=600:=by omega
 omega
def Tw.same(x:Tw)(err:Int):Out:=⟨err,x.L,x.Ws,x.cnt,x.st,[]⟩
def qiu (L:List Ent)(cnt:Int)(fin:SS):Out:=⟨0,L,fin.Ws,cnt,fin.st,fin.evs⟩
section
variable {τ : Nat->Tag}{t K:Nat}{W:World}{x:Tw}
theorem qht(h:qb6 τ t W x.bt x.nodes x.last x.vw x.va x.ws x.as_)(A:qbj K x)(hb:Bw W w')(err:Int):POut τ t W x.bt (x.same err) v0_ w':=by
 have hP:=h.keep (τ':=qde τ W.heap.size) (T:=fun _=>False) (Keep.new hb) (fun _ _ h=>h.elim) (fun b hb=>qbx hb)
 refine⟨qde τ W.heap.size,x.nodes,x.vw,x.va,x.ws,x.as_,fun b hb=>qbx hb,fun b hb=>.inl (qe4 hb),?_,A.L.symm,A.com,xrk _ _ _ _,(fun b hb=>by cases hb),Keep.new hb⟩
 show qb6 _ t w' x.bt x.nodes x.cnt x.vw x.va x.ws x.as_
 rw[A.cnt];exact hP
theorem qfx(h:GRef W x.br x.g x.cap x.L x.ao x.cW x.Ws x.cnt x.st)(hb:Bw W w')(err:Int):qdw W x.br x.g x.wv.ownBlock (x.same err).L (x.same err).cnt ⟨(x.same err).Ws,(x.same err).st,(x.same err).evs⟩ v0_ w' :=
 ⟨⟨x.g,x.cap,x.ao,x.cW,h.below hb,.inl rfl,fun b aZ=>⟨fun _=>aZ,fun e=>by cases e⟩⟩,Keep.new hb,xrk _ _ _ _,fun b e=>by cases e⟩
theorem qbj.inv(A:qbj K x):SInv ⟨x.Ws,x.st,[]⟩:=A.com.inv
theorem qbj.ents(A:qbj K x):Ents x.L:=by rw[A.L];exact A.com.tree.ents
theorem qbj.einj(A:qbj K x):∀a∈x.L,∀b∈x.L,a.key=b.key->a=b:=by rw[A.L];exact A.com.tree.einj
theorem Tree.bors(T:Tree nodes):Bors (nodes.map Node.ent):=fun e he=>by
 obtain⟨n,hn,rfl⟩:=xrq.1 he
 have:=T.num n hn
 exact⟨this.2.2.1,this.2.2.2.1⟩
theorem qbj.bors(A:qbj K x):Bors x.L:=by rw[A.L];exact A.com.tree.bors
theorem qml(A:qbj K x){y:Ent}{e:Ending}(h0:qb6 τ t W x.bt x.nodes x.last x.vw x.va x.ws x.as_)(h:qiz τ t W x.bt x.nodes x.last x.Ws x.st err y e w'):
  ∃ev,e=.returned (.tuple #[ev,vI err])/\(err≠0->POut τ t W x.bt (x.same err) ev w')/\(err=0->POut τ t W x.bt (qiu (x.L++[y]) x.cnt (qaj (x.L++[y]) ⟨x.Ws,x.st,[]⟩)) ev w'):=by
 rcases h with ⟨h1,rfl,hb⟩|⟨h1,τ',ar,aQ,aX,bg,aR,ev,rfl,m1,m2,m3,m4,m5,m6,m7,m8⟩
 ·exact⟨_,rfl,fun _=>qht h0 A hb err,fun e=>absurd e h1⟩
 ·subst h1
  refine⟨ev,rfl,fun e=>absurd rfl e,fun _=>⟨τ',ar,aQ,aX,bg,aR,m1,m2,?_,?_,?_,?_,m7,m8⟩⟩
  ·show qb6 τ' t w' x.bt ar x.cnt aQ aX bg aR
   rw[A.cnt];exact m3
  ·show _=x.L++[y]
   rw[A.L];exact m4
  ·show Comm ar (qaj (x.L++[y]) ⟨x.Ws,x.st,[]⟩).Ws x.cnt (qaj (x.L++[y]) ⟨x.Ws,x.st,[]⟩).st bg aR
   rw[A.L,<- m4]
   refine Comm.settled m3.pr.tree A.inv (A.com.wkl.grown m4) A.com.cnt0 ?_
   rw[m4];exact m5
  ·show w'.ownsRow 0 60 2 ev (qaj (x.L++[y]) ⟨x.Ws,x.st,[]⟩).evs.length (qai (qaj (x.L++[y]) ⟨x.Ws,x.st,[]⟩).evs)
   rw[A.L];exact m6
theorem qr4(A:qbj K x){s:Bs}(he:errE x.L s ok=0){b c:Int}(hf:ok=true->qao a b=true/\qao c d=true):
  Ents (x.L++[⟨qaa s,leaf,a,b,c,d⟩])/\Bors (x.L++[⟨qaa s,leaf,a,b,c,d⟩]):=by
 have E:=A.ents;have B:=A.bors;unfold errE at he
 split at he
 ·cases he
 rename_i hv
 split at he
 ·cases he
 split at he
 ·cases he
 rename_i ec
 obtain⟨f1,f2⟩:=hf (by cases ok;simp at ec;rfl)
 simp[qao]at f1 f2
 split at he
 ·cases he
 rename_i hd
 split at he
 ·cases he
 unfold errInE at he
 split at he
 ·cases he
 split at he
 ·cases he
 split at he
 ·cases he
 rename_i an
 have dv:qar s=true:=by cases hh:qar s;simp[hh]at hv;rfl
 refine⟨⟨fun e he=>?_,fun e he=>?_,by simp;omega,by simp⟩,fun e he=>?_⟩
 ·rcases xri.1 he with h1|h1
  ·exact E.ok e h1
  ·simp only[List.mem_singleton]at h1;subst h1
   exact⟨by simp only;rw[<-qba];exact dv,by simp only;unfold qdm at hd;omega⟩
 ·rcases xri.1 he with h1|h1
  ·exact E.num e h1
  ·simp only[List.mem_singleton]at h1;subst h1
   simp only;omega
 ·rcases xri.1 he with h1|h1
  ·exact B e h1
  ·simp only[List.mem_singleton]at h1;subst h1
   simp only;omega
def mkk2 (_num er:Int)(v:Value):Value:=.tuple #[v,vI er]
def mkk3 (num er:Int)(v:Value):Value:=.tuple #[vI num,v,vI er]
def qsb (n₀ : Nat)(τ : Nat->Tag)(W:World)(bw k K:Nat)(F1:Nat)(iy:Array Value)(F2:Nat)(iz:Array Value)(mk:Int->Int->Value->Value):Prop :=
 ∃(num er:Int) (n:Nat) (M1:Option Addr->Nat->World->Prop) (M2:Option Addr->Nat->Option Addr->Nat->World->Prop),
   (∀W1,Bw W W1->Cl F1 iy W1 fun e w'=>∃a c,e=.returned (mk num er (.slice a n c))/\Keep (fun b=>b<W.heap.size) W1 w'/\M1 a c w') /\
   (∀a c W1 W2,M1 a c W1->Bw W1 W2->Cl F2 iz W2 fun e w'=>∃a2 c2,e=.returned (mk num er (.slice a2 n c2))/\Keep (fun b=>b<W.heap.size) W2 w'/\M2 a c a2 c2 w') /\
   (∀a c a2 c2 W1 W2,M2 a c a2 c2 W1->Bw W1 W2->Cl 68 #[vP bw,.slice a n c,vI er,.slice a2 n c2,vI er] W2 (qci n₀ τ W bw k (K+1)))
variable {n₀ bw:Nat}{ay:List Tw}{r:Nat}
theorem qd0{o:Out}(hK:K<=2000000)(h:St n₀ τ W bw ay (200*K))(hA:∀y∈ay,qbj K y)(hx:ay[t]?=some x)(uV:o.evs.length<=990)(hc:o.cnt<=K+1)(hs:o.st<=48*(K+1))
  (mk:Int->Int->Value->Value) (num:Int)
  (hp:∀τ1 W1,qb6 τ1 t W1 x.bt x.nodes x.last x.vw x.va x.ws x.as_->Cl F1 iy W1 fun e w'=>∃ev,e=.returned (mk num o.err ev)/\POut τ1 t W1 x.bt o ev w')
  (hr:∀W1,GRef W1 x.br x.g x.cap x.L x.ao x.cW x.Ws x.cnt x.st->Cl F2 iz W1 fun e w'=>∃sl,e=.returned (mk num o.err sl)/\qdw W1 x.br x.g x.wv.ownBlock o.L o.cnt ⟨o.Ws,o.st,o.evs⟩ sl w') :
  qsb n₀ τ W bw ay.length K F1 iy F2 iz mk:=by
 obtain⟨M1,M2,h1,h2,h3⟩:=qs1 (mk1:=mk num o.err) (mk2:=mk num o.err) hK h hA hx (o:=o) rfl uV hc hs hp hr
 exact⟨num,o.err,_,M1,M2,h1,h2,h3⟩
theorem qkk(A:qbj K x)(err:Int):(x.same err).evs.length<=990/\(x.same err).cnt<=K+1/\(x.same err).st<=48*(K+1):=by
 have:=A.cntK;have:=A.stK
 exact⟨by simp[Tw.same],by simp only[Tw.same];omega,by simp only[Tw.same];omega⟩
theorem qfk(A:qbj K x)(L:List Ent)(I:SInv ⟨Ws,x.st,[]⟩)(hc:cnt<=K+1):(qiu L cnt (qaj L ⟨Ws,x.st,[]⟩)).evs.length<=990/\(qiu L cnt (qaj L ⟨Ws,x.st,[]⟩)).cnt<=K+1/\(qiu L cnt (qaj L ⟨Ws,x.st,[]⟩)).st<=48*(K+1):=by
 have h1:=A.stK;obtain⟨_,_,h3⟩:=qjj L I
 simp only at h3
 exact⟨qpk L I rfl,hc,by simp only[qiu];omega⟩
theorem qqf(hK:K<=2000000)(h:St n₀ τ W bw ay (200*K))(hA:∀y∈ay,qbj K y)(hx:ay[t]?=some x)(s:ByteArray)(hs:s.size<=2000000)(a b c d:Int):
  qsb n₀ τ W bw ay.length K 26 #[vP x.bt,.string s,.agg #[vI a,vI b],.agg #[vI c,vI d]] 69 #[vP x.br,.string s,.agg #[vI a,vI b],.agg #[vI c,vI d]] mkk2:=by
 have A:=hA x (xr2 hx);have bW:x.st<=900000000:=by have:=A.stK;omega
 have p6:qb3 [(a,b),(c,d)]=(qao a b&&qao c d):=by simp[qb3]
 have jT:errE x.L (bl s) (qao a b&&qao c d)=qbc x.nodes (bl s) (qb3 [(a,b),(c,d)]):=by rw[p6,A.L];exact qok _ _ _
 have hp:=fun τ1 W1 (hP:qb6 τ1 t W1 x.bt x.nodes x.last x.vw x.va x.ws x.as_)=>(qw9 hP A.com.rel A.inv s hs a b c d).mono (fun e w' hM=>qml A hP hM)
 have hr:=fun W1 (hR:GRef W1 x.br x.g x.cap x.L x.ao x.cW x.Ws x.cnt x.st)=>qs4 hR A.ents A.einj A.inv bW s hs a b c d (fun he=>qr4 A he (fun h=>by simpa using h))
 rw[jT]at hr;generalize qbc x.nodes (bl s) (qb3 [(a,b),(c,d)])=err at hp hr
 by_cases he:err=0
 ·subst he;obtain⟨l1,l2,l3⟩:=qfk A (x.L++[⟨qaa (bl s),true,a,b,c,d⟩]) A.inv (cnt:=x.cnt) (by have:=A.cntK;omega);unfold qlp at hr;generalize qaj (x.L++[⟨qaa (bl s),true,a,b,c,d⟩]) ⟨x.Ws,x.st,[]⟩=fin at *
  refine qd0 hK h hA hx (o:=qiu (x.L++[⟨qaa (bl s),true,a,b,c,d⟩]) x.cnt fin) l1 l2 l3 mkk2 0 (fun τ1 W1 hP=>(hp τ1 W1 hP).mono fun e w' ⟨ev,h1,_,h3⟩=>⟨ev,h1,h3 rfl⟩) (fun W1 hR=>(hr W1 hR).mono fun e w' hM=>?_)
  rcases hM with ⟨h1,_⟩|⟨_,sl,h1,h2⟩
  ·exact absurd rfl h1
  ·exact⟨sl,h1,h2⟩
 ·obtain⟨l1,l2,l3⟩:=qkk A err
  refine qd0 hK h hA hx (o:=x.same err) l1 l2 l3 mkk2 0 (fun τ1 W1 hP=>(hp τ1 W1 hP).mono fun e w' ⟨ev,h1,h2,_⟩=>⟨ev,h1,h2 he⟩) (fun W1 hR=>(hr W1 hR).mono fun e w' hM=>?_)
  rcases hM with ⟨_,h1,h2⟩|⟨h1,_⟩
  ·exact⟨_,h1,qfx hR h2 err⟩
  ·exact absurd h1 he
theorem qky(hK:K<=2000000)(h:St n₀ τ W bw ay (200*K))(hA:∀y∈ay,qbj K y)(hx:ay[t]?=some x)(s:ByteArray)(hs:s.size<=2000000)(c d:Int):
  qsb n₀ τ W bw ay.length K 27 #[vP x.bt,.string s,.agg #[vI c,vI d]] 67 #[vP x.br,.string s,.agg #[vI c,vI d]] mkk2:=by
 have A:=hA x (xr2 hx);have bW:x.st<=900000000:=by have:=A.stK;omega
 have p6:qb3 [(c,d)]=(qao 0 0&&qao c d):=by simp[qb3,qao]
 have jT:errE x.L (bl s) (qao 0 0&&qao c d)=qbc x.nodes (bl s) (qb3 [(c,d)]):=by rw[p6,A.L];exact qok _ _ _
 have hp:=fun τ1 W1 (hP:qb6 τ1 t W1 x.bt x.nodes x.last x.vw x.va x.ws x.as_)=>(qvm hP A.com.rel A.inv s hs c d).mono (fun e w' hM=>qml A hP hM)
 have hr:=fun W1 (hR:GRef W1 x.br x.g x.cap x.L x.ao x.cW x.Ws x.cnt x.st)=>qoq hR A.ents A.einj A.inv bW s hs c d (fun he=>qr4 A he (fun h=>by simpa using h))
 rw[jT]at hr;generalize qbc x.nodes (bl s) (qb3 [(c,d)])=err at hp hr
 by_cases he:err=0
 ·subst he;obtain⟨l1,l2,l3⟩:=qfk A (x.L++[⟨qaa (bl s),false,0,0,c,d⟩]) A.inv (cnt:=x.cnt) (by have:=A.cntK;omega);unfold qlp at hr;generalize qaj (x.L++[⟨qaa (bl s),false,0,0,c,d⟩]) ⟨x.Ws,x.st,[]⟩=fin at *
  refine qd0 hK h hA hx (o:=qiu (x.L++[⟨qaa (bl s),false,0,0,c,d⟩]) x.cnt fin) l1 l2 l3 mkk2 0 (fun τ1 W1 hP=>(hp τ1 W1 hP).mono fun e w' ⟨ev,h1,_,h3⟩=>⟨ev,h1,h3 rfl⟩) (fun W1 hR=>(hr W1 hR).mono fun e w' hM=>?_)
  rcases hM with ⟨h1,_⟩|⟨_,sl,h1,h2⟩
  ·exact absurd rfl h1
  ·exact⟨sl,h1,h2⟩
 ·obtain⟨l1,l2,l3⟩:=qkk A err
  refine qd0 hK h hA hx (o:=x.same err) l1 l2 l3 mkk2 0 (fun τ1 W1 hP=>(hp τ1 W1 hP).mono fun e w' ⟨ev,h1,h2,_⟩=>⟨ev,h1,h2 he⟩) (fun W1 hR=>(hr W1 hR).mono fun e w' hM=>?_)
  rcases hM with ⟨_,h1,h2⟩|⟨h1,_⟩
  ·exact⟨_,h1,qfx hR h2 err⟩
  ·exact absurd h1 he
theorem qnx(hP:qb6 τ t W x.bt x.nodes x.last x.vw x.va x.ws x.as_)(A:qbj K x){r:Node}(hr:x.nodes[0]?=some r)(I:SInv ⟨Ws,x.st,[]⟩)(hL:WkL x.nodes Ws cnt)(hc:0<=cnt) 
  (hs:SetT x.nodes x.bt r (vI cnt) x.vw x.va x.ws x.as_ (qaj (x.nodes.map Node.ent) ⟨Ws,x.st,[]⟩) ev W w'):POut τ t W x.bt (qiu x.L cnt (qaj x.L ⟨Ws,x.st,[]⟩)) ev w':=by
 obtain⟨τ',aQ,aX,bg,aR,m1,m2,m3,m4,m5,m6,m7⟩:=hP.set hr hs
 refine⟨τ',x.nodes,aQ,aX,bg,aR,m1,m2,m3,A.L.symm,?_,?_,m6,m7⟩
 ·show Comm x.nodes (qaj x.L ⟨Ws,x.st,[]⟩).Ws cnt (qaj x.L ⟨Ws,x.st,[]⟩).st bg aR
  rw[A.L]
  exact Comm.settled A.com.tree I hL hc m4
 ·show w'.ownsRow 0 60 2 ev (qaj x.L ⟨Ws,x.st,[]⟩).evs.length (qai (qaj x.L ⟨Ws,x.st,[]⟩).evs)
  rw[A.L];exact m5
theorem ql2(hK:K<=1999999)(h:St n₀ τ W bw ay (200*K))(hA:∀y∈ay,qbj K y)(hx:ay[t]?=some x)(s:ByteArray)(hs:s.size<=2000000)(a b:Int):
  qsb n₀ τ W bw ay.length K 32 #[vP x.bt,.string s,.agg #[vI a,vI b]] 70 #[vP x.br,.string s,.agg #[vI a,vI b]] mkk3:=by
 have A:=hA x (xr2 hx);have bW:x.st<=900000000:=by have:=A.stK;omega
 have IY:=A.cntK;have dL:=A.com.cnt0;have jT:errWk x.nodes (x.ws.length+x.as_.length) (bl s) (qao a b)=errS x.L x.Ws (bl s) (qao a b):=by rw[A.L];exact qmt A.com.rel A.inv.wks _ _
 have aF:=fun he=>A.com.qwu (s:=bl s) (a:=a) (b:=b) he
 have hr:=fun W1 (hR:GRef W1 x.br x.g x.cap x.L x.ao x.cW x.Ws x.cnt x.st)=>qpq hR A.ents A.bors A.einj A.inv bW ⟨dL,by omega⟩ s hs a b (fun he=>(aF (jT.trans he)).1)
 by_cases he:errWk x.nodes (x.ws.length+x.as_.length) (bl s) (qao a b)=0
 ·obtain⟨I2,L2⟩:=aF he;obtain⟨l1,l2,l3⟩:=qfk A x.L I2 (cnt:=x.cnt+1) (by omega)
  refine qd0 (by omega) h hA hx (o:=qiu x.L (x.cnt+1) (qaj x.L ⟨x.Ws++[qct x.cnt (bl s) a b],x.st,[]⟩)) l1 l2 l3 mkk3 (x.cnt+1) (fun τ1 W1 hP=>?_) (fun W1 hR=>(hr W1 hR).mono fun e w' hM=>?_)
  ·obtain⟨r,dN,hb⟩:=hP.bk;obtain⟨gd,bK⟩:=qeh hP.pr.tree dN;have I3:=I2;rw[A.cnt]at I3 L2 ⊢
   refine(qo9 hP.pr.tree hP.pr.qlc hb (by rw[<-A.cnt];exact dL) (by rw[<-A.cnt];omega) gd bK s hs a b he A.com.rel I3).mono ?_
   rintro e w' ⟨ev,rfl,hS⟩
   exact⟨ev,rfl,qnx hP A dN I3 L2 (by rw[<-A.cnt];omega) hS⟩
  ·rcases hM with ⟨h1,_⟩|⟨_,sl,h1,h2⟩
   ·exact absurd (jT.symm.trans he) h1
   ·exact⟨sl,h1,h2⟩
 ·obtain⟨l1,l2,l3⟩:=qkk A (errWk x.nodes (x.ws.length+x.as_.length) (bl s) (qao a b))
  refine qd0 (by omega) h hA hx (o:=x.same (errWk x.nodes (x.ws.length+x.as_.length) (bl s) (qao a b))) l1 l2 l3 mkk3 0 (fun τ1 W1 hP=>?_) (fun W1 hR=>(hr W1 hR).mono fun e w' hM=>?_)
  ·obtain⟨r,dN,hb⟩:=hP.bk;obtain⟨gd,bK⟩:=qeh hP.pr.tree dN
   refine(qpo hP.pr.tree hb gd bK s hs a b he).mono ?_
   rintro e w' ⟨rfl,dw⟩
   exact⟨_,rfl,qht hP A dw _⟩
  ·rcases hM with ⟨_,h1,h2⟩|⟨h1,_⟩
   ·rw[<-jT]at h1
    exact⟨_,h1,qfx hR h2 _⟩
   ·exact absurd (jT.trans h1) he
theorem qmf(hK:K<=2000000)(h:St n₀ τ W bw ay (200*K))(hA:∀y∈ay,qbj K y)(hx:ay[t]?=some x)(m:Int):
  qsb n₀ τ W bw ay.length K 28 #[vP x.bt,vI m] 71 #[vP x.br,vI m] mkk2:=by
 have A:=hA x (xr2 hx);have bW:x.st<=900000000:=by have:=A.stK;omega
 have IY:=A.cntK;have hr:=fun W1 (hR:GRef W1 x.br x.g x.cap x.L x.ao x.cW x.Ws x.cnt x.st)=>qox hR A.ents A.bors A.inv bW m
 by_cases hm:∃(i:Nat) (y:Wk),x.Ws[i]?=some y/\y.num=m
 ·obtain⟨i,y,hi,rfl⟩:=hm;obtain⟨I2,L2⟩:=A.com.finish i;obtain⟨l1,l2,l3⟩:=qfk A x.L I2 (cnt:=x.cnt) (by omega)
  refine qd0 hK h hA hx (o:=qiu x.L x.cnt (qaj x.L ⟨x.Ws.take i++x.Ws.drop (i+1),x.st,[]⟩)) l1 l2 l3 mkk2 0 (fun τ1 W1 hP=>?_) (fun W1 hR=>(hr W1 hR).mono fun e w' hM=>?_)
  ·obtain⟨r,dN,hb⟩:=hP.bk;obtain⟨gd,bK⟩:=qeh hP.pr.tree dN
   refine(qo2 hP.pr.tree hP.pr.qlc hb gd bK A.com.rel A.inv hi I2).mono ?_
   rintro e w' ⟨ev,rfl,hS⟩
   rw[<-A.cnt]at hS
   exact⟨ev,rfl,qnx hP A dN I2 L2 A.com.cnt0 hS⟩
  ·rcases hM with ⟨h1,_⟩|⟨j,z,sl,hj,hz,h1,h2⟩
   ·exact absurd rfl (h1 y (xr2 hi))
   ·have:z=y:=qew A.inv.wks.nums (xr2 hj) (xr2 hi) hz
    subst this;have ot:j=i:=(List.getElem?_inj (by simpa using (xr0.1 hj).1) A.inv.wks.nums).1 (by simp[hj,hi]);subst ot
    exact⟨sl,h1,h2⟩
 ·have a7:∀y∈x.Ws,y.num≠m:=fun y hy e=>by
   obtain⟨i,hi⟩:=xre hy
   exact hm ⟨i,y,hi,e⟩
  obtain⟨l1,l2,l3⟩:=qkk A 12
  refine qd0 hK h hA hx (o:=x.same 12) l1 l2 l3 mkk2 0 (fun τ1 W1 hP=>?_) (fun W1 hR=>(hr W1 hR).mono fun e w' hM=>?_)
  ·obtain⟨r,dN,hb⟩:=hP.bk
   refine(qpu hb A.com.rel A.inv.wks a7).mono ?_
   rintro e w' ⟨rfl,dw⟩
   exact⟨_,rfl,qht hP A dw _⟩
  ·rcases hM with ⟨_,h1,rfl⟩|⟨j,z,sl,hj,hz,_⟩
   ·exact⟨_,h1,qfx hR (Below.refl _ _) 12⟩
   ·exact absurd hz (a7 z (xr2 hj))
end
theorem qik:∀(l:List Tw) (t:Nat) (x:Tw),l[t]?=some x->(qed l)[t*2]?=some (vP x.bt)/\(qed l)[t*2+1]?=some (vP x.br)
 | [],_,_,h=>by simp at h
 |a::l,0,x,h=>by simp at h;subst h;exact⟨rfl,rfl⟩
 |a::l,t+1,x,h=>by
  have ih:=qik l t x (by simpa using h);simp only[qed,List.flatMap_cons]at ih ⊢
  refine⟨?_,?_⟩
  ·rw[xro (by simp;omega)];rw[show(t+1)*2-[vP a.bt,vP a.br].length=t*2 by simp;omega];exact ih.1
  ·rw[xro (by simp;omega)];rw[show(t+1)*2+1-[vP a.bt,vP a.br].length=t*2+1 by simp;omega];exact ih.2
theorem St.qh5{n₀ : Nat}{τ : Nat->Tag}{W:World}{bw:Nat}{ay:List Tw}(h:St n₀ τ W bw ay N)(cM:0<ay.length):
  ∃gT cT,bw<W.heap.size/\gT<W.heap.size/\ay.length<=cT/\cT<=maxLen/\W.cell? (vA bw 0)=some (vS gT ay.length cT) /\
   ∀(t:Nat) x,ay[t]?=some x->W.cell? (vA gT (t*2))=some (vP x.bt)/\W.cell? (vA gT (t*2+1))=some (vP x.br):=by
 obtain⟨cd,bO,cC,bL,cy,ns,es,ms,me,h⟩:=h;obtain⟨gT,cT,rfl,h1,h2⟩:=qat h.row cM
 refine⟨gT,cT,h.law.blk.lt,qal h.row rfl,h1,h2,h.law.blk.cell 0,fun t x hx=>?_⟩
 obtain⟨c1,c2⟩:=qik ay t x hx;have d1:=h.row.cells (g:=gT) rfl _ _ c1;have d2:=h.row.cells (g:=gT) rfl _ _ c2;rw[Addr.add_lit,Nat.zero_add]at d1 d2
 exact⟨d1,d2⟩
theorem qem(c:Int)(n:Nat)(hc : -9223372036854775808<=c)(fR:c<=9223372036854775807)(hn:0<n)(ez:n<=9223372036854775807):
  ∃r:Nat,r<n/\∀w,Cl 66 #[vI c,vI n] w fun e w'=>e=.returned (vI r)/\w'=w:=by
 have key:∀x:Int,0<=x->∃r:Nat,r<n/\(x.tmod n)=r:=fun x hx=>by
  refine⟨(x.tmod n).toNat,?_,?_⟩
  ·have h1:=Int.tmod_lt_of_pos x (b:=(n:Int)) (by omega);have h2:=Int.tmod_nonneg (n:Int) hx
   omega
  ·have h2:=Int.tmod_nonneg (n:Int) hx
   omega
 have vU:∀x:Int,0<=x->∃r:Nat,r<n/\(x % n)=r:=fun x hx=>by
  obtain⟨r,h,e⟩:=key x hx
  exact⟨r,h,by rw[<-e,Int.tmod_eq_emod_of_nonneg hx]⟩
 have da:0<(n:Int):=by omega
 by_cases h0:c<0
 ·obtain⟨r,h,e⟩:=key (-(c+1)) (by omega)
  refine⟨r,h,fun w=>?_⟩
  have HE:Hid ((-(c+1)).tmod n=r):=e;clear e key vU
  go_enter func66,ntmps66
  go_wp2
  go_ret
  exact⟨qgn (by rw[<-HE.out,Int.neg_tmod]),rfl⟩
 ·obtain⟨r,h,e⟩:=vU c (by omega)
  refine⟨r,h,fun w=>?_⟩
  have HE:Hid (c % n=r):=e;clear e key vU
  go_enter func66,ntmps66
  go_wp2
  go_ret
  exact⟨qgn HE.out,rfl⟩
theorem q1r{n₀ : Nat}{τ : Nat->Tag}{W:World}{bw:Nat}{ay:List Tw}{K:Nat}(hK:K<=1999999)(h:St n₀ τ W bw ay (200*K))(hA:∀y∈ay,qbj K y)(cM:0<ay.length)(d_:ay.length<=100000000)(s s2:ByteArray)(hs:s.size<=2000000)(cv:s2.size<=2000000)(z:Int)(T a0 a1 c0 c1 nm:Int)
  (gw : -9223372036854775808<=T) (jb:T<=9223372036854775807) (F1 F2:Nat) (g:Nat->Array Value) (hz:(z=2/\F1=27/\F2=67/\g=fun b=>#[vP b,.string s,.agg #[vI c0,vI c1]])\/(z=3/\F1=26/\F2=69/\g=fun b=>#[vP b,.string s,.agg #[vI a0,vI a1],.agg #[vI c0,vI c1]])\/(z=6/\F1=28/\F2=71/\g=fun b=>#[vP b,vI nm])\/(z=8/\F1=31/\F2=72/\g=fun b=>#[vP b,.string s])\/(z=9/\F1=30/\F2=73/\g=fun b=>#[vP b,.string s,.string s2])\/(z=10/\F1=29/\F2=74/\g=fun b=>#[vP b,.string s,.agg #[vI a0,vI a1],.agg #[vI c0,vI c1]])) (hc:∀(t:Nat) (x:Tw),ay[t]?=some x->qsb n₀ τ W bw ay.length K F1 (g x.bt) F2 (g x.br) mkk2) :
  Cl 36 #[vP bw,.agg #[vI z,vI T,.string s,.string s2,vI a0,vI a1,vI c0,vI c1,vI nm]] W (qci n₀ τ W bw ay.length (K+1)):=by
 obtain⟨gT,cT,cn,lS,jS,rz,dL,bG⟩:=h.qh5 cM;obtain⟨r,hr,dd⟩:=qem T ay.length gw jb cM (by omega);obtain⟨x,hx⟩:∃x,ay[r]?=some x:=⟨_,xr1 hr⟩;obtain⟨num,er,n,M1,M2,sr,su,oP⟩:=hc r x hx;obtain⟨q0,q1⟩:=bG r x hx;obtain⟨k,hk⟩:∃k,k=ay.length:=⟨_,rfl⟩;rw[<-hk]at cM d_ jS dL oP hr dd ⊢;have oP:∀a c a2 c2 W1 W2,M2 a c a2 c2 W1->Bw W1 W2->Cl 68 #[vP bw,.slice a n c,vI er,.slice a2 n c2,vI er] W2 fun e w'=>e=.returned (.bool true)/\qci n₀ τ W bw k (K+1) (.returned (.bool true)) w':=fun a c a2 c2 W1 W2 hM hb=>(oP a c a2 c2 W1 W2 hM hb).mono (fun e w' hS=>⟨hS.1,by rw[<-hS.1];exact hS⟩)
 generalize qci n₀ τ W bw k (K+1)=X at oP ⊢;clear h hA hk bG hx;simp only[mkk2]at sr su;clear hc;generalize x.bt=bt at sr q0;generalize x.br=br at su q1;have gC:(r:Int)<k:=by omega
 have dN:(0:Int)<=r:=by omega
 have eE:((k:Int) == 0)=false:=by simp;omega
 obtain⟨o,ho⟩:∃o:Array Value,o=#[vI z,vI T,.string s,.string s2,vI a0,vI a1,vI c0,vI c1,vI nm]:=⟨_,rfl⟩;have b3:Blk (W.alloc (.cells o 87)) W.heap.size 87 o:=Blk.new W 87 _;have aO:Bw W (W.alloc (.cells o 87)):=(Below.refl _ _).alloc (Nat.le_refl _) _;have d1:(W.alloc (.cells o 87)).cell? (vA W.heap.size 1)=some (vI T):=(b3.cell 1).trans (by rw[ho];rfl);obtain⟨W0,bJ⟩:∃W0,W0=W.alloc (.cells o 87):=⟨_,rfl⟩;rw[<-bJ]at b3 aO d1;rw[ho]at bJ;have HO:Hid (o=#[vI z,vI T,.string s,.string s2,vI a0,vI a1,vI c0,vI c1,vI nm]):=ho;clear ho
 rcases hz with ⟨rfl,rfl,rfl,rfl⟩|⟨rfl,rfl,rfl,rfl⟩|⟨rfl,rfl,rfl,rfl⟩|⟨rfl,rfl,rfl,rfl⟩|⟨rfl,rfl,rfl,rfl⟩|⟨rfl,rfl,rfl,rfl⟩
 all_goals
  simp only at sr su
  go_enter func36,ntmps36
  go_upto_region 7 with fail
  rw[<-bJ];clear bJ;have cZ:=aO.size;have rZ:=b3.lt;have d0:=(aO.cell (p:=vA bw 0) cn).trans dL;have p0:=(aO.cell (p:=vA gT (r*2)) lS).trans q0;have p1:=(aO.cell (p:=vA gT (r*2+1)) lS).trans q1;clear dL q0 q1;have n1:¬(bw=W0.heap.size):=by omega
  have n2:¬(gT=W0.heap.size):=by omega
  have n3:¬(W.heap.size=W0.heap.size):=by omega
  have ru:bw<W0.heap.size:=by omega
  have rI:gT<W0.heap.size:=by omega
  go_cut [6] from 62 to 75 (fun q wx=>∃b6,q=vP b6/\Bw W wx/\Blk wx b6 128 #[vP bt,vP br]/\Blk wx W.heap.size 87 o/\W.heap.size<b6)
  case first =>
   go_region_held3 (fun w'=>w'.cell? (vA bw 0)=some (vS gT k cT)/\w'.cell? (vA W.heap.size 1)=some (vI T)/\w'.cell? (vA gT (r*2))=some (vP bt)/\w'.cell? (vA gT (r*2+1))=some (vP br)) (go_keep)
    (first
    |(go_at_call 66;refine(dd _).mono ?_;rintro e w1 ⟨rfl,bX⟩;subst bX))
   all_goals go_wp2_with fail
   all_goals go_meet
   all_goals exact⟨_,rfl,(by exact bel2),(by first|(with_reducible exact Blk.new' (by simp))|(with_reducible exact Blk.drew (Blk.new' (by simp)))),(by exact blk2),rZ⟩
  case rest =>
   obtain⟨b6,rfl,cY,i_,oG,pL⟩:=hcut;have ho:=HO.out;subst ho;clear dd p0 p1 d0 d1 b3 aO;have vO:=cY.size;have qS:=i_.cell 0;have qT:=i_.cell 1;have e3:=oG.cell;simp only[xq0,xq1,xq2]at qS qT
   go_wp2_with (first
    |((first|go_at_call 27|go_at_call 26|go_at_call 28|go_at_call 31|go_at_call 30|go_at_call 29);refine(sr _ cY).mono ?_;rintro e w1 ⟨gj,Lz,rfl,c_,kR⟩;have eG:=i_.keep c_ (by omega);have j0:=oG.keep c_ (by omega);have BY:=eG.cell 1;have f3:=j0.cell;simp only[xq0,xq1,xq2]at BY)
    |((first|go_at_call 67|go_at_call 69|go_at_call 71|go_at_call 72|go_at_call 73|go_at_call 74);refine(su _ _ _ _ kR (by exact bel2)).mono ?_;rintro e w2 ⟨gR,L0,rfl,bM,re⟩)
    |(go_at_call 68;refine(oP _ _ _ _ _ _ re (by exact bel2)).mono ?_;rintro e w3 ⟨rfl,hX⟩))
   all_goals exact hX
theorem qmu{n₀ : Nat}{τ : Nat->Tag}{W:World}{bw:Nat}{ay:List Tw}{K:Nat}(hK:K<=1999999)(h:St n₀ τ W bw ay (200*K))(hA:∀y∈ay,qbj K y)(cM:0<ay.length)(d_:ay.length<=100000000)(s s2:ByteArray)(hs:s.size<=2000000)(cv:s2.size<=2000000)(T a0 a1 c0 c1 nm:Int)
  (gw : -9223372036854775808<=T) (jb:T<=9223372036854775807) :
  Cl 36 #[vP bw,.agg #[vI 5,vI T,.string s,.string s2,vI a0,vI a1,vI c0,vI c1,vI nm]] W (qci n₀ τ W bw ay.length (K+1)):=by
 obtain⟨gT,cT,cn,lS,jS,rz,dL,bG⟩:=h.qh5 cM;obtain⟨r,hr,dd⟩:=qem T ay.length gw jb cM (by omega);obtain⟨x,hx⟩:∃x,ay[r]?=some x:=⟨_,xr1 hr⟩;obtain⟨num,er,n,M1,M2,sr,su,oP⟩:=ql2 (by omega) h hA (t:=r) (x:=x) hx s hs a0 a1;obtain⟨q0,q1⟩:=bG r x hx;obtain⟨k,hk⟩:∃k,k=ay.length:=⟨_,rfl⟩;rw[<-hk]at cM d_ jS dL oP hr dd ⊢;have oP:∀a c a2 c2 W1 W2,M2 a c a2 c2 W1->Bw W1 W2->Cl 68 #[vP bw,.slice a n c,vI er,.slice a2 n c2,vI er] W2 fun e w'=>e=.returned (.bool true)/\qci n₀ τ W bw k (K+1) (.returned (.bool true)) w':=fun a c a2 c2 W1 W2 hM hb=>(oP a c a2 c2 W1 W2 hM hb).mono (fun e w' hS=>⟨hS.1,by rw[<-hS.1];exact hS⟩)
 generalize qci n₀ τ W bw k (K+1)=X at oP ⊢;clear h hA hk bG hx;simp only[mkk3]at sr su;generalize x.bt=bt at sr q0;generalize x.br=br at su q1;have gC:(r:Int)<k:=by omega
 have dN:(0:Int)<=r:=by omega
 have eE:((k:Int) == 0)=false:=by simp;omega
 have b3:Blk (W.alloc (.cells #[vI 5,vI T,.string s,.string s2,vI a0,vI a1,vI c0,vI c1,vI nm] 87)) W.heap.size 87 #[vI 5,vI T,.string s,.string s2,vI a0,vI a1,vI c0,vI c1,vI nm]:=Blk.new W 87 _;have aO:Bw W (W.alloc (.cells #[vI 5,vI T,.string s,.string s2,vI a0,vI a1,vI c0,vI c1,vI nm] 87)):=(Below.refl _ _).alloc (Nat.le_refl _) _
 go_enter func36,ntmps36
 go_upto_region 7 with fail
 generalize W.alloc (.cells #[vI 5,vI T,.string s,.string s2,vI a0,vI a1,vI c0,vI c1,vI nm] 87)=W0 at b3 aO ⊢;have cZ:=aO.size;have rZ:=b3.lt;have d0:=(aO.cell (p:=vA bw 0) cn).trans dL;have d1:=b3.cell 1;have p0:=(aO.cell (p:=vA gT (r*2)) lS).trans q0;have p1:=(aO.cell (p:=vA gT (r*2+1)) lS).trans q1;simp only[xq0,xq1,xq2]at d1;clear dL q0 q1;have n1:¬(bw=W0.heap.size):=by omega
 have n2:¬(gT=W0.heap.size):=by omega
 have n3:¬(W.heap.size=W0.heap.size):=by omega
 have ru:bw<W0.heap.size:=by omega
 have rI:gT<W0.heap.size:=by omega
 go_cut [6] from 62 to 75 (fun q wx=>∃b6,q=vP b6/\Bw W wx/\Blk wx b6 128 #[vP bt,vP br]/\Blk wx W.heap.size 87 #[vI 5,vI T,.string s,.string s2,vI a0,vI a1,vI c0,vI c1,vI nm]/\W.heap.size<b6)
 case first =>
  go_region_held3 (fun w'=>w'.cell? (vA bw 0)=some (vS gT k cT)/\w'.cell? (vA W.heap.size 1)=some (vI T)/\w'.cell? (vA gT (r*2))=some (vP bt)/\w'.cell? (vA gT (r*2+1))=some (vP br)) (go_keep)
   (first
   |(go_at_call 66;refine(dd _).mono ?_;rintro e w1 ⟨rfl,bX⟩;subst bX))
  all_goals go_wp2_with fail
  all_goals go_meet
  all_goals exact⟨_,rfl,(by exact bel2),(by first|(with_reducible exact Blk.new' (by simp))|(with_reducible exact Blk.drew (Blk.new' (by simp)))),(by exact blk2),rZ⟩
 case rest =>
  obtain⟨b6,rfl,cY,i_,oG,pL⟩:=hcut;clear dd p0 p1 d0 d1 b3 aO;have vO:=cY.size;have qS:=i_.cell 0;have qT:=i_.cell 1;have e3:=oG.cell;simp only[xq0,xq1,xq2]at qS qT
  go_wp2_with (first
   |(go_at_call 32;refine(sr _ cY).mono ?_;rintro e w1 ⟨gj,Lz,rfl,c_,kR⟩;have eG:=i_.keep c_ (by omega);have j0:=oG.keep c_ (by omega);have BY:=eG.cell 1;have f3:=j0.cell;simp only[xq0,xq1,xq2]at BY)
   |(go_at_call 70;refine(su _ _ _ _ kR (by exact bel2)).mono ?_;rintro e w2 ⟨gR,L0,rfl,bM,re⟩)
   |(go_at_call 68;refine(oP _ _ _ _ _ _ re (by exact bel2)).mono ?_;rintro e w3 ⟨rfl,hX⟩))
  all_goals exact hX
theorem qk4(l:List Wk):qfq l=(l.map (·.num)).map fun m=>vI m:=by unfold qfq;rw[List.map_map];rfl
def qww (W:World)(bt br:Nat)(s:ByteArray):Prop :=
 ∃(cw:ByteArray) (lf:Bool) (i0 i1 i2 i3 i4 i5 er:Int) (l:List Int),l.length<=24 /\
  (∀W1,Bw W W1->Cl 34 #[vP bt,.string s] W1 fun e w'=>∃a c,e=.returned (.tuple #[.agg #[.string cw,.bool lf,vI i0,vI i1,vI i2,vI i3,vI i4,vI i5,.slice a l.length c],vI er])/\Bw W1 w'/\w'.ownsRow 0 3 1 (.slice a l.length c) l.length (l.map fun m=>vI m)/\(∀b,(Value.slice a l.length c).ownBlock=some b->W1.heap.size<=b)) /\
  (∀W1,Bw W W1->Cl 124 #[vP br,.string s] W1 fun e w'=>∃a c,e=.returned (.tuple #[.agg #[.string cw,.bool lf,vI i0,vI i1,vI i2,vI i3,vI i4,vI i5,.slice a l.length c],vI er])/\Bw W1 w'/\w'.ownsRow 0 3 1 (.slice a l.length c) l.length (l.map fun m=>vI m)/\(∀b,(Value.slice a l.length c).ownBlock=some b->W1.heap.size<=b))
theorem qpr{τ : Nat->Tag}{W:World}{t K:Nat}{x:Tw}(hT:TwS τ W t x)(A:qbj K x)(s:ByteArray)(hs:s.size<=2000000):qww W x.bt x.br s:=by
 have TT:=A.com.tree;have hB:=hT.P.pr.qlc;obtain⟨r,dN,oc⟩:=hT.P.bk;obtain⟨gd,bK⟩:=qeh TT dN;have hp:=fun W1 (hb:Bw W W1)=>qmn TT hB (oc.below hb) gd bK s hs
 have hq:=fun W1 (hb:Bw W W1)=>qq6 (hT.R.below hb) A.ents A.inv.wks.wks A.einj s hs
 rw[A.L]at hq;have nR:qcv (x.nodes.map Node.ent) (qaa (bl s))=(findKey x.nodes (qaa (bl s))).map Node.ent:=qft _ _;have lD:∀w':World,w'.ownsRow 0 3 1 v0_ 0 []:=fun w'=>xrk _ _ _ _
 cases hv:qar (bl s) with
 |false =>
  refine⟨⟨#[]⟩,false,0,0,0,0,0,0,1,[],by simp,fun W1 hb=>(hp W1 hb).mono fun e w' h=>?_,fun W1 hb=>(hq W1 hb).mono fun e w' h=>?_⟩
  ·unfold QueR at h;rw[if_pos hv]at h
   exact⟨none,0,h.1,h.2,lD _,fun b hb=>by cases hb⟩
  ·obtain⟨h1,h2⟩:=h
   rcases h2 with ⟨_,h2⟩|⟨h2,_⟩|⟨h2,_⟩
   ·exact⟨none,0,h2,h1,lD _,fun b hb=>by cases hb⟩
   ·rw[hv]at h2;cases h2
   ·rw[hv]at h2;cases h2
 |true =>
  cases hf:findKey x.nodes (qaa (bl s)) with
  |none =>
   rw[hf]at nR
   refine⟨⟨#[]⟩,false,0,0,0,0,0,0,3,[],by simp,fun W1 hb=>(hp W1 hb).mono fun e w' h=>?_,fun W1 hb=>(hq W1 hb).mono fun e w' h=>?_⟩
   ·unfold QueR at h;rw[if_neg (by simp[hv])]at h;simp only[hf]at h
    exact⟨none,0,h.1,h.2,lD _,fun b hb=>by cases hb⟩
   ·obtain⟨h1,h2⟩:=h
    rcases h2 with ⟨h2,_⟩|⟨_,_,h2⟩|⟨_,y,ij,h2,_⟩
    ·rw[hv]at h2;cases h2
    ·exact⟨none,0,h2,h1,lD _,fun b hb=>by cases hb⟩
    ·rw[nR]at h2;cases h2
  |some n =>
   obtain⟨hn,dh⟩:=qbw hf;rw[hf]at nR;have Gt:=A.com.rel.qth TT hB hn;have fD:=A.com.rel.told TT A.inv.wks.wks hn;have yS:(qam x.Ws n.key x.Ws.length).length<=24:=by
    have h1:(qam x.Ws n.key x.Ws.length).length<=x.Ws.length:=by
     unfold qam;rw[List.take_length];exact xrh _ _
    have h2:x.Ws.length<=24:=A.inv.wks.wks.len
    omega
   refine⟨sb (joinB n.ent.key),n.ent.leaf,es0 (qaf (x.nodes.map Node.ent) (joinB n.ent.key)),es1 (qaf (x.nodes.map Node.ent) (joinB n.ent.key)),n.ent.b0,n.ent.b1,ws0 (qae x.Ws (joinB n.ent.key)),ws1 (qae x.Ws (joinB n.ent.key)),0,(qam x.Ws n.key x.Ws.length).map (·.num),by simpa using yS,fun W1 hb=>(hp W1 hb).mono fun e w' h=>?_,fun W1 hb=>(hq W1 hb).mono fun e w' h=>?_⟩
   ·unfold QueR at h;rw[if_neg (by simp[hv])]at h;simp only[hf]at h;obtain⟨v',rfl,h1,h2,h3⟩:=h;rw[Gt.1,Gt.2,qk4]at h1;rw[fD];have an:(qam x.Ws n.key x.Ws.length).length=((qam x.Ws n.key x.Ws.length).map (·.num)).length:=by simp
    rw[an]at h1;obtain⟨a,c,rfl⟩:=qev h1
    exact⟨a,c,rfl,h2,h1,h3⟩
   ·obtain⟨h1,h2⟩:=h
    rcases h2 with ⟨h2,_⟩|⟨_,h2,_⟩|⟨_,y,ij,h2,rfl,h3,h4⟩
    ·rw[hv]at h2;cases h2
    ·rw[nR]at h2;cases h2
    ·rw[nR]at h2;simp only[Option.map_some,Option.some.injEq]at h2;subst h2;rw[qk4]at h3;have an:(qam x.Ws n.ent.key x.Ws.length).length=((qam x.Ws n.key x.Ws.length).map (·.num)).length:=by simp;rfl
     rw[an]at h3;obtain⟨a,c,rfl⟩:=qev h3
     exact⟨a,c,rfl,h1,h3,h4⟩
theorem qgp(hb:Bw w1 w2){n:Nat}(h:w1.ownsRow 0 e c v n xs):w2.ownsRow 0 e c v n xs:=qab (T:=fun _=>False) h (Keep.new hb) (fun _ _ h=>h)
def AskR (τ : Nat->Tag)(W:World)(bw:Nat)(cd:Value)(N:Nat)(e:Ending)(w':World):Prop :=
 ∃o W1,(∀b,o=some b->W.heap.size<=b)/\Bw W W1/\qro (qde τ W.heap.size) W1 o bw cd N e w'
theorem qoz{τ : Nat->Tag}{W:World}{bw:Nat}(h:qgh τ W bw cd bO cC bL cy ns es ms me)(N:Nat)(hN:N<=900000000)(kH:ns.length<=N)(gx:es.length<=N)
  (s s2:ByteArray) (hQ:qww W bt br s) (T a0 a1 c0 c1 nm:Int) :
  Cl 75 #[vP bw,.agg #[vP bt,vP br],.agg #[vI 4,vI T,.string s,.string s2,vI a0,vI a1,vI c0,vI c1,vI nm]] W (AskR τ W bw cd (N+4)):=by
 obtain⟨cw,lf,i0,i1,i2,i3,i4,i5,er,l,yS,gO,ie⟩:=hQ;have gY:∀W1,Bw W W1->Cl 37 #[vP bw] W1 fun e w'=>e=.returned (.bool true)/\Bw W1 w':=fun W1 hb=>by
  have hh:=h.below hb
  exact qhq hh.blk hh.N hh.E (by omega) (by omega)
 have av:∀W1 a c,Bw W W1->W1.ownsRow 0 3 1 (.slice a l.length c) l.length (l.map fun m=>vI m)->(∀b,(Value.slice a l.length c).ownBlock=some b->W.heap.size<=b)->Cl 126 #[vP bw,.slice a l.length c] W1 fun e w'=>e=.returned (.tuple #[])/\AskR τ W bw cd (N+4) (.returned (.bool true)) w':=fun W1 a c hb hr hf=>by
  refine(qm6 (h.below hb) (by omega) hr (by omega) (fun b aZ=>qe4 (hf b aZ))).mono ?_
  rintro e w' ⟨rfl,τ',kj,kg,qI,sd,hT,hI,an⟩
  exact⟨rfl,_,W1,hf,hb,rfl,τ',_,_,_,_,_,_,_,_,hT,hI,by omega,by omega⟩
 have pZ:=fun w aA aB cA cB (r1:World.ownsRow w 0 3 1 (.slice aA l.length cA) l.length (l.map fun m=>vI m)) (r2:World.ownsRow w 0 3 1 (.slice aB l.length cB) l.length (l.map fun m=>vI m))=>qkp (w:=w) (aA:=aA) (aB:=aB) (cA:=cA) (cB:=cB) (l:=l) rfl (by omega) (qho r1) (qho r2) (qlo r1) (qlo r2) cw lf i0 i1 i2 i3 i4 i5
 generalize AskR τ W bw cd (N+4)=X at av ⊢;clear h;generalize (l.map fun m=>vI m)=lv at *;generalize l.length=n at *;have b4:Blk ((W.alloc (.cells #[vP bt,vP br] 128)).alloc (.cells #[vI 4,vI T,.string s,.string s2,vI a0,vI a1,vI c0,vI c1,vI nm] 87)) W.heap.size 128 #[vP bt,vP br]:=(Blk.new W 128 _).alloc _;have b5:Blk ((W.alloc (.cells #[vP bt,vP br] 128)).alloc (.cells #[vI 4,vI T,.string s,.string s2,vI a0,vI a1,vI c0,vI c1,vI nm] 87)) (W.heap.size+1) 87 #[vI 4,vI T,.string s,.string s2,vI a0,vI a1,vI c0,vI c1,vI nm]:=Blk.new' (by simp)
 go_enter func75,ntmps75
 go_wp2_with (first
  |(go_at_call 34;refine(gO _ ?_).mono ?_;(focus exact bel2);rintro e w1 ⟨ra,rc,rfl,aa,gC,dt⟩;have aj:Bw W w1:=qac (by exact bel2) aa;have d4:=b4.below aa (by simp<;>omega);have d5:=b5.below aa (by simp<;>omega);have e0:=d4.cell 1;have e2:=d5.cell 2;have cJ:=aj.size;have l5:=d5.lt;have l4:=d4.lt;simp only[xq0,xq1,xq2]at e0 e2)
  |(go_at_call 124;refine(ie _ ?_).mono ?_;(focus exact bel2);rintro e w2 ⟨sa,sc,rfl,af,lE,dy⟩;have aw:Bw W w2:=qac (aj.alloc cJ _) af;have zm:=qgp af (gC.alloc (.cells #[.string cw,.bool lf,vI i0,vI i1,vI i2,vI i3,vI i4,vI i5,.slice ra n rc] 37));have f7:=(Blk.new w1 37 #[.string cw,.bool lf,vI i0,vI i1,vI i2,vI i3,vI i4,vI i5,.slice ra n rc]).below af (by simp);have dO:=aw.size;have l7:=f7.lt;have c7:=f7.cell)
  |(go_at_call 125;refine(pZ _ _ _ _ _ (zm.alloc _) (lE.alloc _)).mono ?_;rintro e w3 ⟨rfl,ax⟩;have aK:Bw W w3:=qac (aw.alloc dO _) ax;have DL:=qgp ax (zm.alloc _);have BZ:=(f7.alloc _).below ax (by simp;omega);clear c7;have c7:=BZ.cell 8;simp only[xq0,xq1,xq2]at c7)
  |(go_at_call 37;refine(gY _ aK).mono ?_;rintro e w4 ⟨rfl,a_⟩;have dU:Bw W w4:=qac aK a_;have DM:=qgp a_ DL;have B_:=BZ.below a_ BZ.lt;have Hx:=B_.cell 8;simp only[xq0,xq1,xq2]at Hx)
  |(go_at_call 126;refine(av _ _ _ dU DM (fun b hb=>by have:=dt b hb;simp at this;omega)).mono ?_;rintro e w5 ⟨rfl,hX⟩)
  |(go_at_call 112;refine(qm0 _ _).mono ?_;rintro e w6 ⟨rfl,vF⟩;subst vF))
 all_goals exact hX
theorem qmo{n₀ : Nat}{τ : Nat->Tag}{W:World}{bw:Nat}{ay:List Tw}{K:Nat}{t:Nat}{x:Tw}(hK:K<=2000000)(h:St n₀ τ W bw ay (200*K))(hA:∀y∈ay,qbj K y)(hx:ay[t]?=some x)(s s2:ByteArray)(hs:s.size<=2000000)(T a0 a1 c0 c1 nm:Int)(W1:World)(hb:Bw W W1):
  Cl 75 #[vP bw,.agg #[vP x.bt,vP x.br],.agg #[vI 4,vI T,.string s,.string s2,vI a0,vI a1,vI c0,vI c1,vI nm]] W1 (qci n₀ τ W bw ay.length (K+1)):=by
 have h1:=h.below hb;obtain⟨cd,bO,cC,bL,cy,ns,es,ms,me,hS⟩:=id h1;have hT:=hS.tw t x hx;have A:=hA x (xr2 hx)
 refine(qoz hS.law (200*K) (by omega) hS.n1 hS.n2 s s2 (qpr hT A s hs) T a0 a1 c0 c1 nm).mono ?_
 rintro e w' ⟨o,W2,ho,af,hR⟩
 obtain⟨Ez,Lp,Lo,Lm,Ln,NN,Fm,N9,N5,ja⟩:=h1.below af;have FH:=hR;obtain⟨gC,τ3,r1,r2,r3,r4,r5,r6,r7,r8,hO,hL,_⟩:=hR;have hz:=hb.size
 have:Ez=cd:=by
  have e1:=hS.law.blk.below af hS.law.blk.lt;have e2:=ja.law.blk;unfold Blk at e1 e2;rw[e1]at e2
  simp at e2
  exact e2.1.symm
 subst this;obtain⟨τ2,k1,se,kj,ki,kg,kh,qI,qt,sd,r_,k2⟩:=St.told ja (fun b aZ=>⟨qe4 (ho b aZ),by have:=ho b aZ;have:=hS.le;omega⟩) FH
 refine⟨FH.1,τ2,ay,((qbh.below hb).trans (qbh.below af)).own k1 (fun b aZ=>by have:=ho b aZ;omega),⟨se,kj,ki,kg,kh,qI,qt,sd,r_,k2.law,by have:=k2.n1;omega,by have:=k2.n2;omega,k2.row,k2.tT,k2.tw,k2.lo,k2.le⟩,fun y hy=>(hA y hy).mono (by omega),Nat.le_refl _,Nat.le_succ _⟩
theorem qps{n₀ : Nat}{τ : Nat->Tag}{W:World}{bw:Nat}{ay:List Tw}{K:Nat}(hK:K<=1999999)(h:St n₀ τ W bw ay (200*K))(hA:∀y∈ay,qbj K y)(cM:0<ay.length)(d_:ay.length<=100000000)(s s2:ByteArray)(hs:s.size<=2000000)(cv:s2.size<=2000000)(T a0 a1 c0 c1 nm:Int)
  (gw : -9223372036854775808<=T) (jb:T<=9223372036854775807) :
  Cl 36 #[vP bw,.agg #[vI 4,vI T,.string s,.string s2,vI a0,vI a1,vI c0,vI c1,vI nm]] W (qci n₀ τ W bw ay.length (K+1)):=by
 obtain⟨gT,cT,cn,lS,jS,rz,dL,bG⟩:=h.qh5 cM;obtain⟨r,hr,dd⟩:=qem T ay.length gw jb cM (by omega);obtain⟨x,hx⟩:∃x,ay[r]?=some x:=⟨_,xr1 hr⟩;have ma:=fun W1 hb=>qmo (by omega) h hA (t:=r) (x:=x) hx s s2 hs T a0 a1 c0 c1 nm W1 hb
 obtain⟨q0,q1⟩:=bG r x hx;obtain⟨k,hk⟩:∃k,k=ay.length:=⟨_,rfl⟩;rw[<-hk]at cM d_ jS dL ma hr dd ⊢;have ma:∀W1,Bw W W1->Cl 75 #[vP bw,.agg #[vP x.bt,vP x.br],.agg #[vI 4,vI T,.string s,.string s2,vI a0,vI a1,vI c0,vI c1,vI nm]] W1 fun e w'=>e=.returned (.bool true)/\qci n₀ τ W bw k (K+1) (.returned (.bool true)) w':=fun W1 hM=>(ma W1 hM).mono (fun e w' hS=>⟨hS.1,by rw[<-hS.1];exact hS⟩)
 generalize qci n₀ τ W bw k (K+1)=X at ma ⊢;clear h hA hk bG hx;generalize x.bt=bt at ma q0;generalize x.br=br at ma q1;have gC:(r:Int)<k:=by omega
 have dN:(0:Int)<=r:=by omega
 have eE:((k:Int) == 0)=false:=by simp;omega
 have b3:Blk (W.alloc (.cells #[vI 4,vI T,.string s,.string s2,vI a0,vI a1,vI c0,vI c1,vI nm] 87)) W.heap.size 87 #[vI 4,vI T,.string s,.string s2,vI a0,vI a1,vI c0,vI c1,vI nm]:=Blk.new W 87 _;have aO:Bw W (W.alloc (.cells #[vI 4,vI T,.string s,.string s2,vI a0,vI a1,vI c0,vI c1,vI nm] 87)):=(Below.refl _ _).alloc (Nat.le_refl _) _
 go_enter func36,ntmps36
 go_upto_region 7 with fail
 generalize W.alloc (.cells #[vI 4,vI T,.string s,.string s2,vI a0,vI a1,vI c0,vI c1,vI nm] 87)=W0 at b3 aO ⊢;have cZ:=aO.size;have rZ:=b3.lt;have d0:=(aO.cell (p:=vA bw 0) cn).trans dL;have d1:=b3.cell 1;have p0:=(aO.cell (p:=vA gT (r*2)) lS).trans q0;have p1:=(aO.cell (p:=vA gT (r*2+1)) lS).trans q1;simp only[xq0,xq1,xq2]at d1;clear dL q0 q1;have n1:¬(bw=W0.heap.size):=by omega
 have n2:¬(gT=W0.heap.size):=by omega
 have n3:¬(W.heap.size=W0.heap.size):=by omega
 have ru:bw<W0.heap.size:=by omega
 have rI:gT<W0.heap.size:=by omega
 go_cut [6] from 62 to 75 (fun q wx=>∃b6,q=vP b6/\Bw W wx/\Blk wx b6 128 #[vP bt,vP br]/\Blk wx W.heap.size 87 #[vI 4,vI T,.string s,.string s2,vI a0,vI a1,vI c0,vI c1,vI nm]/\W.heap.size<b6)
 case first =>
  go_region_held3 (fun w'=>w'.cell? (vA bw 0)=some (vS gT k cT)/\w'.cell? (vA W.heap.size 1)=some (vI T)/\w'.cell? (vA gT (r*2))=some (vP bt)/\w'.cell? (vA gT (r*2+1))=some (vP br)) (go_keep)
   (first
   |(go_at_call 66;refine(dd _).mono ?_;rintro e w1 ⟨rfl,bX⟩;subst bX))
  all_goals go_wp2_with fail
  all_goals go_meet
  all_goals exact⟨_,rfl,(by exact bel2),(by first|(with_reducible exact Blk.new' (by simp))|(with_reducible exact Blk.drew (Blk.new' (by simp)))),(by exact blk2),rZ⟩
 case rest =>
  obtain⟨b6,rfl,cY,i_,oG,pL⟩:=hcut;clear dd p0 p1 d0 d1 b3 aO;have vO:=cY.size;have qS:=i_.cell 0;have qT:=i_.cell 1;have e3:=oG.cell;simp only[xq0,xq1,xq2]at qS qT
  go_wp2_with (go_at_call 75;refine(ma _ cY).mono ?_;rintro e w1 ⟨rfl,hX⟩)
  all_goals exact hX
end Go.Proofs.YtphclnolomgjoaaGreatDoor
