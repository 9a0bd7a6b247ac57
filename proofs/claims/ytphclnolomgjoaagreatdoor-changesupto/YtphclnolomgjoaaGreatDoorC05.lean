import Derived.Test.YtphclnolomgjoaaGreatDoorC04
set_option linter.unusedVariables false
set_option linter.unusedSimpArgs false
set_option maxRecDepth 100000
set_option maxHeartbeats 4000000
namespace Go.Proofs.YtphclnolomgjoaaGreatDoor
open Tryz
open Go.RowKit
variable {ns xs:List Value}{U0 U1 U2 U3 U4 U5 W W' w w' w1 w2 w3 wA wN:World}{bw c cl f1 f3 g1 g2 g3 gA gN k0 k1 k2 k3 kA kN:Nat}{bL bO cC cd cy sl tp v:Value}{ms:List Int}{al:Option Addr}{T:Nat->Prop}{e el tl:TypeId}{vs:Array Value}{ks nodes:List Node}{r:Node}{leaf ok:Bool}{nm:Bs}{a d:Int}
structure OwnP (W:World) (bw f1 f3:Nat) (el lt:TypeId) (sz:Nat) (vs:Array Value) (bO bL:Value) (ns:List Value) (ms:List Int) (l:Value) (k0:Nat) (m:Int) (n:Nat)
  (U0 w1 w2 w3 wN wA U1 U2 U3 U4 U5:World) (g1 k1 g2 k2 g3 k3 gN kN gA kA:Nat) (w':World):Prop where
 kp0:Keep (fun b=>l.ownBlock=some b) W U0
 r0:U0.ownsRow 0 el sz l k0 (List.replicate (k0*sz) (vI m))
 u1:Bw U0 U1
 a1:AppS U1 l el sz k0 (k0+1) m g1 k1 w1
 u2:Bw w1 U2
 a2:AppS U2 l el sz k0 (k0+2) m g2 k2 w2
 u3:Bw w2 U3
 a3:AppS U3 l el sz k0 (k0+3) m g3 k3 w3
 u4:Bw w3 U4
 aN:AppR U4 bO.ownBlock lt 1 (n+4) (ns++[l,vS g1 (k0+1) k1,vS g2 (k0+2) k2,vS g3 (k0+3) k3]) gN kN wN
 u5:Below wN.heap.size (wN.setCell (vA bw f1) (vS gN (n+4) kN)) U5
 aA:AppR U5 bL.ownBlock 3 1 (n+4) (ints ms++[vI m,vI m,vI m,vI m]) gA kA wA
 end_:w'=wA.setCell (vA bw f3) (vS gA (n+4) kA)
theorem qki{k n:Nat}{M:Value}(hl:xs.length=n)(hk:k<n):(List.replicate k M++xs.drop k).set k M=List.replicate (k+1) M++xs.drop (k+1):=by
 rw[List.set_append_right _ _ (by simp)];simp only[List.length_replicate,Nat.sub_self];rw[List.drop_eq_getElem_cons (by omega),xr8,List.replicate_succ',List.append_assoc]
 rfl
theorem qh7(hb:Blk W bw 84 #[cd,bO,cC,bL,cy])(hN:W.ownsRow 0 25 1 bO ns.length ns)(hA:W.ownsRow 0 3 1 bL ns.length (ints ms))
  (hl:ns.length<=1000000000) (fK:bO.ownBlock≠some bw) (dF:bL.ownBlock≠some bw) (gL:∀g,bO.ownBlock=some g->bL.ownBlock≠some g)
  (hL:W.ownsRow 0 3 1 (.slice al k0 cl) k0 xs) (eE:k0<=990) (lT:(Value.slice al k0 cl).ownBlock≠some bw) (mE:∀g,(Value.slice al k0 cl).ownBlock=some g->bO.ownBlock≠some g) (mD:∀g,(Value.slice al k0 cl).ownBlock=some g->bL.ownBlock≠some g) :
  Cl 126 #[vP bw,.slice al k0 cl] W fun e w'=>e=.returned (.tuple #[])/\∃U0 w1 w2 w3 wN wA U1 U2 U3 U4 U5 g1 k1 g2 k2 g3 k3 gN kN gA kA,
   OwnP W bw 1 3 3 25 1 #[cd,bO,cC,bL,cy] bO bL ns ms (.slice al k0 cl) k0 (-1-(ns.length:Int)) ns.length U0 w1 w2 w3 wN wA U1 U2 U3 U4 U5 g1 k1 g2 k2 g3 k3 gN kN gA kA w':=by
 obtain⟨aA,cA,rfl,a1,a2,_⟩:=qdr hA;obtain⟨aN,cN,rfl,n1,n2,_⟩:=qdr hN;obtain⟨n,hn⟩:∃n,n=ns.length:=⟨_,rfl⟩;rw[<-hn]at hb hN hA hl a1 n1 fK dF gL mE mD ⊢;have c1:=hb.cell 1;have c3:=hb.cell 3;simp only[xq0,xq1,xq2]at c1 c3;have ak:=hb.lt;have yW:k0<=cl/\cl<=maxLen:=by
  rcases hL.2 with ⟨h,h0⟩|⟨g,cap,aD,h,_,_,h2,h3,_⟩
  ·cases h;exact⟨Nat.le_refl _,Nat.zero_le _⟩
  ·cases h;exact⟨h2,h3⟩
 obtain⟨yW,wH⟩:=yW;have HA:=fun W' (h:W'.ownsRow 0 3 1 (.slice aA n cA) n (ints ms)) nb (cU:Blk W' nb 3 #[vI (-1-(n:Int)),vI (-1-(n:Int)),vI (-1-(n:Int)),vI (-1-(n:Int))]) =>
  qby un29 inf3 (by omega) W' _ n (ints ms) h nb 4 4 (by omega) [vI (-1-(n:Int)),vI (-1-(n:Int)),vI (-1-(n:Int)),vI (-1-(n:Int))] rfl cU (by intro u hu;simp at hu;subst hu;rfl) (by unfold maxLen;omega) (by omega)
 have H1:=fun W' (h:W'.ownsRow 0 3 1 (.slice al k0 cl) k0 (List.replicate (k0*1) (vI (-1-(n:Int))))) nb (cU:Blk W' nb 3 #[vI (-1-(n:Int))]) =>
  qfi un29 inf3 (by omega) W' (.slice al k0 cl) k0 (-1-(n:Int)) h nb 1 1 (by omega) (by simpa using cU) (by unfold maxLen;omega) (by omega)
 have H2:=fun W' (h:W'.ownsRow 0 3 1 (.slice al k0 cl) k0 (List.replicate (k0*1) (vI (-1-(n:Int))))) nb (cU:Blk W' nb 3 #[vI (-1-(n:Int)),vI (-1-(n:Int))]) =>
  qfi un29 inf3 (by omega) W' (.slice al k0 cl) k0 (-1-(n:Int)) h nb 2 2 (by omega) (by simpa using cU) (by unfold maxLen;omega) (by omega)
 have H3:=fun W' (h:W'.ownsRow 0 3 1 (.slice al k0 cl) k0 (List.replicate (k0*1) (vI (-1-(n:Int))))) nb (cU:Blk W' nb 3 #[vI (-1-(n:Int)),vI (-1-(n:Int)),vI (-1-(n:Int))]) =>
  qfi un29 inf3 (by omega) W' (.slice al k0 cl) k0 (-1-(n:Int)) h nb 3 3 (by omega) (by simpa using cU) (by unfold maxLen;omega) (by omega)
 have tz:=fun W' (h:W'.ownsRow 0 25 1 (.slice aN n cN) n ns) nb (g1 k1 g2 k2 g3 k3:Nat) (cU:Blk W' nb 25 #[.slice al k0 cl,vS g1 (k0+1) k1,vS g2 (k0+2) k2,vS g3 (k0+3) k3]) =>
  qby un27 qxb (by omega) W' _ n ns h nb 4 4 (by omega) [.slice al k0 cl,vS g1 (k0+1) k1,vS g2 (k0+2) k2,vS g3 (k0+3) k3] rfl cU (by intro u hu;simp at hu;rcases hu with rfl|rfl|rfl|rfl<;>rfl) (by unfold maxLen;omega) (by omega)
 clear hn;have oE:Hid (xs.length=k0*1):=hL.1
 go_enter func126,ntmps126
 go_wp2
 go_loopw [5] (fun i wr=>∃k:Nat,k<=k0/\i=vI k/\wr.ownsRow 0 3 1 (.slice al k0 cl) k0 (List.replicate k (vI (-1-(n:Int)))++xs.drop k)/\Keep (fun b=>(Value.slice al k0 cl).ownBlock=some b) W wr) (fun i _=>k0-(intOf i).toNat)
 case atStart=>exact⟨0,Nat.zero_le _,rfl,by simpa using hL,Keep.refl _ _⟩
 case round =>
  obtain⟨k,hk,rfl,au,fT⟩:=hrel
  by_cases ej:k<k0
  ·obtain⟨gl,Hy,ee,_⟩:=qat hL (by omega)
   cases ee
   have FU:=au.frozenAt k;have aY:=au.cellAt k (by omega);have bW:=au.stored k (vI (-1-(n:Int)));rw[qki oE.out (by omega)]at bW;obtain⟨rU,zv⟩:=bW;have rM:=fT.grown zv (fun b hb=>by simp[Value.ownBlock]at hb ⊢;exact hb);obtain⟨u,hu⟩:∃u,(List.replicate k (vI (-1-(n:Int)))++xs.drop k)[k]?=some u:=⟨_,xr1 (by have:=oE.out;simp;omega)⟩;rw[hu]at aY;clear au zv fT H1 H2 H3 HA tz
   go_wp2
   exact⟨⟨k+1,by omega,by go_num,rU,rM⟩,by simp[intOf];omega⟩
  ·obtain rfl:k=k0:=by omega
   rw[List.drop_of_length_le (by have:=oE.out;omega),List.append_nil,show List.replicate k (vI (-1-(n:Int)))=List.replicate (k*1) (vI (-1-(n:Int))) by simp]at au;have cx:=hb.keep fT lT;have Ct:=qab hN fT (fun g hg e=>mE g e hg);have tK:=qab hA fT (fun g hg e=>mD g e hg);have xv:=cx.cell 1;have xw:=cx.cell 3;have jt:=cx.lt;simp only[xq0,xq1,xq2]at xv xw;clear c1 c3 ak;have Br:Hid (Keep (fun b=>(Value.slice al k cl).ownBlock=some b) W wr):=fT;have qm:Hid (wr.ownsRow 0 3 1 (.slice al k cl) k (List.replicate (k*1) (vI (-1-(n:Int))))):=au;have Kd:=fT.size;clear fT hN hA hL hb oE
   go_wp2_with (first
    |(at_builtin;refine qah (by rfl) _ _ 25 25 (by rfl) _ _ (by rfl) (by rfl) (H1 _ ?_ _ ?_) ?_;(focus (exact qab (T:=fun _=>False) au (Keep.new (by exact bel2)) (fun _ _ h=>h)));(focus exact blk2);rintro v1 w1 ⟨g1,k1,rfl,R1⟩;have aj:Keep (fun b=>(Value.slice al k cl).ownBlock=some b) wr w1:=(Keep.new (by exact bel2)).trans R1.keep)
    |(at_builtin;refine qah (by rfl) _ _ 25 25 (by rfl) _ _ (by rfl) (by rfl) (H2 _ ?_ _ ?_) ?_;(focus (exact qab (T:=fun _=>False) R1.row (Keep.new (by exact bel2)) (fun _ _ h=>h)));(focus exact blk2);rintro v2 w2 ⟨g2,k2,rfl,R2⟩;have aw:Keep (fun b=>(Value.slice al k cl).ownBlock=some b) wr w2:=(aj.alloc _).trans R2.keep)
    |(at_builtin;refine qah (by rfl) _ _ 25 25 (by rfl) _ _ (by rfl) (by rfl) (H3 _ ?_ _ ?_) ?_;(focus (exact qab (T:=fun _=>False) R2.row (Keep.new (by exact bel2)) (fun _ _ h=>h)));(focus exact blk2);rintro v3 w3 ⟨g3,k3,rfl,R3⟩;have aK:Keep (fun b=>(Value.slice al k cl).ownBlock=some b) wr w3:=(aw.alloc _).trans R3.keep;have b3:=cx.keep aK lT;have xx:=b3.cell 1;have pK:=b3.lt;simp only[xq0,xq1,xq2]at xx;have xU:=qab Ct aK (fun g hg e=>mE g e hg);have sy:=qab tK aK (fun g hg e=>mD g e hg))
    |(at_builtin;refine qah (by rfl) _ _ 80 80 (by rfl) _ _ (by rfl) (by rfl) (tz _ ?_ _ g1 k1 g2 k2 g3 k3 ?_) ?_;(focus (exact qab (T:=fun _=>False) xU (Keep.new (by exact bel2)) (fun _ _ h=>h)));(focus exact blk2);rintro vN wN ⟨gN,kN,rfl,RN⟩;have bN:=(b3.alloc _).keep RN.keep fK;have xz:=bN.cell 1;have Ca:=bN.frozen 1;have x9:=bN.cell 3;have Cb:=bN.frozen 3;have Dw:=bN.lt;simp only[xq0,xq1,xq2]at xz x9))
   have bS:=bN.set 1 (vS gN (n+4) kN);simp only[xr6,xr8,xr7]at bS;have xI:(wN.setCell (vA bw 1) (vS gN (n+4) kN)).ownsRow 0 3 1 (.slice aA n cA) n (ints ms):=by
    refine qab (T:=fun b=>b=bw\/(Value.slice aN n cN).ownBlock=some b) sy ?_ ?_
    ·exact((Keep.trans (T:=fun b=>b=bw\/(Value.slice aN n cN).ownBlock=some b) (Keep.alloc (Keep.refl _ _) _) (RN.keep.mono (fun b hb=>Or.inr hb))).setCell (p:=vA bw 1) (Or.inl rfl) _)
    ·rintro g hg (rfl|h)
     ·exact dF hg
     ·exact gL g h hg
   obtain⟨WS,rj⟩:∃WS,WS=wN.setCell (vA bw 1) (vS gN (n+4) kN):=⟨_,rfl⟩;have dk:WS.heap.size=wN.heap.size:=by rw[rj];simp
   rw[<-rj]at bS xI ⊢;have HS:Hid (WS=wN.setCell (vA bw 1) (vS gN (n+4) kN)):=rj;have BB:Hid (WS.heap.size=wN.heap.size):=dk;clear rj dk xz x9 Ca Cb H1 H2 H3 tz xv xw xx;have BU:=bS.cell 3;have Dx:=bS.lt;simp only[xq0,xq1,xq2]at BU
   go_region_law (refine qau rfl (.tmp 59) (.tmp 64) 25 25 rfl _ _ ?_ ?_ (HA _ ?_ ?_ ?_) ?_;(focus (simp[Act.eval,Act.put]));(focus ((try simp[Act.eval,Act.put]);(try rfl)));(focus (exact qab (T:=fun _=>False) xI (Keep.new (by exact bel2)) (fun _ _ h=>h)));(focus exact blk2);rintro vA wA ⟨gA,kA,rfl,RA⟩;have bA:=Blk.keep (show Blk _ bw 84 #[cd,vS gN (n+4) kN,cC,.slice aA n cA,cy] by exact blk2) RA.keep dF;have xy:=bA.cell 3;have Fp:=bA.frozen 3;simp only[xq0,xq1,xq2]at xy)
   all_goals go_wp2
   all_goals go_end0
   all_goals refine⟨rfl,wr,w1,w2,w3,wN,wA,_,_,_,_,_,g1,k1,g2,k2,g3,k3,gN,kN,gA,kA,⟨Br.out,qm.out,?_,R1,?_,R2,?_,R3,?_,RN,?_,RA,rfl⟩⟩
   all_goals first|(rw[<-HS.out,<- BB.out];exact bel2;done)|(exact bel2;done)
theorem qdv.keep{m:Int}(h:qdv W c v m)(hk:Keep T W W')(hT:∀g,v.ownBlock=some g->¬T g):qdv W' c v m:=by
 rcases h with rfl|⟨b,len,cap,rfl,h1,h2,h3,h4,h5⟩
 ·exact .inl rfl
 ·exact .inr ⟨b,len,cap,rfl,h1,h2,h3,xrg h4 hk.size,fun j hj=>(hk.cell (p:=vA b j) h4 (hT b rfl)).trans (h5 j hj)⟩
theorem qdv.stay{m:Int}(h:qdv W c v m)(hz:W.heap.size<=W'.heap.size)(hs:∀b j,b<W.heap.size->W.cell? (vA b j)=some (vI m)->W'.cell? (vA b j)=some (vI m)):qdv W' c v m:=by
 rcases h with rfl|⟨b,len,cap,rfl,h1,h2,h3,h4,h5⟩
 ·exact .inl rfl
 ·exact .inr ⟨b,len,cap,rfl,h1,h2,h3,xrg h4 hz,fun j hj=>hs b j h4 (h5 j hj)⟩
theorem qdz.keep(h:qdz W c tl sl tp ns ms)(hk:Keep T W W')
  (h1:∀g,sl.ownBlock=some g->¬T g) (h2:∀g,tp.ownBlock=some g->¬T g) (h3:∀v∈ns,∀g,v.ownBlock=some g->¬T g):qdz W' c tl sl tp ns ms :=
 ⟨qab h.row hk h1,qab h.mrow hk h2,h.len,fun i v m hv hm=>(h.ok i v m hv hm).keep hk (h3 v (xr2 hv))⟩
theorem qhm{k:Nat}{l:Value}{m:Int}(h:w'.ownsRow 0 e c l k (List.replicate (k*c) (vI m)))(hk:k<=1000):qdv w' c l m:=by
 rcases h.2 with ⟨rfl,_⟩|⟨g,cap,aD,rfl,_,hg,h1,h2,_⟩
 ·exact .inl rfl
 ·refine .inr ⟨g,k,cap,rfl,hk,h1,h2,(xrc.1 hg).1,fun j hj=>?_⟩
  have:=h.cells (g:=g) rfl j (vI m) (by rw[List.getElem?_replicate,if_pos hj])
  rwa[Addr.add_lit,Nat.zero_add]at this
structure OwnQ (W:World) (bw f1 f3:Nat) (lt:TypeId) (c:Nat) (vs:Array Value) (bO bL:Value) (ns:List Value) (ms:List Int) (l:Value) (m:Int) (H3 g1 g2 g3 gN gA:Nat) (sN sA s1 s2 s3:Value) (w':World):Prop where
 keep:Keep (fun b=>b=bw\/bO.ownBlock=some b\/bL.ownBlock=some b\/l.ownBlock=some b) W w'
 marked:qdz w' c lt sN sA (ns++[l,s1,s2,s3]) (ms++[m,m,m,m])
 blk:Blk w' bw 84 ((vs.setIfInBounds f1 sN).setIfInBounds f3 sA)
 h3:W.heap.size<=H3
 o1:s1.ownBlock=some g1/\g1<H3/\(l.ownBlock=some g1\/W.heap.size<=g1)
 o2:s2.ownBlock=some g2/\g2<H3/\(l.ownBlock=some g2\/W.heap.size<=g2)
 o3:s3.ownBlock=some g3/\g3<H3/\(l.ownBlock=some g3\/W.heap.size<=g3)
 oN:sN.ownBlock=some gN/\(bO.ownBlock=some gN\/H3<=gN)
 oA:sA.ownBlock=some gA/\(bL.ownBlock=some gA\/(H3<=gA/\gN<gA))
theorem qjs{lt:TypeId}{l:Value}{m:Int}
  
  (hb:Blk W bw 84 vs) (hM:qdz W c lt bO bL ns ms) (eE:k0<=990) (MN:W.ownsRow 0 el c l k0 xs)
  (fK:bO.ownBlock≠some bw) (dF:bL.ownBlock≠some bw) (gL:∀g,bO.ownBlock=some g->bL.ownBlock≠some g)
  (lT:l.ownBlock≠some bw) (mE:∀g,l.ownBlock=some g->bO.ownBlock≠some g) (mD:∀g,l.ownBlock=some g->bL.ownBlock≠some g)
  (hL:∀v∈ns,∀g,v.ownBlock=some g->g≠bw/\bO.ownBlock≠some g/\bL.ownBlock≠some g/\l.ownBlock≠some g)
  (h:OwnP W bw f1 f3 el lt c vs bO bL ns ms l k0 m ns.length U0 w1 w2 w3 wN wA U1 U2 U3 U4 U5 g1 k1 g2 k2 g3 k3 gN kN gA kA w') :
  OwnQ W bw f1 f3 lt c vs bO bL ns ms l m w3.heap.size g1 g2 g3 gN gA (vS gN (ns.length+4) kN) (vS gA (ns.length+4) kA) (vS g1 (k0+1) k1) (vS g2 (k0+2) k2) (vS g3 (k0+3) k3) w':=by
 obtain⟨T,hT⟩:∃T:Nat->Prop,T=fun b=>b=bw\/bO.ownBlock=some b\/bL.ownBlock=some b\/l.ownBlock=some b:=⟨_,rfl⟩
 obtain⟨T3,tX⟩:∃T3:Nat->Prop,T3=fun b=>b=bw\/bO.ownBlock=some b\/bL.ownBlock=some b:=⟨_,rfl⟩
 have tZ:∀b,T3 b->b<W.heap.size:=fun b aZ=>by
  rw[tX]at aZ
  rcases aZ with rfl|h1|h1
  ·exact hb.lt
  ·exact qal hM.row h1
  ·exact qal hM.mrow h1
 have z0:=h.kp0.size;have z1:=h.u1.size;have z2:=h.u2.size;have z3:=h.u3.size;have z4:=h.u4.size;have y1:=h.a1.keep.size;have y2:=h.a2.keep.size;have y3:=h.a3.keep.size;have yN:=h.aN.keep.size;have z5:wN.heap.size<=U5.heap.size:=by have:=h.u5.size;simpa using this
 have ML:gN<wN.heap.size:=qal h.aN.own rfl;have q1:g1<w1.heap.size:=qal h.a1.own rfl;have q2:g2<w2.heap.size:=qal h.a2.own rfl;have q3:g3<w3.heap.size:=qal h.a3.own rfl;have J2:∀g,l.ownBlock=some g->¬T3 g:=fun g hg e=>by
  rw[tX]at e
  rcases e with e|e|e
  ·exact lT (by rw[hg,e])
  ·exact mE g hg e
  ·exact mD g hg e
 have fT:∀ {T':Nat->Prop},(∀b,l.ownBlock=some b->T' b)->Keep T' W w3:=fun {T'} ht =>
  ((((((h.kp0.mono ht).trans (Keep.new h.u1)).trans (h.a1.keep.mono ht)).trans (Keep.new h.u2)).trans (h.a2.keep.mono ht)).trans (Keep.new h.u3)).trans (h.a3.keep.mono ht)
 have Kl:Keep T3 wA w':=by rw[h.end_];exact(Keep.refl _ _).setCell (p:=vA bw f3) (by rw[tX];exact Or.inl rfl) _
 have k5:Keep T3 U5 wA:=h.aA.keep.mono (fun b aZ=>by rw[tX];exact Or.inr (Or.inr aZ));have Kk:Keep T3 wN U5:=by
  have e1:Keep T3 wN (wN.setCell (vA bw f1) (vS gN (ns.length+4) kN)):=(Keep.refl _ _).setCell (p:=vA bw f1) (by rw[tX];exact Or.inl rfl) _;have e2:Keep T3 (wN.setCell (vA bw f1) (vS gN (ns.length+4) kN)) U5:=Keep.new (by have:=h.u5;simpa using this)
  exact e1.trans e2
 have k4:Keep T3 U4 wN:=h.aN.keep.mono (fun b aZ=>by rw[tX];exact Or.inr (Or.inl aZ));have tj:Keep T3 w3 w':=((((Keep.new h.u4:Keep T3 w3 U4).trans k4).trans Kk).trans k5).trans Kl;have wy:∀b,T3 b->T b:=fun b e=>by rw[tX]at e;rw[hT];rcases e with e|e|e;exact .inl e;exact .inr (.inl e);exact .inr (.inr (.inl e))
 have Be:Keep T W w':=(fT (T':=T) (fun b e=>by rw[hT];exact .inr (.inr (.inr e)))).trans (tj.mono wy);have sH:∀g,(l.ownBlock=some g\/W.heap.size<=g)->¬T3 g:=fun g hg ht=>by
  rcases hg with hg|hg
  ·exact J2 g hg ht
  ·have:=tZ g ht;omega
 have n1:l.ownBlock=some g1\/W.heap.size<=g1:=h.a1.new.imp id (fun e=>by omega);have n2:l.ownBlock=some g2\/W.heap.size<=g2:=h.a2.new.imp id (fun e=>by omega);have n3:l.ownBlock=some g3\/W.heap.size<=g3:=h.a3.new.imp id (fun e=>by omega);have pK:∀g,l.ownBlock=some g->g<w3.heap.size:=fun g hg=>qal h.a3.row hg
 have l0:qdv w3 c l m:=qhm h.a3.row (by omega);have E0:∀b j,b<w1.heap.size->w1.cell? (vA b j)=some (vI m)->w2.cell? (vA b j)=some (vI m):=fun b j hb hc=>h.a2.stay b j ((h.u2.cell (p:=vA b j) hb).trans hc)
 have GO:∀b j,b<w2.heap.size->w2.cell? (vA b j)=some (vI m)->w3.cell? (vA b j)=some (vI m):=fun b j hb hc=>h.a3.stay b j ((h.u3.cell (p:=vA b j) hb).trans hc)
 have l1:qdv w3 c (vS g1 (k0+1) k1) m:=((qhm h.a1.own (by omega)).stay (by omega) E0).stay (by omega) GO;have l2:qdv w3 c (vS g2 (k0+2) k2) m:=(qhm h.a2.own (by omega)).stay (by omega) GO;have l3:qdv w3 c (vS g3 (k0+3) k3) m:=qhm h.a3.own (by omega);have F9:gN≠bw/\bL.ownBlock≠some gN:=by
  rcases h.aN.new with e|e
  ·exact⟨fun e2=>fK (by rw[e,e2]),gL gN e⟩
  ·refine⟨fun e2=>?_,fun e2=>?_⟩
   ·have:=hb.lt;omega
   ·have:=qal hM.mrow e2;omega
 have Iy:gA≠bw:=by
  rcases h.aA.new with e|e
  ·exact fun e2=>dF (by rw[e,e2])
  ·intro e2;have:=hb.lt;omega
 have an:=hM.len
 refine⟨by rw[<-hT];exact Be,⟨?_,?_,?_,?_⟩,?_,by omega,⟨rfl,by omega,n1⟩,⟨rfl,by omega,n2⟩,⟨rfl,by omega,n3⟩,⟨rfl,?_⟩,⟨rfl,?_⟩⟩
 ·-- the row of lists
  rw[show(ns++[l,(vS g1 (k0+1) k1:Value),vS g2 (k0+2) k2,vS g3 (k0+3) k3]).length=ns.length+4 by simp];have kk:Keep (fun b=>b=bw\/bL.ownBlock=some b) wN w':=by
   have e1:Keep (fun b=>b=bw\/bL.ownBlock=some b) wN (wN.setCell (vA bw f1) (vS gN (ns.length+4) kN)):=(Keep.refl _ _).setCell (p:=vA bw f1) (Or.inl rfl) _;have e2:Keep (fun b=>b=bw\/bL.ownBlock=some b) (wN.setCell (vA bw f1) (vS gN (ns.length+4) kN)) U5:=Keep.new (by have:=h.u5;simpa using this);have e3:Keep (fun b=>b=bw\/bL.ownBlock=some b) U5 wA:=h.aA.keep.mono (fun b aZ=>Or.inr aZ);have e4:Keep (fun b=>b=bw\/bL.ownBlock=some b) wA w':=by rw[h.end_];exact(Keep.refl _ _).setCell (p:=vA bw f3) (Or.inl rfl) _
   exact((e1.trans e2).trans e3).trans e4
  exact qab h.aN.own kk (fun g hg=>by simp[Value.ownBlock]at hg;subst hg;rintro(e|e);exact F9.1 e;exact F9.2 e)
 ·rw[show(ms++[m,m,m,m]).length=ns.length+4 by simp[an]];rw[show ints (ms++[m,m,m,m])=ints ms++[vI m,vI m,vI m,vI m] by simp[ints]];have e4:Keep (fun b=>b=bw) wA w':=by rw[h.end_];exact(Keep.refl (fun b=>b=bw) _).setCell (p:=vA bw f3) rfl _
  exact qab h.aA.own e4 (fun g hg=>by simp[Value.ownBlock]at hg;subst hg;exact Iy)
 ·simp[an]
 ·intro i v m' hv iO
  rcases Nat.lt_or_ge i ns.length with hi|hi
  ·rw[xrp hi]at hv;rw[xrp (by omega)]at iO
   exact(hM.ok i v m' hv iO).keep Be (fun g hg=>by
    obtain⟨a1,a2,a3,a4⟩:=hL v (xr2 hv) g hg;rw[hT];rintro(e|e|e|e)
    ·exact a1 e
    ·exact a2 e
    ·exact a3 e
    ·exact a4 e)
  ·rw[xro hi]at hv;rw[xro (by omega)]at iO;rw[<-an]at iO;generalize i-ns.length=q at hv iO
   match q,hv,iO with
   |0,hv,iO=>simp at hv iO;subst hv iO;exact l0.keep tj (fun g hg=>sH g (.inl hg))
   |1,hv,iO=>simp at hv iO;subst hv iO;exact l1.keep tj (fun g hg=>by simp[Value.ownBlock]at hg;subst hg;exact sH _ n1)
   |2,hv,iO=>simp at hv iO;subst hv iO;exact l2.keep tj (fun g hg=>by simp[Value.ownBlock]at hg;subst hg;exact sH _ n2)
   |3,hv,iO=>simp at hv iO;subst hv iO;exact l3.keep tj (fun g hg=>by simp[Value.ownBlock]at hg;subst hg;exact sH _ n3)
   |q+4,hv,iO=>simp at hv
 ·-- the block
  have e0:Blk wN bw 84 vs:=by
   have kk:Keep (fun b=>l.ownBlock=some b\/bO.ownBlock=some b) W wN:=((fT (fun b e=>.inl e)).trans (Keep.new h.u4)).trans (h.aN.keep.mono (fun b e=>.inr e))
   exact hb.keep kk (fun e=>by rcases e with e|e;exact lT e;exact fK e)
  have e1:=e0.set f1 (vS gN (ns.length+4) kN);have e2:Blk U5 bw 84 _:=e1.keep (T:=fun _=>False) (Keep.new (by have:=h.u5;simpa using this)) (fun h=>h);have e3:=e2.keep h.aA.keep dF;rw[h.end_]
  exact e3.set f3 _
 ·rcases h.aN.new with e|e
  ·exact .inl e
  ·exact .inr (by omega)
 ·rcases h.aA.new with e|e
  ·exact .inl e
  ·exact .inr ⟨by omega,by omega⟩
theorem qir(hb:Blk W bw 84 #[cd,bO,cC,bL,cy])(hN:W.ownsRow 0 48 1 cC ns.length ns)(hA:W.ownsRow 0 3 1 cy ns.length (ints ms))
  (hl:ns.length<=1000000000) (fK:cC.ownBlock≠some bw) (dF:cy.ownBlock≠some bw) (gL:∀g,cC.ownBlock=some g->cy.ownBlock≠some g)
  (hL:W.ownsRow 0 60 2 (.slice al k0 cl) k0 xs) (eE:k0<=990) (lT:(Value.slice al k0 cl).ownBlock≠some bw) (mE:∀g,(Value.slice al k0 cl).ownBlock=some g->cC.ownBlock≠some g) (mD:∀g,(Value.slice al k0 cl).ownBlock=some g->cy.ownBlock≠some g) :
  Cl 111 #[vP bw,.slice al k0 cl] W fun e w'=>e=.returned (.tuple #[])/\∃U0 w1 w2 w3 wN wA U1 U2 U3 U4 U5 g1 k1 g2 k2 g3 k3 gN kN gA kA,
   OwnP W bw 2 4 60 48 2 #[cd,bO,cC,bL,cy] cC cy ns ms (.slice al k0 cl) k0 (-1-(ns.length:Int)) ns.length U0 w1 w2 w3 wN wA U1 U2 U3 U4 U5 g1 k1 g2 k2 g3 k3 gN kN gA kA w':=by
 obtain⟨aA,cA,rfl,a1,a2,_⟩:=qdr hA;obtain⟨aN,cN,rfl,n1,n2,_⟩:=qdr hN;obtain⟨n,hn⟩:∃n,n=ns.length:=⟨_,rfl⟩;rw[<-hn]at hb hN hA hl a1 n1 fK dF gL mE mD ⊢;have c1:=hb.cell 2;have c3:=hb.cell 4;simp only[xq0,xq1,xq2]at c1 c3;have ak:=hb.lt;have yW:k0<=cl/\cl<=maxLen:=by
  rcases hL.2 with ⟨h,h0⟩|⟨g,cap,aD,h,_,_,h2,h3,_⟩
  ·cases h;exact⟨Nat.le_refl _,Nat.zero_le _⟩
  ·cases h;exact⟨h2,h3⟩
 obtain⟨yW,wH⟩:=yW;have HA:=fun W' (h:W'.ownsRow 0 3 1 (.slice aA n cA) n (ints ms)) nb (cU:Blk W' nb 3 #[vI (-1-(n:Int)),vI (-1-(n:Int)),vI (-1-(n:Int)),vI (-1-(n:Int))]) =>
  qby un29 inf3 (by omega) W' _ n (ints ms) h nb 4 4 (by omega) [vI (-1-(n:Int)),vI (-1-(n:Int)),vI (-1-(n:Int)),vI (-1-(n:Int))] rfl cU (by intro u hu;simp at hu;subst hu;rfl) (by unfold maxLen;omega) (by omega)
 have H1:=fun W' (h:W'.ownsRow 0 60 2 (.slice al k0 cl) k0 (List.replicate (k0*2) (vI (-1-(n:Int))))) nb (cU:Blk W' nb 60 #[vI (-1-(n:Int)),vI (-1-(n:Int))]) =>
  qfi un46 qm7 (by omega) W' (.slice al k0 cl) k0 (-1-(n:Int)) h nb 1 1 (by omega) (by simpa using cU) (by unfold maxLen;omega) (by omega)
 have H2:=fun W' (h:W'.ownsRow 0 60 2 (.slice al k0 cl) k0 (List.replicate (k0*2) (vI (-1-(n:Int))))) nb (cU:Blk W' nb 60 #[vI (-1-(n:Int)),vI (-1-(n:Int)),vI (-1-(n:Int)),vI (-1-(n:Int))]) =>
  qfi un46 qm7 (by omega) W' (.slice al k0 cl) k0 (-1-(n:Int)) h nb 2 2 (by omega) (by simpa using cU) (by unfold maxLen;omega) (by omega)
 have H3:=fun W' (h:W'.ownsRow 0 60 2 (.slice al k0 cl) k0 (List.replicate (k0*2) (vI (-1-(n:Int))))) nb (cU:Blk W' nb 60 #[vI (-1-(n:Int)),vI (-1-(n:Int)),vI (-1-(n:Int)),vI (-1-(n:Int)),vI (-1-(n:Int)),vI (-1-(n:Int))]) =>
  qfi un46 qm7 (by omega) W' (.slice al k0 cl) k0 (-1-(n:Int)) h nb 3 3 (by omega) (by simpa using cU) (by unfold maxLen;omega) (by omega)
 have tz:=fun W' (h:W'.ownsRow 0 48 1 (.slice aN n cN) n ns) nb (g1 k1 g2 k2 g3 k3:Nat) (cU:Blk W' nb 48 #[.slice al k0 cl,vS g1 (k0+1) k1,vS g2 (k0+2) k2,vS g3 (k0+3) k3]) =>
  qby un28 qxd (by omega) W' _ n ns h nb 4 4 (by omega) [.slice al k0 cl,vS g1 (k0+1) k1,vS g2 (k0+2) k2,vS g3 (k0+3) k3] rfl cU (by intro u hu;simp at hu;rcases hu with rfl|rfl|rfl|rfl<;>rfl) (by unfold maxLen;omega) (by omega)
 clear hn;have oE:Hid (xs.length=k0*2):=hL.1;have b0:Blk (W.alloc (.cells #[vI (-1-(n:Int)),vI (-1-(n:Int))] 60)) W.heap.size 60 #[vI (-1-(n:Int)),vI (-1-(n:Int))]:=Blk.new W 60 _
 go_enter func111,ntmps111
 go_wp2
 go_loopw [6] (fun i wr=>∃k:Nat,k<=k0/\i=vI k/\wr.ownsRow 0 60 2 (.slice al k0 cl) k0 (List.replicate (k*2) (vI (-1-(n:Int)))++xs.drop (k*2))/\Keep (fun b=>(Value.slice al k0 cl).ownBlock=some b) W wr/\Blk wr W.heap.size 60 #[vI (-1-(n:Int)),vI (-1-(n:Int))]) (fun i _=>k0-(intOf i).toNat)
 case atStart=>exact⟨0,Nat.zero_le _,rfl,by simpa using hL.alloc _,(Keep.refl _ _).alloc _,b0⟩
 case round =>
  obtain⟨k,hk,rfl,au,fT,bx⟩:=hrel;have x0:=bx.cell 0;have x1:=bx.cell 1;have xl:=bx.lt;simp only[xq0,xq1,xq2]at x0 x1
  by_cases ej:k<k0
  ·obtain⟨gl,Hy,ee,_⟩:=qat hL (by omega)
   cases ee
   have MR:gl<W.heap.size:=qal hL rfl;have FU:=au.frozenAt (k*2);have Jl:=au.frozenAt (k*2+1);have aY:=au.cellAt (k*2) (by omega);have CR:=au.cellAt (k*2+1) (by omega);have J4:gl<wr.heap.size:=qal au rfl;obtain⟨s1,t1⟩:=au.stored (k*2) (vI (-1-(n:Int)));obtain⟨s2,t2⟩:=s1.stored (k*2+1) (vI (-1-(n:Int)));rw[qki oE.out (by omega)]at s2;rw[qki oE.out (by omega)]at s2;have rM:=(fT.grown t1 (fun b hb=>by simp[Value.ownBlock]at hb ⊢;exact hb)).grown t2 (fun b hb=>by simp[Value.ownBlock]at hb ⊢;exact hb);have ef:=(bx.other (vA gl (k*2)) (vI (-1-(n:Int))) (by simp;omega)).other (vA gl (k*2+1)) (vI (-1-(n:Int))) (by simp;omega);obtain⟨u,hu⟩:∃u,(List.replicate (k*2) (vI (-1-(n:Int)))++xs.drop (k*2))[k*2]?=some u:=⟨_,xr1 (by have:=oE.out;simp;omega)⟩;obtain⟨u1,AY⟩:∃u,(List.replicate (k*2) (vI (-1-(n:Int)))++xs.drop (k*2))[k*2+1]?=some u:=⟨_,xr1 (by have:=oE.out;simp;omega)⟩;rw[hu]at aY;rw[AY]at CR;have HF:Hid (∃k':Nat,k'<=k0/\(vI ((k:Int)+1))=vI k'/\World.ownsRow ((wr.setCell (vA gl (k*2)) (vI (-1-(n:Int)))).setCell (vA gl (k*2+1)) (vI (-1-(n:Int)))) 0 60 2 (vS gl k0 cl) k0 (List.replicate (k'*2) (vI (-1-(n:Int)))++xs.drop (k'*2))/\Keep (fun b=>(vS gl k0 cl).ownBlock=some b) W ((wr.setCell (vA gl (k*2)) (vI (-1-(n:Int)))).setCell (vA gl (k*2+1)) (vI (-1-(n:Int))))/\Blk ((wr.setCell (vA gl (k*2)) (vI (-1-(n:Int)))).setCell (vA gl (k*2+1)) (vI (-1-(n:Int)))) W.heap.size 60 #[vI (-1-(n:Int)),vI (-1-(n:Int))]):=⟨k+1,by omega,by simp,by rw[show(k+1)*2=k*2+1+1 by omega];exact s2,rM,ef⟩
   clear au s1 s2 t1 t2 fT rM bx ef H1 H2 H3 HA tz
   go_wp2
   exact⟨HF.out,by simp[intOf];omega⟩
  ·obtain rfl:k=k0:=by omega
   rw[List.drop_of_length_le (by have:=oE.out;omega),List.append_nil]at au;have cx:=hb.keep fT lT;have Ct:=qab hN fT (fun g hg e=>mE g e hg);have tK:=qab hA fT (fun g hg e=>mD g e hg);have xv:=cx.cell 2;have xw:=cx.cell 4;have jt:=cx.lt;simp only[xq0,xq1,xq2]at xv xw;clear c1 c3 ak;have Br:Hid (Keep (fun b=>(Value.slice al k cl).ownBlock=some b) W wr):=fT;have qm:Hid (wr.ownsRow 0 60 2 (.slice al k cl) k (List.replicate (k*2) (vI (-1-(n:Int))))):=au;have Kd:=fT.size;have Eh:(Value.slice al k cl).ownBlock≠some W.heap.size:=fun e=>by have:=qal hL e;omega
   clear fT hN hA hL hb oE
   go_wp2_with (first
    |(at_builtin;refine qah (by rfl) _ _ 48 48 (by rfl) _ _ (by rfl) (by rfl) (H1 _ ?_ _ ?_) ?_;(focus (exact qab (T:=fun _=>False) au (Keep.new (by exact bel2)) (fun _ _ h=>h)));(focus exact blk2);rintro v1 w1 ⟨g1,k1,rfl,R1⟩;have aj:Keep (fun b=>(Value.slice al k cl).ownBlock=some b) wr w1:=(Keep.new (by exact bel2)).trans R1.keep;have d1:=bx.keep aj Eh;have Ig:=d1.cell 0;have Ih:=d1.cell 1;have My:=d1.lt;simp only[xq0,xq1,xq2]at Ig Ih)
    |(at_builtin;refine qah (by rfl) _ _ 48 48 (by rfl) _ _ (by rfl) (by rfl) (H2 _ ?_ _ ?_) ?_;(focus (exact qab (T:=fun _=>False) R1.row (Keep.new (by exact bel2)) (fun _ _ h=>h)));(focus exact blk2);rintro v2 w2 ⟨g2,k2,rfl,R2⟩;have aw:Keep (fun b=>(Value.slice al k cl).ownBlock=some b) wr w2:=(aj.alloc _).trans R2.keep;have d2:=bx.keep aw Eh;have Ii:=d2.cell 0;have Ij:=d2.cell 1;have Mz:=d2.lt;simp only[xq0,xq1,xq2]at Ii Ij)
    |(at_builtin;refine qah (by rfl) _ _ 48 48 (by rfl) _ _ (by rfl) (by rfl) (H3 _ ?_ _ ?_) ?_;(focus (exact qab (T:=fun _=>False) R2.row (Keep.new (by exact bel2)) (fun _ _ h=>h)));(focus exact blk2);rintro v3 w3 ⟨g3,k3,rfl,R3⟩;have aK:Keep (fun b=>(Value.slice al k cl).ownBlock=some b) wr w3:=(aw.alloc _).trans R3.keep;have b3:=cx.keep aK lT;have xx:=b3.cell 2;have pK:=b3.lt;simp only[xq0,xq1,xq2]at xx;have xU:=qab Ct aK (fun g hg e=>mE g e hg);have sy:=qab tK aK (fun g hg e=>mD g e hg))
    |(at_builtin;refine qah (by rfl) _ _ 81 81 (by rfl) _ _ (by rfl) (by rfl) (tz _ ?_ _ g1 k1 g2 k2 g3 k3 ?_) ?_;(focus (exact qab (T:=fun _=>False) xU (Keep.new (by exact bel2)) (fun _ _ h=>h)));(focus exact blk2);rintro vN wN ⟨gN,kN,rfl,RN⟩;have bN:=(b3.alloc _).keep RN.keep fK;have xz:=bN.cell 2;have Ca:=bN.frozen 2;have x9:=bN.cell 4;have Cb:=bN.frozen 4;have Dw:=bN.lt;simp only[xq0,xq1,xq2]at xz x9))
   have bS:=bN.set 2 (vS gN (n+4) kN);simp only[xr6,xr8,xr7]at bS;have xI:(wN.setCell (vA bw 2) (vS gN (n+4) kN)).ownsRow 0 3 1 (.slice aA n cA) n (ints ms):=by
    refine qab (T:=fun b=>b=bw\/(Value.slice aN n cN).ownBlock=some b) sy ?_ ?_
    ·exact((Keep.trans (T:=fun b=>b=bw\/(Value.slice aN n cN).ownBlock=some b) (Keep.alloc (Keep.refl _ _) _) (RN.keep.mono (fun b hb=>Or.inr hb))).setCell (p:=vA bw 2) (Or.inl rfl) _)
    ·rintro g hg (rfl|h)
     ·exact dF hg
     ·exact gL g h hg
   obtain⟨WS,rj⟩:∃WS,WS=wN.setCell (vA bw 2) (vS gN (n+4) kN):=⟨_,rfl⟩;have dk:WS.heap.size=wN.heap.size:=by rw[rj];simp
   rw[<-rj]at bS xI ⊢;have HS:Hid (WS=wN.setCell (vA bw 2) (vS gN (n+4) kN)):=rj;have BB:Hid (WS.heap.size=wN.heap.size):=dk;clear rj dk xz x9 Ca Cb H1 H2 H3 tz xv xw xx;have BU:=bS.cell 4;have Dx:=bS.lt;simp only[xq0,xq1,xq2]at BU
   go_region_law (refine qau rfl (.tmp 63) (.tmp 68) 25 25 rfl _ _ ?_ ?_ (HA _ ?_ ?_ ?_) ?_;(focus (simp[Act.eval,Act.put]));(focus ((try simp[Act.eval,Act.put]);(try rfl)));(focus (exact qab (T:=fun _=>False) xI (Keep.new (by exact bel2)) (fun _ _ h=>h)));(focus exact blk2);rintro vA wA ⟨gA,kA,rfl,RA⟩;have bA:=Blk.keep (show Blk _ bw 84 #[cd,bO,vS gN (n+4) kN,bL,.slice aA n cA] by exact blk2) RA.keep dF;have xy:=bA.cell 4;have Fp:=bA.frozen 4;simp only[xq0,xq1,xq2]at xy)
   all_goals go_wp2
   all_goals go_end0
   all_goals refine⟨rfl,wr,w1,w2,w3,wN,wA,_,_,_,_,_,g1,k1,g2,k2,g3,k3,gN,kN,gA,kA,⟨Br.out,qm.out,?_,R1,?_,R2,?_,R3,?_,RN,?_,RA,rfl⟩⟩
   all_goals first|(rw[<-HS.out,<- BB.out];exact bel2;done)|(exact bel2;done)
def errP (l:List Bs)(first:Bs):Int:=if (l.all qar)=false then 1 else if first=[] then 2 else 0
theorem i9a:(prog.info? 9).map (fun i=>(i.size,i.bytes))=some (1,16):=by kernel_rfl
theorem i9b:(prog.info? 9).bind (fun i=>i.zero)=some (.string ⟨#[]⟩):=by kernel_rfl
theorem inf9:qdf 9 1 16:=qep i9a i9b rfl
theorem qw8:prog.underlying 46=some (.slice 9):=by kernel_rfl
theorem qhf(first:ByteArray)(v:Value)(l:List ByteArray)(dk:∀s∈l,s.size<=2000000)(hl:l.length<=100)(w:World)
  (cu:∃v' w',(∀ty,(Builtin.append_ #[46,46] ty #[v,vS w.heap.size 1 1]).run prog (w.alloc (.cells #[.string first] 9))=.ok v' w')/\∃g cap,v'=vS g l.length cap/\l.length<=cap/\cap<=maxLen/\g<w'.heap.size/\Bw w w'/\∀(k:Nat) s,l[k]?=some s->w'.cell? (vA g k)=some (.string s)) :
  Cl 132 #[.string first,v] w fun e w'=>e=.returned (vI (errP (l.map bl) (bl first)))/\Bw w w':=by
 have aJ:=fun s (hs:s∈l) W=>qh2 s (dk s hs) W
 obtain⟨n,hn⟩:∃n,n=l.length:=⟨_,rfl⟩;rw[<-hn]at cu hl;have HN:Hid (n=l.length):=hn;clear hn
 go_enter func132,ntmps132
 go_wp2_with (at_builtin;refine qah (by rfl) _ _ _ _ rfl _ _ rfl (by rfl) cu ?_;rintro v1 w1 ⟨g1,q1,rfl,gO,ie,lR,aj,aY⟩)
 clear cu
 go_loopw [12] (fun i wr=>∃k:Nat,k<=n/\i=vI k/\((l.map bl).take k).all qar=true/\Bw w1 wr) (fun i _=>n-(intOf i).toNat)
 case atStart=>exact⟨0,Nat.zero_le _,rfl,rfl,Below.refl _ _⟩
 case round =>
  obtain⟨k,hk,rfl,a8,ae⟩:=hrel;have HA:Hid (((l.map bl).take k).all qar=true):=a8;clear a8
  by_cases ak:k<n
  ·have aV:k<l.length:=by rw[<-HN.out];exact ak
   obtain⟨s,hs⟩:∃s,l[k]?=some s:=⟨_,xr1 aV⟩;have hc:=(ae.cell (p:=vA g1 k) lR).trans (aY k s hs);have hv:=aJ s (xr2 hs);have HT:Hid ((l.map bl).take (k+1)=(l.map bl).take k++[bl s]):=by
    show _=_
    rw[xrf (by simpa using aV)];rw[xr1 aV]at hs;cases hs;simp
   have HM:Hid (bl s∈l.map bl):=xrq.2 ⟨s,xr2 hs,rfl⟩;clear hs aY aJ;have nr:(k:Int)<n:=by omega
   have f_:(0:Int)<=k:=by omega
   cases ed:qar (bl s)
   ·rw[ed]at hv
    go_wp2_with (go_at_call 62;refine(hv _).mono ?_;rintro e w2 ⟨rfl,af⟩)
    go_ret
    have h1:errP (l.map bl) (bl first)=1:=by
     unfold errP
     exact if_pos (List.all_eq_false.2 ⟨_,HM.out,by simp[ed]⟩)
    exact⟨by rw[h1];rfl,qac (qac aj ae) af⟩
   ·rw[ed]at hv
    go_wp2_with (go_at_call 62;refine(hv _).mono ?_;rintro e w2 ⟨rfl,af⟩)
    refine⟨⟨k+1,by omega,by go_num,?_,qac ae af⟩,by simp[intOf];omega⟩
    rw[HT.out,List.all_append,HA.out]
    simp[ed]
  ·have a8:(l.map bl).all qar=true:=by
    have:=HA.out
    rwa[xrd (by simp;have:=HN.out;omega)]at this
   have HF:Hid (errP (l.map bl) (bl first)=if bl first=[] then 2 else 0):=by
    show _=_
    unfold errP;rw[a8];simp
   clear a8 HA aY aJ
   by_cases h0:bl first=[]
   ·have hz:first=⟨#[]⟩:=qer (h0.trans qh4.symm);have h1:errP (l.map bl) (bl first)=2:=by rw[HF.out,if_pos h0]
    subst hz;have H1:Hid (errP (l.map bl) (bl ⟨#[]⟩)=2):=h1;clear h1 HF h0
    go_wp2
    go_ret
    exact⟨by rw[H1.out];rfl,qac aj ae⟩
   ·have hq:(first.toList.isEmpty)=false:=by rw[qaz];simpa using h0
    have h1:errP (l.map bl) (bl first)=0:=by rw[HF.out,if_neg h0]
    have H1:Hid (errP (l.map bl) (bl first)=0):=h1;clear h1 HF h0
    go_wp2
    go_ret
    exact⟨by rw[H1.out];rfl,qac aj ae⟩
theorem qhr(first:ByteArray)(hs:first.size<=2000000)(w:World):Cl 132 #[.string first,v0_] w fun e w'=>e=.returned (vI (errP [bl first] (bl first)))/\Bw w w':=by
 refine qhf first v0_ [first] (fun s h=>by simp at h;subst h;exact hs) (by simp) w ?_
 have hb:Blk (w.alloc (.cells #[.string first] 9)) w.heap.size 9 #[.string first]:=Blk.new w 9 _;obtain⟨v',w',hr,g,cap,rfl,R⟩:=qby qw8 inf9 (by omega) (w.alloc (.cells #[.string first] 9)) v0_ 0 [] (xrk _ _ _ _) w.heap.size 1 1 (by omega) [.string first] rfl hb (fun u hu=>by simp at hu;subst hu;rfl) (by unfold maxLen;omega) (by omega)
 refine⟨_,w',hr,g,cap,rfl,R.le,R.mx,qal R.own rfl,?_,fun k s hk=>?_⟩
 ·have hk:=R.keep
  exact(((Below.refl _ _).alloc (Nat.le_refl _) _:Bw w (w.alloc (.cells #[.string first] 9)))).trans ⟨hk.os,hk.tape,hk.output,hk.size,fun k c_=>hk.block k (by simp;omega) (by simp[Value.ownBlock])⟩
 ·have:=R.own.cells (g:=g) rfl k (.string s) (by
   cases k with
   |zero=>simp at hk;subst hk;rfl
   |succ k=>simp at hk)
  rwa[Addr.add_lit,Nat.zero_add]at this
theorem qs3(s:Bs):errP [s] s=if qar s=false then 1 else if s=[] then 2 else 0:=by
 unfold errP;simp
theorem qu1(a:Addr)(w:World):(binOp .neq 97 (.pointer (some a)) (.pointer none)).run prog w=.ok (.bool true) w:=by
 kernel_rfl
theorem qj7(T:Tree nodes)(w:World)(hN:∀n∈nodes,qan w n)(hr:r∈nodes)(bK:r.key=[])(bt:Nat)(ht:w.cell? (vA bt 0)=some (nptr r.blk))
  (s:ByteArray) (hs:s.size<=2000000) (vb c:Nat) (l:List (Int×Int)) (hl:l.length<=100) (hb:vb<w.heap.size)
  (hc:∀(j:Nat) (x:Int×Int),l[j]?=some x->w.cell? (vA vb (j*2))=some (vI x.1)/\w.cell? (vA vb (j*2+1))=some (vI x.2)) :
  Cl 80 #[vP bt,.string s,vS vb l.length c] w fun e w'=>e=.returned (vI (qbc nodes (bl s) (qb3 l)))/\Bw w w':=by
 have aJ:=fun W=>qhr s hs W
 rw[qs3]at aJ;have ee:=fun W (hW:Bw w W)=>qi1 vb c l hl W (by have:=hW.size;omega) (fun j x hx=>⟨(hW.cell (p:=vA vb (j*2)) hb).trans (hc j x hx).1,(hW.cell (p:=vA vb (j*2+1)) hb).trans (hc j x hx).2⟩)
 have iH:=fun W=>qq5 s W hs
 have dx:=xrb w _ ht;have cI:=fun W (hW:Bw w W)=>(hW.cell (p:=vA bt 0) dx).trans ht
 have oj:=fun W (hW:Bw w W) n hn=>(hN n hn).below hW
 have ag:=fun W (hW:Bw w W) v hv=>qfh T hr bK s hs W (oj W hW) v hv
 unfold nptr at ag cI;unfold qbc;clear hc;obtain⟨L,hL⟩:∃L,L=l.length:=⟨_,rfl⟩;rw[<-hL]at ee ⊢;clear hL
 cases hv:qar (bl s)
 ·rw[hv]at aJ;simp only[if_true]at aJ ⊢
  go_enter func80,ntmps80
  go_wp2_with (go_at_call 132;refine(aJ _).mono ?_;rintro e w1 ⟨rfl,aa⟩)
  go_ret
  exact⟨rfl,aa⟩
 rw[hv]at aJ;simp only[Bool.true_eq_false,if_false]at aJ ⊢
 by_cases h0:bl s=[]
 ·have hz:s=⟨#[]⟩:=qer (h0.trans qh4.symm);simp only[h0,if_true]at aJ ⊢;subst hz
  go_enter func80,ntmps80
  go_wp2_with (go_at_call 132;refine(aJ _).mono ?_;rintro e w1 ⟨rfl,aa⟩)
  go_ret
  exact⟨rfl,aa⟩
 simp only[h0,if_false]at aJ ⊢
 cases p6:qb3 l
 ·rw[p6]at ee;simp only[if_true]
  go_enter func80,ntmps80
  go_wp2_with (first|(go_at_call 132;refine(aJ _).mono ?_;rintro e w1 ⟨rfl,aa⟩)|(go_at_call 133;refine(ee w1 aa).mono ?_;rintro e w2 ⟨rfl,af⟩))
  go_ret
  exact⟨rfl,qac aa af⟩
 rw[p6]at ee;simp only[Bool.true_eq_false,if_false]
 by_cases hd:4<qdm (bl s)
 ·simp only[hd,if_true]
  go_enter func80,ntmps80
  go_wp2_with (first|(go_at_call 132;refine(aJ _).mono ?_;rintro e w1 ⟨rfl,aa⟩)|(go_at_call 133;refine(ee w1 aa).mono ?_;rintro e w2 ⟨rfl,af⟩)|(go_at_call 134;refine(iH _).mono ?_;rintro e w3 ⟨rfl,ig⟩;subst ig))
  go_ret
  exact⟨rfl,qac aa af⟩
 simp only[hd,if_false];have jv:=fun W=>qih s hs hv h0 W
 cases sO:findKey nodes (qaa (bl s)) with
 |some n =>
  simp only[Option.isSome_some,if_true];rw[sO]at ag;simp only[nptr]at ag;clear sO;have ia:=qu1
  go_enter func80,ntmps80
  go_wp2_with (first|(go_at_call 132;refine(aJ _).mono ?_;rintro e w1 ⟨rfl,aa⟩)|(go_at_call 133;refine(ee w1 aa).mono ?_;rintro e w2 ⟨rfl,af⟩;have aw:Bw w w2:=qac aa af;have AW:=cI w2 aw)|(go_at_call 134;refine(iH _).mono ?_;rintro e w3 ⟨rfl,ig⟩;subst ig)|(go_at_call 63;refine(ag _ aw (vP n.blk) rfl).mono ?_;rintro e w4 ⟨rfl,a_⟩))
  go_ret
  exact⟨rfl,qac aw a_⟩
 |none =>
  simp only[Option.isSome_none,Bool.false_eq_true,if_false];rw[sO]at ag;clear sO;have Gj:=fun W (hW:Bw w W) k=>qmi T W (oj W hW) hr bK bt ((hW.cell (p:=vA bt 0) dx).trans ht) k
  have fJ:=fun W (hW:Bw w W) (a:ByteArray) (ha:a.size<=2000000)=>qfh T hr bK a ha W (oj W hW) _ rfl
  unfold nptr at fJ
  go_enter func80,ntmps80
  go_wp2_with (first|(go_at_call 132;refine(aJ _).mono ?_;clear aJ;rintro e w1 ⟨rfl,aa⟩)|(go_at_call 133;refine(ee w1 aa).mono ?_;clear ee;rintro e w2 ⟨rfl,af⟩;have aw:Bw w w2:=qac aa af;have AW:=cI w2 aw)|(go_at_call 134;refine(iH _).mono ?_;clear iH;rintro e w3 ⟨rfl,ig⟩;subst ig)|(go_at_call 63;refine(ag _ aw (.pointer none) rfl).mono ?_;clear ag;rintro e w4 ⟨rfl,a_⟩)|(go_at_call 81;refine(jv _).mono ?_;rintro e w5 ⟨⟨sa,wZ,rfl,fl,JL⟩,aG⟩;have eM:Bw w w5:=qac (qac aw a_) aG;have MZ:=cI w5 eM))
  refine(fJ w5 eM sa (by omega)).mono ?_
  rintro e w6 ⟨rfl,gW⟩
  have j7:Bw w w6:=qac eM gW;have vm:=Gj w6 j7 (qaa (bl sa));unfold nptr at vm;clear Gj fJ jv cI;generalize (match findKey nodes (qaa (bl sa)) with|none=>Value.pointer none|some p=>vP p.blk)=vq at vm ⊢
  go_wp2_with (go_at_call 135;refine vm.mono ?_;rintro e w7 ⟨rfl,qx⟩)
  all_goals go_ret
  all_goals exact⟨qgn (by rw[fl,List.dropLast_concat]),qac j7 qx⟩
theorem qic{s:Bs}(h:qbc nodes s ok=0):
  qar s=true/\s≠[]/\ok=true/\qdm s<=4/\findKey nodes (qaa s)=none/\∃p,findKey nodes (qaa s).dropLast=some p/\p.leaf=false/\nodes.length<20:=by
 unfold qbc at h
 cases hv:qar s
 ·simp[hv]at h
 by_cases h0:s=[]
 ·rw[hv]at h;simp[h0]at h
 cases ec:ok
 ·simp[hv,h0,ec]at h
 by_cases hd:4<qdm s
 ·simp[hv,h0,ec,hd]at h
 cases hf:findKey nodes (qaa s) with
 |some n=>simp[hv,h0,ec,hd,hf]at h
 |none =>
  simp[hv,h0,ec,hd,hf]at h
  unfold errIn at h
  cases hp:findKey nodes (qaa s).dropLast with
  |none=>simp[hp]at h
  |some p =>
   simp only[hp]at h
   cases hl:p.leaf
   ·by_cases lP:20<=nodes.length
    ·simp[hl,lP]at h
    ·exact⟨rfl,h0,rfl,by omega,rfl,p,rfl,hl,by omega⟩
   ·simp[hl]at h
structure qkx (nodes:List Node) (q:Nat) (s:Bs) (leaf:Bool) (a b c d:Int) (w w':World):Prop where
 ex:∃p nm ks at_ sl,p∈nodes/\p.leaf=false/\qaa s=p.key++[nm]/\nodes.length<20/\(∀n∈nodes,n.key≠qaa s)/\qf7 nodes p q nm leaf a b c d w w' ks at_ sl
theorem qf7.from{p:Node}{q:Nat}{b c:Int}{at_:Nat}(h:qf7 nodes p q nm leaf a b c d w1 w' ks at_ sl)(hb:Bw w w1):qf7 nodes p q nm leaf a b c d w w' ks at_ sl :=
 ⟨h.kids,h.mem,h.sort,h.found,h.par,h.new,(Keep.new hb).trans h.keep,h.own.imp id (fun ⟨g,h1,h2⟩=>⟨g,h1,Nat.le_trans hb.size h2⟩)⟩
def qwy (nodes:List Node)(q:Nat)(s:Bs)(ok:Bool)(leaf:Bool)(a b c d:Int)(w:World)(e:Ending)(w':World):Prop :=
 (qbc nodes s ok≠0/\e=.returned (vI (qbc nodes s ok))/\Bw w w')\/(qbc nodes s ok=0/\e=.returned (vI 0)/\qkx nodes q s leaf a b c d w w')
theorem qtu(T:Tree nodes)(w:World)(hN:∀n∈nodes,qan w n)(hr:r∈nodes)(bK:r.key=[])(bt:Nat)(ht:w.cell? (vA bt 0)=some (nptr r.blk))
  (s:ByteArray) (hs:s.size<=2000000) (vb cp:Nat) (l:List (Int×Int)) (hl:l.length<=100) (hb:vb<w.heap.size)
  (hc:∀(j:Nat) (x:Int×Int),l[j]?=some x->w.cell? (vA vb (j*2))=some (vI x.1)/\w.cell? (vA vb (j*2+1))=some (vI x.2))
  (q:Nat) (leaf:Bool) (a b c d:Int) (hq:Blk w q 136 #[.string ⟨#[]⟩,.bool leaf,vI a,vI b,vI c,vI d,.pointer none,v0_])
  (p_:∀n∈nodes,q≠n.blk/\n.sl.ownBlock≠some q/\n.sl.ownBlock≠some n.blk) :
  Cl 52 #[vP bt,.string s,nptr q,vS vb l.length cp] w (qwy nodes q (bl s) (qb3 l) leaf a b c d w):=by
 have rS:=qj7 T w hN hr bK bt ht s hs vb cp l hl hb hc;clear hc;obtain⟨L,hL⟩:∃L,L=l.length:=⟨_,rfl⟩;rw[<-hL]at rS ⊢;clear hL;generalize ec:qb3 l=ok at rS ⊢
 by_cases he:qbc nodes (bl s) ok=0
 ·obtain⟨hv,h0,JB,hd,hf,p,hp,fN,lP⟩:=qic he;have HE:Hid (qbc nodes (bl s) ok=0):=he;rw[he]at rS;clear he;obtain⟨ic,fU⟩:=qbw hp;have jv:=fun W=>qih s hs hv h0 W
  have dx:=xrb w _ ht;have cI:=fun W (hW:Bw w W)=>(hW.cell (p:=vA bt 0) dx).trans ht
  unfold nptr at cI;have oj:=fun W (hW:Bw w W) n hn=>(hN n hn).below hW
  have fJ:=fun W (hW:Bw w W) (sa:ByteArray) (ha:sa.size<=2000000) (hk:qaa (bl sa)=(qaa (bl s)).dropLast)=>qfh T hr bK sa ha W (oj W hW) (nptr p.blk) (by rw[hk,hp])
  have a7:∀n∈nodes,n.key≠qaa (bl s):=fun n hn e=>by rw[qdp T hn e]at hf;cases hf
  have lg:=fun W (hW:Bw w W) (nm:Bs) (fl:qbd nm=true) (da:∀n∈nodes,n.key≠p.key++[nm])=>qsj T W (oj W hW) ic q nm fl da leaf a b c d (hq.below hW hq.lt) (p_ p ic).1 (p_ p ic).2.1 (p_ p ic).2.2
  unfold nptr at fJ lg ⊢;clear hf p_ hq
  go_enter func52,ntmps52
  go_wp2_with (first|(go_at_call 80;refine rS.mono ?_;clear rS;rintro e w1 ⟨rfl,aa⟩)|(go_at_call 81;refine(jv _).mono ?_;clear jv;rintro e w2 ⟨⟨sa,wZ,rfl,fl,JL⟩,af⟩;have aw:Bw w w2:=qac aa af;have AW:=cI w2 aw))
  have hk:qaa (bl sa)=(qaa (bl s)).dropLast:=by rw[fl,List.dropLast_concat]
  refine(fJ w2 aw sa (by omega) hk).mono ?_
  rintro e w3 ⟨rfl,ax⟩
  have aK:Bw w w3:=qac aw ax;have D8:qbd (bl wZ)=true:=qbz (k:=qaa (bl s)) (by rw[<-qba];exact hv) (by rw[fl];simp);have eF:p.key++[bl wZ]=qaa (bl s):=by rw[fU,<- hk,fl]
  have hh:=lg w3 aK (bl wZ) D8 (fun n hn=>by rw[eF];exact a7 n hn);rw[qp4]at hh;clear lg fJ cI hk fl;have kr:Hid (p.key++[bl wZ]=qaa (bl s)):=eF;clear eF fU
  go_wp2_with (go_at_call 82;refine hh.mono ?_;clear hh;rintro e w4 ⟨rfl,ks,at_,sl,aP⟩)
  go_ret
  exact .inr ⟨HE.out,rfl,⟨p,bl wZ,ks,at_,sl,ic,fN,kr.out.symm,lP,a7,aP.from aK⟩⟩
 ·have aW:(qbc nodes (bl s) ok != 0)=true:=by simpa using he
  unfold nptr;generalize hE:qbc nodes (bl s) ok=E at rS aW;have HE:Hid (qbc nodes (bl s) ok=E):=hE;clear hE he hN T ht hr bK p_ hq
  go_enter func52,ntmps52
  go_wp2_with (go_at_call 80;refine rS.mono ?_;rintro e w1 ⟨rfl,aa⟩)
  go_ret
  exact .inl ⟨by rw[HE.out];simpa using aW,qgn HE.out.symm,aa⟩
end Go.Proofs.YtphclnolomgjoaaGreatDoor
