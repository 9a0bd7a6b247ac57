import Derived.Test.YtphclnolomgjoaaGreatDoorB11
import Derived.Sort.CutIn
import Derived.Stop.RegionWithIn
import Derived.OrdersIn
set_option linter.unusedVariables false
set_option linter.unusedSimpArgs false
set_option maxRecDepth 100000
set_option maxHeartbeats 4000000
namespace Go.Proofs.YtphclnolomgjoaaGreatDoor
open Tryz
section
open Go.RowKit Go.Shelf
variable {P:Program}{lb:Array Value}{S T:Nat->Prop}{w w0:World}{b bt gf i id j:Nat}{l ws:List Pw}{p:Pw}{nodes:List Node}{va vw:Value}{m:Node}
def SeqM {α : Type}(P:Program)(g:Nat)(lb:Array Value)(iO : α -> Array Value)(S:Nat->Prop)(c:Nat)(T:Nat->Prop)(xs:List α)(w:World):Prop :=
 ∀(n l:Nat) (J Jx:List α -> World->Prop) (W:World),Below w.heap.size w W->w.heap.size<=l->l<W.heap.size ->
  (∀s A B,J s A->Keep (fun b=>S b\/(W.heap.size<=b/\b<W.heap.size+c)) A B->J s B)->(∀s A B,Jx s A->Keep (fun b=>S b\/(W.heap.size<=b/\b<W.heap.size+c)) A B->Jx s B) ->
  (∀m pre x W1,J pre W1->W.heap.size+c<=W1.heap.size->pre++[x] <+: xs->YieldAt Fence.wide m P l (iO x) W1 fun e W' =>
   (e=.returned (.bool true)/\J (pre++[x]) W'/\Keep (fun b=>T b\/b=l\/W.heap.size+c<=b) W1 W')\/(e=.returned (.bool false)/\Jx (pre++[x]) W'/\Keep (fun b=>T b\/b=l\/W.heap.size+c<=b) W1 W')) ->
  J [] W ->
  CallsIn Fence.wide n P g (#[.func (.yield l) #[] #[]]++lb) W fun e W'=>(∃v,e=.returned v)/\(J xs W'\/(∃pre,pre <+: xs/\Jx pre W'))
theorem qt0{α : Type}{g:Nat}{enc : α -> Value}{xs:List α} 
  (hk:∀B l,w.heap.size<=B->w.heap.size<=l->SeqK P g lb enc S (fun b=>T b\/b=l\/B<=b) xs w):SeqM P g lb (fun x=>#[enc x]) S 0 T xs w:=by
 intro n l J Jx W hW hl ak hJ jz hY h0
 refine(hk W.heap.size l hW.size hl n l (fun s A=>J s A/\W.heap.size<=A.heap.size) Jx W hW hl (fun s A B h k=>⟨hJ s A B h.1 (k.mono fun b h=>.inl h),Nat.le_trans h.2 k.size⟩) (fun s A B h k=>jz s A B h (k.mono fun b h=>.inl h)) ?_ ⟨h0,Nat.le_refl _⟩).mono ?_
 ·intro m pre x W1 hj hp
  refine(hY m pre x W1 hj.1 hj.2 hp).mono ?_
  rintro e W' (⟨h1,h2,h3⟩|⟨h1,h2,h3⟩)
  ·exact .inl ⟨h1,⟨h2,Nat.le_trans hj.2 h3.size⟩,h3⟩
  ·exact .inr ⟨h1,h2⟩
 ·rintro e W' ⟨h1,h2⟩
  exact⟨h1,h2.imp (fun h=>h.1) id⟩
theorem qhm{α : Type}{g:Operand}{ps:Array Tmp}{assign body:Code}{Q:Exit->Act->World->Prop}{a:Act}{n:Nat}
  (hg:a.eval g=.func (.func gf) #[] lb) (eg:∀args w,(callFunc gf args).run P w=.ok (.enter gf args) w)
  {iO : α -> Array Value} {c:Nat} {xs:List α} (aB:SeqM P gf lb iO S c T xs w0) (cN:Below w0.heap.size w0 w) (dg:∀x,(iO x).size=ps.size)
  (hS:∀b,S b->b<w.heap.size) (hT:∀b,T b->b<w.heap.size)
  (I:List α -> World->Prop) (Ix:Code->List α -> World->Prop)
  (hI:∀s A B,I s A->Keep (fun b=>S b\/(w.heap.size<=b/\b<w.heap.size+2+c)) A B->I s B) (kE:∀c' s A B,Ix c' s A->Keep (fun b=>S b\/(w.heap.size<=b/\b<w.heap.size+2+c)) A B->Ix c' s B)
  (h0:I [] w) (a₁ : α -> Act)
  (gJ:∀(l:Nat) (x : α) (W:World) (K:Act->World->Prop),K (a₁ x) W ->
   assign.wpIn (Fence.wide.inRound l) n P (Exit.then K (fun _ _ _=>False)) {tmps:=(ps.zip (iO x)).foldl (fun t (p,v)=>t.setIfInBounds p v) a.tmps,defers:=[]} W)
  (kQ:∀(l:Nat) (pre:List α) (x : α) (W:World),I pre W->w.heap.size+2+c<=W.heap.size->pre++[x] <+: xs->body.wpIn (Fence.wide.inRound l) n P (qw4 (fun b=>T b\/w.heap.size+2+c<=b) I Ix (pre++[x]) W) (a₁ x) W)
  (kS:∀(W:World),I xs W->W.heap[w.heap.size]?=some (.deferred (some []))->Q .normal {a with defers:={target:=.collected w.heap.size,args:=#[]}::a.defers} W)
  (lI:∀(c:Code) (pre:List α) (W:World),pre <+: xs->Ix c pre W->W.heap[w.heap.size]?=some (.deferred (some []))->c.wpIn Fence.wide n P Q {a with defers:={target:=.collected w.heap.size,args:=#[]}::a.defers} W) :
  (Code.rangeFunc g ps assign body).wpIn Fence.wide n P Q a w:=by
 have dH:∀m,Fence.wide.depth.isSome=true->1<=m:=fun m h=>by simp[Fence.wide]at h
 refine wpIn_rangeFunc fun fn _=>?_
 obtain⟨rc,gV⟩:∃rc:LoopState->Option Code->Loop,rc=fun st pe=>{state:=st,pending:=pe,fn,tmps:=a.tmps,params:=ps,assign,body,defers:=w.heap.size}:=⟨_,rfl⟩
 obtain⟨W1,dt⟩:∃W1,(w.alloc (.deferred (some []))).alloc (.loop (rc .ready none))=W1:=⟨_,rfl⟩;have pI:W1.heap[w.heap.size+1]?=some (.loop (rc .ready none)):=by
  rw[<-dt];have:=World.alloc_heap_new (w.alloc (.deferred (some []))) (.loop (rc .ready none));rwa[xrt]at this
 have dD:W1.heap[w.heap.size]?=some (.deferred (some [])):=by
  rw[<-dt];exact(Below.heap_alloc _ _ _ (by simp)).trans (World.alloc_heap_new w _)
 have dz:W1.heap.size=w.heap.size+2:=by rw[<-dt];simp
 have bZ:Below w.heap.size w W1:=by rw[<-dt];exact((Below.refl _ w).alloc (Nat.le_refl _) _).alloc (by simp) _
 have qD:I [] W1:=hI _ _ _ h0 (Keep.new bZ);have aa:Below w0.heap.size w0 W1:=cN.trans (bZ.mono cN.size);have eB:∀ {A B:World} {k:Nat} {o:Obj},Keep (fun b=>S b\/(W1.heap.size<=b/\b<W1.heap.size+c)) A B->w.heap.size<=k->k<w.heap.size+2->A.heap[k]?=some o->B.heap[k]?=some o:=fun {A B k o} hk dn ak ho=>by
  rw[hk.block k (xrc.1 ho).1 (fun hs=>by
   rcases hs with hs|hs
   ·have:=hS k hs;omega
   ·omega)];exact ho
 have zn:∀b,S b\/(W1.heap.size<=b/\b<W1.heap.size+c)->S b\/(w.heap.size<=b/\b<w.heap.size+2+c):=fun b h=>h.imp id (fun h=>by omega)
 refine⟨w.heap.size+1,[{target:=.collected w.heap.size,args:=#[]}],W1,{target:=.fn (.func gf) lb,args:=#[.func (.yield (w.heap.size+1)) #[] #[]]},W1,gf,
  #[.func (.yield (w.heap.size+1)) #[] #[]]++lb,W1,?_,?_,?_,?_,dH _,?_⟩
 ·rw[<-dt,gV];exact run_enterLoop_outer _ _ _ _ _
 ·simp only[resolve,hg];simp[go_sem]
 ·intro f' _;trivial
 ·simp[invoke,go_sem,eg]
 refine(aB (n-1) (w.heap.size+1)
  (fun pre W=>I pre W/\W.heap[w.heap.size+1]?=some (.loop (rc .ready none))/\W.heap[w.heap.size]?=some (.deferred (some [])))
  (fun pre W=>∃c,Ix c pre W/\W.heap[w.heap.size+1]?=some (.loop (rc .done (some c)))/\W.heap[w.heap.size]?=some (.deferred (some [])))
  W1 aa (by have:=cN.size;omega) (by omega)
  (fun s A B hs hk=>⟨hI s A B hs.1 (hk.mono zn),eB hk (by omega) (by omega) hs.2.1,eB hk (by omega) (by omega) hs.2.2⟩)
  (fun s A B hs hk=>by
   obtain⟨c,h1,h2,h3⟩:=hs
   exact⟨c,kE c s A B h1 (hk.mono zn),eB hk (by omega) (by omega) h2,eB hk (by omega) (by omega) h3⟩)
  ?_ ⟨qD,pI,dD⟩).mono ?_
 ·rintro m pre x W ⟨hi,hl,hk⟩ vC ax
  rw[dz]at vC;have ak:w.heap.size+1<W.heap.size:=(xrc.1 hl).1;have hy:=run_yield (P:=P) (args:=(iO x)) hl (by rw[gV];exact dg x);rw[gV]at hy
  refine⟨fn,_,assign,body,hy,?_⟩
  obtain⟨Wb,j9⟩:∃Wb,W.putObj (w.heap.size+1) (.loop {rc .ready none with state:=.busy})=Wb:=⟨_,rfl⟩;have wG:Keep (fun b=>T b\/b=w.heap.size+1\/W1.heap.size+c<=b) W Wb:=by rw[<-j9];exact(Keep.refl _ _).putObj (.inr (.inl rfl)) _
  have oM:Keep (fun b=>S b\/(w.heap.size<=b/\b<w.heap.size+2+c)) W Wb:=by rw[<-j9];exact(Keep.refl _ _).putObj (.inr (by omega)) _
  have fZ:Wb.heap[w.heap.size+1]?=some (.loop {rc .ready none with state:=.busy}):=by rw[<-j9];exact World.putObj_heap_same ak
  have aY:Wb.heap[w.heap.size]?=some (.deferred (some [])):=by rw[<-j9];exact(World.putObj_heap_other (by omega)).trans hk
  have fK:RoundIn Fence.wide n P (w.heap.size+1) fn ((ps.zip (iO x)).foldl (fun t (p,v)=>t.setIfInBounds p v) a.tmps) assign body W fun e W' =>
    (e=.returned (.bool true)/\(I (pre++[x]) W'/\W'.heap[w.heap.size+1]?=some (.loop (rc .ready none))/\W'.heap[w.heap.size]?=some (.deferred (some [])))/\Keep (fun b=>T b\/b=w.heap.size+1\/W1.heap.size+c<=b) W W') \/
    (e=.returned (.bool false)/\(∃c,Ix c (pre++[x]) W'/\W'.heap[w.heap.size+1]?=some (.loop (rc .done (some c)))/\W'.heap[w.heap.size]?=some (.deferred (some [])))/\Keep (fun b=>T b\/b=w.heap.size+1\/W1.heap.size+c<=b) W W'):=by
   refine roundIn_of_wpIn trivial (gJ _ x W _ ⟨Wb,by rw[<-j9];exact run_beginRound hl (by rw[gV]),?_⟩)
   have cY:w.heap.size+2+c<=Wb.heap.size:=by rw[<-j9];simp;omega
   refine wpIn_mono (kQ _ pre x Wb (hI _ _ _ hi oM) cY ax) ?_
   have aT:∀(eP:Option Code) (W3:World),Keep (fun b=>T b\/w.heap.size+2+c<=b) Wb W3 ->
     ∃W4,(Instr.endRound (w.heap.size+1) eP).run P W3=.ok (.bool eP.isNone) W4/\Keep (fun b=>S b\/(w.heap.size<=b/\b<w.heap.size+2+c)) W3 W4/\Keep (fun b=>T b\/b=w.heap.size+1\/W1.heap.size+c<=b) W W4 /\
     W4.heap[w.heap.size+1]?=some (.loop (rc (if eP.isNone then .ready else .done) eP))/\W4.heap[w.heap.size]?=some (.deferred (some [])):=fun eP W3 bW=>by
    have oQ:W3.heap[w.heap.size+1]?=some (.loop {rc .ready none with state:=.busy}):=by
     rw[bW.block _ (xrc.1 fZ).1 (fun ht=>by
      rcases ht with ht|ht
      ·have:=hT _ ht;omega
      ·omega)];exact fZ
    have qX:W3.heap[w.heap.size]?=some (.deferred (some [])):=by
     rw[bW.block _ (xrc.1 aY).1 (fun ht=>by
      rcases ht with ht|ht
      ·have:=hT _ ht;omega
      ·omega)];exact aY
    have hr:=run_endRound (P:=P) eP oQ
    refine⟨_,hr,(Keep.refl _ _).putObj (.inr (by omega)) _,(wG.trans (bW.mono fun b h=>h.imp id (fun h=>.inr (by omega)))).putObj (.inr (.inl rfl)) _,?_,(World.putObj_heap_other (by omega)).trans qX⟩
    rw[World.putObj_heap_same (xrc.1 oQ).1,gV]
   rintro e a3 W3 hp
   cases e with
   |normal =>
    obtain⟨bW,iY⟩:=hp;obtain⟨W4,hr,iK,jX,f_,iU⟩:=aT none W3 bW
    exact⟨_,_,hr,.inl ⟨rfl,⟨hI _ _ _ iY iK,f_,iU⟩,jX⟩⟩
   |ret =>
    obtain⟨bW,iY⟩:=hp;obtain⟨W4,hr,iK,jX,f_,iU⟩:=aT (some .ret) W3 bW
    exact⟨_,_,hr,.inr ⟨rfl,⟨.ret,kE _ _ _ _ iY iK,f_,iU⟩,jX⟩⟩
   |exit id =>
    obtain⟨bW,iY⟩:=hp;obtain⟨W4,hr,iK,jX,f_,iU⟩:=aT (some (.exit id)) W3 bW
    exact⟨_,_,hr,.inr ⟨rfl,⟨.exit id,kE _ _ _ _ iY iK,f_,iU⟩,jX⟩⟩
   |goto t =>
    obtain⟨bW,iY⟩:=hp;obtain⟨W4,hr,iK,jX,f_,iU⟩:=aT (some (.goto t)) W3 bW
    exact⟨_,_,hr,.inr ⟨rfl,⟨.goto t,kE _ _ _ _ iY iK,f_,iU⟩,jX⟩⟩
   |panic ch=>exact hp.elim
   |outgrown=>exact hp.elim
  exact⟨fK.1,fun c cs _=>fK.2 c cs (room_wide _)⟩
 ·rintro e W2 ⟨⟨v,rfl⟩,(⟨hi,hl,hk⟩|⟨pre,ax,c,hi,hl,hk⟩)⟩
  ·exact⟨none,_,by have:=run_endLoop (P:=P) hl (by rw[gV];simp);rw[gV]at this;exact this,
    kS _ (hI _ _ _ hi ((Keep.refl _ _).putObj (.inr (by omega)) _)) ((World.putObj_heap_other (by omega)).trans hk)⟩
  ·exact⟨some c,_,by have:=run_endLoop (P:=P) hl (by rw[gV];simp);rw[gV]at this;exact this,
    lI c pre _ ax (kE _ _ _ _ hi ((Keep.refl _ _).putObj (.inr (by omega)) _)) ((World.putObj_heap_other (by omega)).trans hk)⟩
attribute [local go_sem] Oper.semAt_some
def qba (l:List Pw)(b:Nat):List Pw:=l.filter fun p=>p.q == b
theorem qjc(hj:l[j]?=some p):qba (l.take (j+1)) b=qba (l.take j) b++(if p.q == b then [p] else []):=by
 obtain⟨hl,rfl⟩:=xr0.1 hj;unfold qba;rw[xrf hl,List.filter_append]
 simp[xrz]
theorem qq8(hj:l[j]?=some p)(hb:(p.q == b)=true):qba (l.take j) b++[p] <+: qba l b:=by
 have h:=qjc (b:=b) hj;rw[if_pos hb]at h;rw[<-h];unfold qba
 exact List.IsPrefix.filter _ (List.take_prefix _ _)
theorem qpi(hN:∀n∈nodes,qag w n)(hc:w.cell? ⟨bt,2,none⟩=some vw)(hW:WRow w vw ws)(a9:ws.length<=100)(eS:∀p∈ws,∃n∈nodes,n.blk=p.q)(hm:m∈nodes):
  Calls prog 156 #[.pointer (some ⟨bt,1,none⟩),nptr m.blk] w fun e w'=>e=.returned (.func (.func 198) #[] #[.pointer (some ⟨w.heap.size,0,none⟩),.pointer (some ⟨w.heap.size+1,0,none⟩)])/\w'=(w.alloc (.cells #[.pointer (some ⟨bt,1,none⟩)] 132)).alloc (.cells #[nptr m.blk] 97) /\
   ∀Tm:Nat->Prop,(∀n∈nodes,¬Tm n.blk/\∀g,n.sl.ownBlock=some g->¬Tm g)->¬Tm bt->(∀b,vw.ownBlock=some b->¬Tm b)->(∀p∈ws,¬Tm p.blk)->¬Tm w.heap.size->¬Tm (w.heap.size+1) ->
    SeqK prog 198 #[.pointer (some ⟨w.heap.size,0,none⟩),.pointer (some ⟨w.heap.size+1,0,none⟩)] (fun p:Pw=>nptr p.blk) (fun _=>False) Tm (qba ws m.blk) w':=by
 have jL:∀(fn:Fn) (first cap:Array Value) (w:World),(Instr.makeFunc fn first cap).run prog w=.ok (.func fn first cap) w:=fun _ _ _ _=>rfl
 have key:∀Tm:Nat->Prop,(∀n∈nodes,¬Tm n.blk/\∀g,n.sl.ownBlock=some g->¬Tm g)->¬Tm bt->(∀b,vw.ownBlock=some b->¬Tm b)->(∀p∈ws,¬Tm p.blk)->¬Tm w.heap.size->¬Tm (w.heap.size+1) ->
   SeqK prog 198 #[.pointer (some ⟨w.heap.size,0,none⟩),.pointer (some ⟨w.heap.size+1,0,none⟩)] (fun p:Pw=>nptr p.blk) (fun _=>False) Tm (qba ws m.blk) ((w.alloc (.cells #[.pointer (some ⟨bt,1,none⟩)] 132)).alloc (.cells #[nptr m.blk] 97)):=by
  intro Tm hT tJ qK Bh l_ Bf k l J Jx W du hl hJ jz hY h0;have bz:∀k:Nat,Fence.wide.depth.isSome=true->1<=k:=fun k h=>by simp[Fence.wide]at h
  have cN:Below w.heap.size w W:=qab (show Below w.heap.size w ((w.alloc (.cells #[.pointer (some ⟨bt,1,none⟩)] 132)).alloc (.cells #[nptr m.blk] 97)) by exact bel2) du;have kl:∀n∈nodes,qag W n:=fun n hn=>(hN n hn).below cN
  have x1:Box W w.heap.size 132 (.pointer (some ⟨bt,1,none⟩)):=((Box.new w 132 _).alloc _).below du (by simp;omega);have x2:Box W (w.heap.size+1) 97 (nptr m.blk):=by
   have:=(Box.new (w.alloc (.cells #[.pointer (some ⟨bt,1,none⟩)] 132)) 97 (nptr m.blk)).below du (by simp)
   rwa[xrt]at this
  have cD:bt<w.heap.size:=by have:=xrb w _ hc;simpa using this
  have c2:W.cell? ⟨bt,2,none⟩=some vw:=(cN.cell (p:=⟨bt,2,none⟩) cD).trans hc;have yS:WRow W vw ws:=⟨qaf (T:=fun _=>False) hW.row (Keep.new cN) (fun _ _ e=>e),fun p hp=>(hW.works p hp).below cN (hW.works p hp).lt⟩;have c1:=x1.cell;obtain⟨a0,cap,hv,_,_⟩:=qa6 hW.row;obtain⟨n,hn⟩:∃n,n=ws.length:=⟨_,rfl⟩;rw[<-hn]at a9 hv;rw[hv]at c2;have HN:Hid (n=ws.length):=hn;have HV:Hid (vw=.slice a0 n cap):=hv;clear hn hv
  refine callsIn_of_wp func198 rfl trivial ?_ rfl
  simp only[ntmps198,List.size_toArray,List.length_cons,List.length_nil,Nat.reduceAdd,Nat.reduceSub,Array.replicate_succ,Array.replicate_zero,List.push_toArray,List.append_toArray,List.nil_append,List.cons_append]
  gi_wp2
  gi_loopw [11] (fun i wr=>∃j:Nat,i=.int .i64 j/\j<=n/\J (qba (ws.take j) m.blk) wr/\Keep Tm W wr) (fun i _=>n-(intOf i).toNat)
  case atStart=>exact⟨0,rfl,Nat.zero_le _,by simpa [qba] using h0,Keep.refl _ _⟩
  case round =>
   obtain⟨j,rfl,hj,jm,fY⟩:=hrel;have oh:=qe2 hT kl fY
   by_cases ak:j<n
   ·obtain⟨p,hp⟩:∃p,ws[j]?=some p:=⟨_,xr1 (by rw[<-HN.out];exact ak)⟩;have cI:p∈ws:=xr2 hp;obtain⟨nn,eZ,gv⟩:=eS p cI;have aS:WRow wr vw ws:=⟨qaf yS.row fY (fun b hb=>qK b hb),fun q hq=>(yS.works q hq).keep fY (Bh q hq)⟩;obtain⟨g,hg⟩:∃g,a0=some ⟨g,0,none⟩:=by
     obtain⟨g,uL,et,_⟩:=qa9 aS.row (Nat.lt_of_le_of_lt (Nat.zero_le _) (xr0.1 hp).1)
     have:=HV.out;rw[et]at this;injection this with e1;exact⟨g,e1.symm⟩
    subst hg;have cQ:wr.cell? ⟨g,j,none⟩=some (.pointer (some ⟨p.blk,0,none⟩)):=by
     have:=aS.row.cells (g:=g) (by rw[HV.out];rfl) j (nptr p.blk) (by unfold qa0;rw[xrs,hp];rfl)
     rwa[Addr.add_lit,Nat.zero_add]at this
    have dV:wr.cell? ⟨p.blk,1,none⟩=some (.pointer (some ⟨p.q,0,none⟩)):=(aS.works p cI).cell 1;have k2:wr.cell? ⟨w.heap.size+1,0,none⟩=some (.pointer (some ⟨m.blk,0,none⟩)):=(x2.keep fY Bf).cell;have gm:∀W',Below wr.heap.size wr W'->(binOp .eql 97 (.pointer (some ⟨p.q,0,none⟩)) (.pointer (some ⟨m.blk,0,none⟩))).run prog W'=.ok (.bool (p.q == m.blk)) W':=fun W' aX=>by
     rw[<-gv];exact qsk ((oh nn eZ).below aX) ((oh m hm).below aX)
    have qZ:=gm wr (Below.refl _ _);have q_:=gm wr.drew (by exact bel2);have ra:=fun nq=>gm (wr.drewN nq) (xrm (Below.refl _ _) nq)
    have kh:Hid (qba (ws.take (j+1)) m.blk=qba (ws.take j) m.blk++(if p.q == m.blk then [p] else [])):=qjc hp;have u9:Hid ((p.q == m.blk)=true->qba (ws.take j) m.blk++[p] <+: qba ws m.blk):=fun e=>qq8 hp e
    have mV:(j:Int)<n:=by omega
    have rn:(0:Int)<=j:=by omega
    generalize fu:(p.q == m.blk)=be at gm qZ q_ ra kh u9;clear hp h0 fu gm
    cases be
    ·have HJ:Hid (J (qba (ws.take (j+1)) m.blk) wr):=by rw[kh.out];simp only[Bool.false_eq_true,if_false,List.append_nil];exact jm
     clear jm hY
     gi_upto_region 3 with fail
     refine wpIn_wide.2 ?_
     go_quiet (fail)
     gi_wp2_with fail
     go_roundw
     case rel=>exact⟨j+1,by go_num,by omega,hJ _ _ _ HJ.out ((Keep.refl _ _).drewN nq),fY.drewN nq⟩
     case measure=>simp[intOf];omega
    ·have km:=u9.out rfl;obtain⟨fn,tmps,assign,body,hy,hR⟩:=hY (k-1) _ p wr.drew (hJ _ _ _ jm (Keep.refl _ _).drew) km;have cX:=hR.mono (R':=fun e W'=>∃t:Bool,e=.returned (.bool t)/\((t=true/\J (qba (ws.take j) m.blk++[p]) W'/\Keep Tm wr W')\/(t=false/\Jx (qba (ws.take j) m.blk++[p]) W')))
      (fun e W' h=>h.elim (fun ⟨he,hj,hk⟩=>⟨true,he,.inl ⟨rfl,hj,(Keep.refl _ _).drew.trans hk⟩⟩) (fun ⟨he,hj⟩=>⟨false,he,.inr ⟨rfl,hj⟩⟩))
     clear hR hY jm u9 ra;unfold nptr at hy
     gi_upto_region 3 with fail
     gi_region_with (refine⟨bz _,?_⟩;refine cX.mono ?_;clear cX;rintro e W2 ⟨t,rfl,hP⟩)
     all_goals gi_wp2_with fail
     all_goals rename_i ht
     ·have:t=false:=by simpa using ht
      subst this
      refine xrn (results_none rfl _ _ _) rfl ?_
      exact⟨⟨_,rfl⟩,.inr ⟨_,km,(hP.resolve_left (by simp)).2⟩⟩
     ·have:t=true:=by simpa using ht
      subst this;obtain⟨_,jy,aY⟩:=hP.resolve_right (by simp)
      refine⟨⟨j+1,by go_num,by omega,?_,fY.trans aY⟩,by simp[intOf];omega⟩
      rw[kh.out,if_pos trivial];exact jy
     ·have:t=false:=by simpa using ht
      subst this
      refine xrn (results_none rfl _ _ _) rfl ?_
      exact⟨⟨_,rfl⟩,.inr ⟨_,km,(hP.resolve_left (by simp)).2⟩⟩
     ·have:t=true:=by simpa using ht
      subst this;obtain⟨_,jy,aY⟩:=hP.resolve_right (by simp)
      refine⟨⟨j+1,by go_num,by omega,?_,fY.trans aY⟩,by simp[intOf];omega⟩
      rw[kh.out,if_pos trivial];exact jy
   ·gi_wp2
    go_end0
    have fE:ws.take j=ws:=xrd (by rw[<-HN.out];omega);rw[fE]at jm
    exact⟨⟨_,rfl⟩,.inl jm⟩
 unfold nptr at key ⊢
 go_enter func156,ntmps156
 go_wp2
 go_ret
 exact⟨rfl,rfl,key⟩
attribute [local go_sem] Oper.semAt_some
def qbw (ws:List Pw)(b:Nat):Option Pw:=ws.find? fun p=>p.q == b
theorem qve(ws:List Pw)(b:Nat):qbw ws b=(qba ws b).head?:=by
 unfold qbw qba;rw[List.head?_filter]
theorem qsw(hN:∀n∈nodes,qag w n)(hc:w.cell? ⟨bt,2,none⟩=some vw)(hW:WRow w vw ws)(a9:ws.length<=100)(eS:∀p∈ws,∃n∈nodes,n.blk=p.q)(hm:m∈nodes):
  Calls prog 174 #[.pointer (some ⟨bt,1,none⟩),nptr m.blk] w fun e w'=>e=.returned (optP (qbw ws m.blk))/\Below w.heap.size w w':=by
 have bz:∀k:Nat,Fence.wide.depth.isSome=true->1<=k:=fun k h=>by simp[Fence.wide]at h
 have cD:bt<w.heap.size:=by have:=xrb w _ hc;simpa using this
 have e9:∀W,Below w.heap.size w W->_:=fun W hB=>qpi (w:=W) (fun n hn=>(hN n hn).below hB) ((hB.cell (p:=⟨bt,2,none⟩) cD).trans hc) ⟨qaf (T:=fun _=>False) hW.row (Keep.new hB) (fun _ _ e=>e),fun p hp=>(hW.works p hp).below hB (hW.works p hp).lt⟩ a9 eS hm
 have xu:=fun b (hb:vw.ownBlock=some b)=>qap hW.row hb
 have dU:=fun p (hp:p∈ws)=>(hW.works p hp).lt
 rw[qve];generalize hX:qba ws m.blk=X at e9 ⊢;clear hX
 refine(xrv (n:=3)).1 ?_
 refine callsIn_of_wp_marks func174 rfl trivial ?_ rfl
 unfold nptr at e9 ⊢;simp only[ntmps174,List.size_toArray,List.length_cons,List.length_nil,Nat.reduceAdd,Nat.reduceSub,Array.replicate_succ,Array.replicate_zero,List.push_toArray,List.append_toArray,List.nil_append,List.cons_append]
 gi_wp2_with ((first|refine⟨trivial,bz _,?_⟩|refine⟨trivial,?_⟩);gi_at_call 156;refine(xrv.2 (e9 _ (by exact bel1))).mono ?_;rintro e W ⟨rfl,rfl,aB⟩)
 obtain⟨W,bg⟩:∃W,W=(((w.alloc (.cells #[.pointer none] 95)).alloc (.cells #[.pointer (some ⟨bt,1,none⟩)] 132)).alloc (.cells #[.pointer (some ⟨m.blk,0,none⟩)] 97)):=⟨_,rfl⟩;have cY:W.heap.size=w.heap.size+3:=by rw[bg];simp
 have e2:(w.alloc (.cells #[.pointer none] 95)).heap.size=w.heap.size+1:=by simp
 have cN:Box W w.heap.size 95 (.pointer none):=by rw[bg];exact((Box.new w 95 _).alloc _).alloc _
 have bZ:Below w.heap.size w W:=by rw[bg];exact bel1
 rw[e2]at aB;simp only[<-bg]at aB ⊢;have hq:=aB (fun b=>b=w.heap.size\/W.heap.size<=b) (fun k hk=>⟨fun h=>by have:=(hN k hk).lt;omega,fun g hg h=>by have:=((hN k hk).row.lt g hg).2;omega⟩) (by omega) (fun b hb h=>by have:=xu b hb;omega) (fun p hp h=>by have:=dU p hp;omega) (by omega) (by omega);clear aB e9 e2 bg;have ay:∀b,b<W.heap.size->¬(False\/W.heap.size<=b):=fun b hb h=>by rcases h with h|h;exact h;omega
 refine qfo (T:=fun b=>b=w.heap.size) (S:=fun _=>False) rfl (enters_of func198 (by kernel_rfl) rfl) hq (Below.refl _ _) rfl (fun b h=>h.elim) (fun b h=>by omega)
  (fun pre A=>pre=[]/\Box A w.heap.size 95 (.pointer none)/\Below w.heap.size w A)
  (fun c pre A=>c=.ret/\∃p,pre=[p]/\Box A w.heap.size 95 (.pointer (some ⟨p.blk,0,none⟩))/\Below w.heap.size w A)
  (fun pre A B hs hk=>⟨hs.1,hs.2.1.keep hk (ay _ (by omega)),hs.2.2.trans (hk.toBelow hs.2.2.size (fun b bh=>ay b (by omega)))⟩)
  (fun c pre A B hs hk=>by
   obtain⟨h1,p,h2,h3,h4⟩:=hs
   exact⟨h1,p,h2,h3.keep hk (ay _ (by omega)),h4.trans (hk.toBelow h4.size (fun b bh=>ay b (by omega)))⟩)
  ⟨rfl,cN,bZ⟩
  (fun x=>{tmps:=#[.pointer (some ⟨bt,1,none⟩),.pointer (some ⟨m.blk,0,none⟩),undef,undef,.pointer (some ⟨w.heap.size,0,none⟩),.pointer (some ⟨x.blk,0,none⟩),.pointer (some ⟨bt,1,none⟩),.pointer (some ⟨m.blk,0,none⟩),
   .func (.func 198) #[] #[.pointer (some ⟨w.heap.size+1,0,none⟩),.pointer (some ⟨w.heap.size+1+1,0,none⟩)],.pointer (some ⟨x.blk,0,none⟩),undef],defers:=[]}) ?assign ?body ?done ?stop
 case assign =>
  intro l x W K hK
  gi_wp2
  exact hK
 case body =>
  rintro l pre x W2 ⟨aC,aU,ah⟩ eO ax
  have hc:=aU.cell;have hf:=aU.frozen;have ey:Hid (pre=[]):=aC;clear aC
  gi_wp2
  exact⟨(Keep.refl (fun b=>b=w.heap.size) _).setCell (p:=⟨w.heap.size,0,none⟩) rfl _,rfl,x,by rw[ey.out];rfl,aU.set _,ah.setCell (by simp) _⟩
 case done =>
  rintro A ⟨aC,aU,ah⟩ hD
  have hc:=aU.cell;have hf:=aU.frozen;have ey:Hid (X=[]):=aC;clear aC
  gi_wp2
  have fU:(A.setCell ⟨w.heap.size,0,none⟩ (.pointer none)).heap[W.heap.size]?=some (.deferred (some [])):=(Below.heap_setCell _ _ _ _ (by simp;omega)).trans hD;have ag:=((aU.set (.pointer none)).put W.heap.size (.deferred none) (by omega)).cell
  refine⟨by simp,.inl ⟨_,_,rfl,run_takeDeferred fU,?_⟩⟩
  refine⟨.pointer none,by simp[results,results174,go_sem,ag],?_,qay (ah.setCell (by simp) _) _ _ (by omega)⟩
  rw[ey.out];rfl
 case stop =>
  rintro c pre A ax ⟨rfl,p,hv,aU,ah⟩ hD
  gi_wp2
  have ag:=(aU.put W.heap.size (.deferred none) (by omega)).cell
  refine⟨by simp,.inl ⟨_,_,rfl,run_takeDeferred hD,?_⟩⟩
  refine⟨.pointer (some ⟨p.blk,0,none⟩),by simp[results,results174,go_sem,ag],?_,qay ah _ _ (by omega)⟩
  subst hv;obtain⟨t,rfl⟩:=ax
  rfl
attribute [local go_sem] Oper.semAt_some
def qk1 (l:List Pw):List (Pw×Nat):=l.zipIdx.reverse
theorem qr6(l:List Pw):(qk1 l).map Prod.fst=l.reverse:=by
 unfold qk1;rw[List.map_reverse];simp
theorem qux(hj:l[j]?=some p):(l.zipIdx.drop j).reverse=(l.zipIdx.drop (j+1)).reverse++[(p,j)]:=by
 obtain⟨hl,rfl⟩:=xr0.1 hj;rw[List.drop_eq_getElem_cons (by simpa using hl)]
 simp
theorem qr7(l:List Pw)(j:Nat):(l.zipIdx.drop j).reverse <+: qk1 l:=by
 unfold qk1;rw[List.reverse_prefix]
 exact List.drop_suffix _ _
theorem quw(hA:WRow w va l)(a9:l.length<=100):
  Calls prog 239 #[va] w fun e w'=>e=.returned (.func (.func 247) #[] #[.pointer (some ⟨w.heap.size,0,none⟩)])/\w'=w.alloc (.cells #[va] 98) /\
   ∀T:Nat->Prop,(∀b,va.ownBlock=some b->¬T b)->¬T w.heap.size ->
    SeqM prog 247 #[.pointer (some ⟨w.heap.size,0,none⟩)] (fun p:Pw×Nat=>#[.int .i64 p.2,nptr p.1.blk]) (fun _=>False) 0 T (qk1 l) w':=by
 have jL:∀(fn:Fn) (first cap:Array Value) (w:World),(Instr.makeFunc fn first cap).run prog w=.ok (.func fn first cap) w:=fun _ _ _ _=>rfl
 have key:∀T:Nat->Prop,(∀b,va.ownBlock=some b->¬T b)->¬T w.heap.size ->
    SeqM prog 247 #[.pointer (some ⟨w.heap.size,0,none⟩)] (fun p:Pw×Nat=>#[.int .i64 p.2,nptr p.1.blk]) (fun _=>False) 0 T (qk1 l) (w.alloc (.cells #[va] 98)):=by
  intro T qK l_ k ll J Jx W du hl mZ hJ jz hY h0;have bz:∀k:Nat,Fence.wide.depth.isSome=true->1<=k:=fun k h=>by simp[Fence.wide]at h
  have cN:Below w.heap.size w W:=qab (show Below w.heap.size w (w.alloc (.cells #[va] 98)) by exact bel2) du;have x1:Box W w.heap.size 98 va:=(Box.new w 98 _).below du (by simp);have jv:w.heap.size<W.heap.size:=x1.lt;have AS:W.ownsRow 0 95 1 va l.length (qa0 l):=qaf (T:=fun _=>False) hA.row (Keep.new cN) (fun _ _ e=>e);have vv:∀b,va.ownBlock=some b->¬(T b\/b=ll\/W.heap.size+0<=b):=fun b hb e=>by
   have:=qap hA.row hb
   simp at hl
   rcases e with e|e|e
   ·exact qK b hb e
   ·omega
   ·omega
  have vu:¬(T w.heap.size\/w.heap.size=ll\/W.heap.size+0<=w.heap.size):=fun e=>by
   simp at hl
   rcases e with e|e|e
   ·exact l_ e
   ·omega
   ·omega
  have c1:=x1.cell;obtain⟨a0,cap,hv,jD,iT⟩:=qa6 hA.row;obtain⟨n,hn⟩:∃n,n=l.length:=⟨_,rfl⟩;rw[<-hn]at a9 hv jD;have HN:Hid (n=l.length):=hn;have HV:Hid (va=.slice a0 n cap):=hv;rw[hv]at c1;clear hn hv
  refine callsIn_of_wp func247 rfl trivial ?_ rfl
  simp only[ntmps247,List.size_toArray,List.length_cons,List.length_nil,Nat.reduceAdd,Nat.reduceSub,Array.replicate_succ,Array.replicate_zero,List.push_toArray,List.append_toArray,List.nil_append,List.cons_append]
  gi_wp2
  gi_loopg [3] n (fun q v wr=>∃j:Nat,v=.int .i64 ((j:Int)-1)/\j<=n/\j<=q/\J (l.zipIdx.drop j).reverse wr/\W.heap.size<=wr.heap.size/\Keep (fun b=>T b\/b=ll\/W.heap.size+0<=b) W wr)
  case atStart=>exact⟨n,rfl,Nat.le_refl _,Nat.le_refl _,by rw[List.drop_of_length_le (by simp[HN.out])];exact h0,Nat.le_refl _,Keep.refl _ _⟩
  case round =>
   obtain⟨j,rfl,hj,hq,jm,cY,fY⟩:=hrel
   by_cases hj0:j=0
   ·subst hj0
    gi_wp2
    go_end0
    exact⟨⟨_,rfl⟩,.inl (by simpa [qk1] using jm)⟩
   ·obtain⟨i,rfl⟩:∃i,j=i+1:=⟨j-1,by omega⟩;obtain⟨p,hp⟩:∃p,l[i]?=some p:=⟨_,xr1 (by rw[<-HN.out];omega)⟩;have aS:=qaf AS fY vv;obtain⟨g,hg⟩:∃g,a0=some ⟨g,0,none⟩:=by
     obtain⟨g,uL,et,_⟩:=qa9 aS (Nat.lt_of_le_of_lt (Nat.zero_le _) (xr0.1 hp).1)
     have:=HV.out;rw[et]at this;injection this with e1;exact⟨g,e1.symm⟩
    subst hg;have cQ:wr.cell? ⟨g,i,none⟩=some (.pointer (some ⟨p.blk,0,none⟩)):=by
     have:=aS.cells (g:=g) (by rw[HV.out];rfl) i (nptr p.blk) (by unfold qa0;rw[xrs,hp];rfl)
     rwa[Addr.add_lit,Nat.zero_add]at this
    have k1:wr.cell? ⟨w.heap.size,0,none⟩=some (.slice (some ⟨g,0,none⟩) n cap):=by rw[<-HV.out];exact(x1.keep fY vu).cell
    have kh:Hid ((l.zipIdx.drop i).reverse=(l.zipIdx.drop (i+1)).reverse++[(p,i)]):=qux hp;have km:(l.zipIdx.drop (i+1)).reverse++[(p,i)] <+: qk1 l:=by rw[<-kh.out];exact qr7 l i
    obtain⟨fn,tmps,assign,body,hy,hR⟩:=hY (k-1) _ (p,i) wr jm (by omega) km;have mV:(i:Int)<n:=by omega
    have rn:(0:Int)<=i:=by omega
    have aD:((i+1:Nat):Int)-1=(i:Int):=by omega
    rw[aD];clear hY hp h0;unfold nptr at hy
    gi_wp2_with (refine⟨bz _,?_⟩;refine hR.mono ?_;clear hR;rintro e W2 (⟨rfl,jy,aY⟩|⟨rfl,jh,aY⟩))
    ·gi_roundg i
     case measure=>omega
     case rel=>exact⟨i,by go_num,by omega,Nat.le_refl _,by rw[kh.out];exact jy,Nat.le_trans cY aY.size,fY.trans aY⟩
    ·refine xrn (results_none rfl _ _ _) rfl ?_
     exact⟨⟨_,rfl⟩,.inr ⟨_,km,jh⟩⟩
 obtain⟨a0,cap,hv,_,_⟩:=qa6 hA.row;rw[hv]at key ⊢;unfold nptr at key ⊢
 go_enter func239,ntmps239
 go_wp2
 go_ret
 exact⟨rfl,rfl,key⟩
theorem qq5(hc:w.cell? ⟨bt,3,none⟩=some va)(hA:WRow w va l)(a9:l.length<=100):
  Calls prog 230 #[.pointer (some ⟨bt,1,none⟩)] w fun e w'=>e=.returned (.func (.func 238) #[] #[.pointer (some ⟨w.heap.size,0,none⟩)])/\w'=w.alloc (.cells #[.pointer (some ⟨bt,1,none⟩)] 132) /\
   ∀T:Nat->Prop,(∀b,T b->b<w.heap.size)->¬T bt->(∀b,va.ownBlock=some b->¬T b) ->
    SeqM prog 238 #[.pointer (some ⟨w.heap.size,0,none⟩)] (fun p:Pw=>#[nptr p.blk]) (fun _=>False) 4 T l.reverse w':=by
 have jL:∀(fn:Fn) (first cap:Array Value) (w:World),(Instr.makeFunc fn first cap).run prog w=.ok (.func fn first cap) w:=fun _ _ _ _=>rfl
 have key:∀T:Nat->Prop,(∀b,T b->b<w.heap.size)->¬T bt->(∀b,va.ownBlock=some b->¬T b) ->
    SeqM prog 238 #[.pointer (some ⟨w.heap.size,0,none⟩)] (fun p:Pw=>#[nptr p.blk]) (fun _=>False) 4 T l.reverse (w.alloc (.cells #[.pointer (some ⟨bt,1,none⟩)] 132)):=by
  intro T oq tJ qK k ll J Jx W du hl mZ hJ jz hY h0;have bz:∀k:Nat,Fence.wide.depth.isSome=true->1<=k:=fun k h=>by simp[Fence.wide]at h
  have cN:Below w.heap.size w W:=qab (show Below w.heap.size w (w.alloc (.cells #[.pointer (some ⟨bt,1,none⟩)] 132)) by exact bel2) du;have x1:Box W w.heap.size 132 (.pointer (some ⟨bt,1,none⟩)):=(Box.new w 132 _).below du (by simp);have jv:w.heap.size<W.heap.size:=x1.lt;have cD:bt<w.heap.size:=by have:=xrb w _ hc;simpa using this
  have jI:w.heap.size+1<=ll:=by simpa using hl
  have jV:=fun b (hb:va.ownBlock=some b)=>qap hA.row hb
  have kN:=fun W' (aX:Below w.heap.size w W')=>quw (w:=W') ⟨qaf (T:=fun _=>False) hA.row (Keep.new aX) (fun _ _ e=>e),fun p hp=>(hA.works p hp).below aX (hA.works p hp).lt⟩ a9
  have c1:=x1.cell;have c3:W.cell? ⟨bt,3,none⟩=some va:=(cN.cell (p:=⟨bt,3,none⟩) cD).trans hc;have dH:¬(bt=W.heap.size):=by omega
  have dR:¬(w.heap.size=W.heap.size):=by omega
  have mS:=qr6 l;obtain⟨a0,cap,hv,_,_⟩:=qa6 hA.row;have HV:Hid (va=.slice a0 l.length cap):=hv;obtain⟨n,hn⟩:∃n,n=l.length:=⟨_,rfl⟩;rw[<-hn]at hv;clear hn;subst hv;have A0:(W.alloc (.cells #[.func (.yield ll) #[] #[]] 232)).cell? ⟨bt,3,none⟩=some (.slice a0 n cap):=(World.cell?_alloc_lt _ _ _ (by simp;omega)).trans c3;have dr:(W.alloc (.cells #[.func (.yield ll) #[] #[]] 232)).cell? ⟨w.heap.size,0,none⟩=some (.pointer (some ⟨bt,1,none⟩)):=(World.cell?_alloc_lt _ _ _ (by simp;omega)).trans c1;clear hc c1 c3;generalize hX:qk1 l=X at kN mS;clear hX
  refine callsIn_of_wp_marks func238 rfl trivial ?_ rfl
  simp only[ntmps238,List.size_toArray,List.length_cons,List.length_nil,Nat.reduceAdd,Nat.reduceSub,Array.replicate_succ,Array.replicate_zero,List.push_toArray,List.append_toArray,List.nil_append,List.cons_append]
  gi_wp2_with ((first|refine⟨trivial,bz _,?_⟩|refine⟨trivial,?_⟩);gi_at_call 239;refine(xrv.2 (kN _ (by exact bel1))).mono ?_;rintro e W3 ⟨rfl,rfl,aB⟩)
  obtain⟨W3,dZ⟩:∃W3,W3=(W.alloc (.cells #[.func (.yield ll) #[] #[]] 232)).alloc (.cells #[.slice a0 n cap] 98):=⟨_,rfl⟩;have zx:W3.heap.size=W.heap.size+2:=by rw[dZ];simp
  have z1:Box W3 W.heap.size 232 (.func (.yield ll) #[] #[]):=by rw[dZ];exact(Box.new W 232 _).alloc _
  have eH:Below W.heap.size W W3:=by rw[dZ];exact bel2
  rw[xrt]at aB;simp only[<-dZ]at aB ⊢;have hq:=aB (fun b=>T b\/b=ll) (fun b hb e=>by
   have:=jV b hb
   rcases e with e|e
   ·exact qK b hb e
   ·omega) (fun e=>by
   rcases e with e|e
   ·have:=oq _ e;omega
   ·omega)
  clear aB kN dZ dr A0;have aG:∀b,False\/(W3.heap.size<=b/\b<W3.heap.size+2+0)->False\/(W.heap.size<=b/\b<W.heap.size+4):=fun b e=>e.imp id (fun e=>by omega)
  refine qhm (T:=fun b=>T b\/b=ll) (S:=fun _=>False) rfl (enters_of func247 (by kernel_rfl) rfl) hq (Below.refl _ _) (fun _=>rfl) (fun b e=>e.elim) (fun b e=>by
    rcases e with e|e
    ·have:=oq _ e;omega
    ·omega)
   (fun (pre:List (Pw×Nat)) A=>J (pre.map Prod.fst) A/\Box A W.heap.size 232 (.func (.yield ll) #[] #[]))
   (fun c (pre:List (Pw×Nat)) A=>c=.ret/\Jx (pre.map Prod.fst) A)
   (fun pre A B hs hk=>⟨hJ _ _ _ hs.1 (hk.mono aG),hs.2.keep hk (fun e=>by rcases e with e|e;exact e;omega)⟩)
   (fun c pre A B hs hk=>⟨hs.1,jz _ _ _ hs.2 (hk.mono aG)⟩)
   ⟨hJ _ _ _ h0 (Keep.new eH),z1⟩
   (fun x=>{tmps:=#[.func (.yield ll) #[] #[],.pointer (some ⟨w.heap.size,0,none⟩),.pointer (some ⟨W.heap.size,0,none⟩),undef,nptr x.1.blk,.pointer (some ⟨bt,1,none⟩),.pointer (some ⟨bt,1,none⟩),.pointer (some ⟨bt,3,none⟩),.slice a0 n cap,.func (.func 247) #[] #[.pointer (some ⟨W.heap.size+1,0,none⟩)],.int .i64 x.2,nptr x.1.blk,undef,undef,undef,undef],defers:=[]}) ?assign ?body ?done ?stop
  case assign =>
   intro l x W K hK
   gi_wp2
   exact hK
  case body =>
   rintro l2 pre x W4 ⟨hj,ct⟩ cY ax
   have gy:pre.map Prod.fst++[x.1] <+: l.reverse:=by
    rw[<-mS]
    have:=ax.map Prod.fst
    simpa using this
   obtain⟨fn,tmps,assign,body,hy,hR⟩:=hY (k-1) _ x.1 W4 hj (by omega) gy;have nK:=ct.cell;have cX:=hR.mono (R':=fun e W'=>(e=.returned (.bool true)/\(J ((pre++[x]).map Prod.fst) W'/\Box W' W.heap.size 232 (.func (.yield ll) #[] #[]))/\Keep (fun b=>(T b\/b=ll)\/W3.heap.size+2+0<=b) W4 W')\/(e=.returned (.bool false)/\Jx ((pre++[x]).map Prod.fst) W'/\Keep (fun b=>(T b\/b=ll)\/W3.heap.size+2+0<=b) W4 W')) (fun e W' h=>by
    have iB:∀b,(T b\/b=ll\/W.heap.size+4<=b)->((T b\/b=ll)\/W3.heap.size+2+0<=b):=fun b e=>by
     rcases e with e|e|e
     ·exact .inl (.inl e)
     ·exact .inl (.inr e)
     ·exact .inr (by omega)
    rcases h with ⟨h1,h2,h3⟩|⟨h1,h2,h3⟩
    ·refine .inl ⟨h1,⟨by simpa using h2,ct.keep h3 (fun e=>?_)⟩,h3.mono iB⟩
     rcases e with e|e|e
     ·have:=oq _ e;omega
     ·omega
     ·omega
    ·exact .inr ⟨h1,by simpa using h2,h3.mono iB⟩)
   clear hR hY hq ax gy hj;unfold nptr at hy ⊢
   gi_wp2_with (refine⟨bz _,?_⟩;refine cX.mono ?_;clear cX;rintro e W5 (⟨rfl,AV,gN⟩|⟨rfl,C4,gN⟩))
   ·exact⟨gN,AV⟩
   ·exact⟨gN,rfl,C4⟩
  case done =>
   rintro A ⟨hj,ct⟩ hD
   gi_wp2
   refine⟨by simp,.inl ⟨_,_,rfl,run_takeDeferred hD,?_⟩⟩
   rw[mS]at hj
   exact⟨.tuple #[],by simp[results,results238,go_sem],⟨_,rfl⟩,.inl (hJ _ _ _ hj ((Keep.refl _ _).putObj (.inr (by omega)) _))⟩
  case stop =>
   rintro c pre A ax ⟨rfl,hx⟩ hD
   gi_wp2
   refine⟨by simp,.inl ⟨_,_,rfl,run_takeDeferred hD,?_⟩⟩
   refine⟨.tuple #[],by simp[results,results238,go_sem],⟨_,rfl⟩,.inr ⟨pre.map Prod.fst,?_,jz _ _ _ hx ((Keep.refl _ _).putObj (.inr (by omega)) _)⟩⟩
   rw[<-mS]
   exact ax.map _
 unfold nptr at key ⊢
 go_enter func230,ntmps230
 go_wp2
 go_ret
 exact⟨rfl,rfl,key⟩
def qut (N:Act->World->Prop)(e:Exit)(a:Act)(w:World):Prop:=e=.normal/\N a w
theorem qo3{N:Act->World->Prop}(h:LetsOut (qut N)):False:=by
 obtain⟨a,w,h,_⟩:=h
 cases h
def qs1:Op->Bool
 | .defer _=>true
 |_=>false
def qgz (eu:Array Oper):Bool:=eu.all fun o=>!(qs1 o.op)
theorem qog{eu:Array Oper}(h:qgz eu=true){o:Oper}(hi:eu[i]?=some o):∀c,o.op≠.defer c:=by
 intro c hc;unfold qgz at h;rw[Array.all_eq_true]at h;obtain⟨ak,he⟩:=xrc.1 hi
 have:=h i ak
 rw[he,hc]at this
 simp[qs1]at this
theorem qov{eu:Array Oper}{l n:Nat}{N:Act->World->Prop}{Q:Exit->Act->World->Prop}(bT:qgz eu=true){K:Act->World->Prop}{a:Act} 
  (h:wpOp P eu (qut N) i K a w):wpOpIn (Fence.wide.inRound l) n P eu Q i K a w:=by
 unfold wpOp at h;unfold wpOpIn
 cases hi:eu[i]? with
 |none=>simp only[hi]at h ⊢;exact h
 |some o =>
  simp only[hi]at h ⊢
  by_cases hw:Region.wanted o (yielded eu a.tmps)=true
  ·rw[if_pos hw]at h ⊢
   rcases h with h|⟨_,h⟩
   ·refine⟨fun _ _=>trivial,?_⟩
    rw[Oper.semAt_eq _ _ _ (qog bT hi)];unfold Oper.wp at h;generalize (execOp a.eval o).run P w=r at h ⊢
    cases r with
    |ok x w' =>
     cases x with
     |value v=>exact h
     |skip=>exact h
     |defer d=>exact h
     |enter f args =>
      refine⟨fun e=>(by simp[Fence.wide]at e),?_⟩
      refine CallsIn.inRound l ((xrv.2 h).mono ?_)
      intro e kx he
      cases e with
      |returned v=>exact he
      |panicked c=>exact absurd he.1 (by intro e;cases e)
      |outgrown=>exact(qo3 he).elim
     |row row args =>
      refine⟨fun e=>(by simp[Fence.wide]at e),?_⟩
      intro c cs _;obtain⟨v,w2,h1,h2⟩:=h c cs
      exact⟨v,w2,h1,stepsIn_wide.2 h2⟩
     |_=>exact h.elim
    |halt x w' =>
     cases x with
     |panic v=>exact absurd h.1 (by intro e;cases e)
     |_=>exact h.elim
   ·exact(qo3 h).elim
  ·rw[if_neg hw]at h ⊢
   exact⟨fun _ _=>trivial,h⟩
theorem qh6{eu:Array Oper}{md:Region.Mode}{l n:Nat}{N:Act->World->Prop}{Q:Exit->Act->World->Prop}{S:World->Prop}(bT:qgz eu=true)(hN:∀a w,N a w->Q .normal a w):
  ∀(fuel:Nat) (ji:Array Bool) (a:Act) (w:World),wpAnyH P md eu (qut N) S fuel ji a w->wpAnyIn (Fence.wide.inRound l) n P md eu Q fuel ji a w
 |0,_,_,_,h=>⟨h.1,hN _ _ h.2.2⟩
 |fuel+1,ji,a,w,h=>⟨fun e=>hN _ _ (h.1 e).2,fun i hi=>qov bT (wpOp_mono (fun a' w' h'=>qh6 bT hN fuel _ a' w' h'.2) (h.2 i hi))⟩
theorem qc8{eu:Array Oper}{l n:Nat}{K:Act->World->Prop}{Q:Exit->Act->World->Prop}{a:Act}(S:World->Prop)(hm:P.follows .mixedOrders=true)(bT:qgz eu=true)(hS:S w.drew)
  (h:S w.drew->wpAnyH P .any eu (qut K) S eu.size (Array.replicate eu.size false) a w.drew):(Code.region id eu true).wpIn (Fence.wide.inRound l) n P (Exit.then K Q) a w :=
 wpIn_region_any hm (qh6 bT (fun _ _ h=>h) _ _ _ _ (h hS))
end
section
open Go.RowKit
variable {W W' w w1 w2:World}{b b' bt i n' rr:Nat}{aI aO ai bC ev rt v v' va vw:Value}{evs kB:List (Int×Int)}{p:Pw}{t t':TypeId}{D0 xs:List Value}{vs vs':Array Value}{T:Nat->Prop}{aL an as_ ws:List Pw}
structure ql1 (W:World) (rr bt:Nat) (rt ev:Value) (evs:List (Int×Int)):Prop where
 at_:Blk W rr 188 #[rt,.pointer (some ⟨bt,1,none⟩),ev]
 row:W.ownsRow 0 60 2 ev evs.length (qam evs)
theorem qnf(h:ql1 w rr bt rt ev evs)(hl:evs.length<=10000)(hp:Blk w p.blk 105 p.cells)(k:Int):
  Calls prog 212 #[.pointer (some ⟨rr,0,none⟩),.int .i64 k,nptr p.blk] w fun e w'=>e=.returned (.tuple #[])/\∃bC,ql1 w' rr bt rt bC (evs++[(k,p.x.num)])/\Keep (fun y=>y=rr\/ev.ownBlock=some y) w w'/\(∀b,bC.ownBlock=some b->ev.ownBlock=some b\/w.heap.size<=b):=by
 have aW:ev.ownBlock≠some rr:=qah h.row h.at_ (by decide);have ak:=h.at_.lt;have cB:=fun (W:World) (hB:Below w.heap.size w W) (nb:Nat) (dI:Blk W nb 60 #[.int .i64 k,.int .i64 p.x.num])=>qey un48 q0e (by omega) W ev evs.length (qam evs) (qaf (T:=fun _=>False) h.row (Keep.new hB) (fun _ _ e=>e)) nb 1 1 (by omega) [.int .i64 k,.int .i64 p.x.num] rfl dI (fun u hu=>by simp at hu;rcases hu with rfl|rfl<;>rfl) (by unfold maxLen;omega) (by omega)
 have aK:∀W,Below w.heap.size w W->∀g' av w',AppR W ev.ownBlock 60 2 (evs.length+1) (qam evs++[.int .i64 k,.int .i64 p.x.num]) g' av w'->Blk w' rr 188 #[rt,.pointer (some ⟨bt,1,none⟩),ev]/\Hid (∀W3,Below (w'.setCell ⟨rr,2,none⟩ (.slice (some ⟨g',0,none⟩) (evs.length+1) av)).heap.size (w'.setCell ⟨rr,2,none⟩ (.slice (some ⟨g',0,none⟩) (evs.length+1) av)) W3->∃bC,ql1 W3 rr bt rt bC (evs++[(k,p.x.num)])/\Keep (fun y=>y=rr\/ev.ownBlock=some y) w W3/\(∀b,bC.ownBlock=some b->ev.ownBlock=some b\/w.heap.size<=b)):=fun W bj g' av w' R=>by
  have bh:=(h.at_.below bj ak).keep R.keep aW;have hz:=bj.size;have cd:g'≠rr:=fun e=>by
   rcases R.new with e2|e2
   ·rw[e]at e2;exact aW e2
   ·omega
  refine⟨bh,fun W3 dZ=>⟨.slice (some ⟨g',0,none⟩) (evs.length+1) av,⟨?_,?_⟩,?_,?_⟩⟩
  ·have:=bh.set 2 (.slice (some ⟨g',0,none⟩) (evs.length+1) av)
   have h3:Blk (w'.setCell ⟨rr,2,none⟩ (.slice (some ⟨g',0,none⟩) (evs.length+1) av)) rr 188 #[rt,.pointer (some ⟨bt,1,none⟩),.slice (some ⟨g',0,none⟩) (evs.length+1) av]:=by simpa using this
   exact h3.below dZ h3.lt
  ·rw[show(evs++[(k,p.x.num)]).length=evs.length+1 by simp,qiv]
   exact qaf (T:=fun _=>False) (xrl R.own (by simp[Value.ownBlock];exact cd) _) (Keep.new dZ) (fun _ _ e=>e)
  ·exact((((Keep.new (T:=fun y=>y=rr\/ev.ownBlock=some y) bj).qbm R.keep (fun b _ e=>.inr e))).setCell (p:=⟨rr,2,none⟩) (.inl rfl) _).qj3 dZ
  ·intro b hb
   simp[Value.ownBlock]at hb
   subst hb
   exact R.new.imp id (fun e=>by omega)
 have c2:=h.at_.cell 2;have d0:=hp.cell 0;unfold Pw.cells at d0;simp only[xq0,xq1,xq2]at c2 d0;obtain⟨a0,cy,hv,dn,ia⟩:=qa6 h.row;clear dn ia;generalize qam evs=pp at cB aK;generalize hn:evs.length=n at cB aK hv;clear hn h;have sq:ev=.slice a0 n cy:=hv;subst sq;unfold nptr
 go_enter func212,ntmps212
 go_region_law (refine qa8 rfl (.tmp 10) (.tmp 17) 48 48 rfl _ _ ?_ ?_ (cB _ ?_ ?_ ?_) ?_;(focus (simp[Act.eval,Act.put]));(focus ((try simp[Act.eval,Act.put]);(try rfl)));(focus exact bel2);(focus exact blk2);rintro v1 w1 ⟨g1,q1,rfl,R1⟩;obtain⟨aa,iP⟩:=aK _ (by exact bel2) _ _ _ R1;have f2:=aa.frozen 2;have fw:=aa.cell 2;have dV:=R1.le;have gU:=R1.mx;simp only[xq0,xq1,xq2]at fw)
 all_goals (go_wp2_with fail;go_end0;refine⟨rfl,iP.out _ ?_⟩;exact bel2)
theorem qd2{s s' n:Nat}(h:W.ownsRow 0 t s v n xs)(h':W.ownsRow 0 t' s' v' n' D0)(ht:t≠t')(hb:v.ownBlock=some b):v'.ownBlock≠some b:=by
 intro e
 rcases h.2 with ⟨rfl,_⟩|⟨g,cap,aH,rfl,_,hg,_⟩
 ·cases hb
 ·simp[Value.ownBlock]at hb
  subst hb
  rcases h'.2 with ⟨rfl,_⟩|⟨g',av,AB,rfl,_,cd,_⟩
  ·cases e
  ·simp[Value.ownBlock]at e
   subst e
   have:=hg.symm.trans cd
   injection this with this;injection this with _ h2 _
   exact ht h2
theorem qaw(h:Blk W b t vs)(h':Blk W b' t' vs')(ht:t≠t'):b≠b':=by
 rintro rfl
 have:=h.symm.trans h'
 injection this with this;injection this with _ h2 _
 exact ht h2
structure qd6 (W:World) (rr bt:Nat) (rt r ai vw va ev:Value) (ws as_:List Pw) (evs:List (Int×Int)):Prop where
 bk:BkAt W bt r ai vw va ws as_
 rnd:ql1 W rr bt rt ev evs
def LdT (rr bt:Nat)(vw va ev:Value)(y:Nat):Prop:=y=rr\/BkT bt vw va y\/ev.ownBlock=some y
structure LdN (w:World) (vw va ev aI aO bC:Value):Prop where
 bk:∀b,aI.ownBlock=some b\/aO.ownBlock=some b->vw.ownBlock=some b\/va.ownBlock=some b\/w.heap.size<=b
 ev:∀b,bC.ownBlock=some b->ev.ownBlock=some b\/w.heap.size<=b
theorem LdN.all(h:LdN w vw va ev aI aO bC):∀b,aI.ownBlock=some b\/aO.ownBlock=some b\/bC.ownBlock=some b->vw.ownBlock=some b\/va.ownBlock=some b\/ev.ownBlock=some b\/w.heap.size<=b:=fun b e=>by
 rcases e with e|e|e
 ·rcases h.bk b (.inl e) with e|e|e
  ·exact .inl e
  ·exact .inr (.inl e)
  ·exact .inr (.inr (.inr e))
 ·rcases h.bk b (.inr e) with e|e|e
  ·exact .inl e
  ·exact .inr (.inl e)
  ·exact .inr (.inr (.inr e))
 ·rcases h.ev b e with e|e
  ·exact .inr (.inr (.inl e))
  ·exact .inr (.inr (.inr e))
theorem ql1.keep(h:ql1 W rr bt rt ev evs)(hk:Keep T W W')(h1:¬T rr)(h2:∀b,ev.ownBlock=some b->¬T b):ql1 W' rr bt rt ev evs:=⟨h.at_.keep hk h1,qaf h.row hk h2⟩
theorem BkAt.keep{r:Value}(h:BkAt W bt r ai vw va ws as_)(hk:Keep T W W')(h1:¬T bt)(h2:∀b,vw.ownBlock=some b->¬T b)(h3:∀b,va.ownBlock=some b->¬T b)(h4:∀p∈ws++as_,¬T p.blk):BkAt W' bt r ai vw va ws as_ :=
 ⟨h.at_.keep hk h1,qaf h.wrow hk h2,qaf h.arow hk h3,fun p hp=>(h.works p hp).keep hk (h4 p hp),h.sep,h.nd,h.inj,h.len⟩
theorem qd6.qg4{r:Value}(h:qd6 W rr bt rt r ai vw va ev ws as_ evs):¬BkT bt vw va rr/\∀b,ev.ownBlock=some b->¬BkT bt vw va b:=by
 refine⟨?_,fun b hb=>?_⟩
 ·rintro(e|e|e)
  ·exact qaw h.rnd.at_ h.bk.at_ (by decide) e
  ·exact qah h.bk.wrow h.rnd.at_ (by decide) e
  ·exact qah h.bk.arow h.rnd.at_ (by decide) e
 ·rintro(e|e|e)
  ·subst e;exact qah h.rnd.row h.bk.at_ (by decide) hb
  ·exact qd2 h.bk.wrow h.rnd.row (by decide) e hb
  ·exact qd2 h.bk.arow h.rnd.row (by decide) e hb
theorem qd6.quy{r:Value}(h:qd6 W rr bt rt r ai vw va ev ws as_ evs):¬(bt=rr\/ev.ownBlock=some bt)/\(∀b,vw.ownBlock=some b->¬(b=rr\/ev.ownBlock=some b))/\(∀b,va.ownBlock=some b->¬(b=rr\/ev.ownBlock=some b))/\∀p∈ws++as_,¬(p.blk=rr\/ev.ownBlock=some p.blk):=by
 refine⟨?_,fun b hb=>?_,fun b hb=>?_,fun p hp=>?_⟩
 ·rintro(e|e)
  ·exact qaw h.bk.at_ h.rnd.at_ (by decide) e
  ·exact qah h.rnd.row h.bk.at_ (by decide) e
 ·rintro(e|e)
  ·subst e;exact qah h.bk.wrow h.rnd.at_ (by decide) hb
  ·exact qd2 h.bk.wrow h.rnd.row (by decide) hb e
 ·rintro(e|e)
  ·subst e;exact qah h.bk.arow h.rnd.at_ (by decide) hb
  ·exact qd2 h.bk.arow h.rnd.row (by decide) hb e
 ·rintro(e|e)
  ·exact qaw (h.bk.works p hp) h.rnd.at_ (by decide) e
  ·exact qah h.rnd.row (h.bk.works p hp) (by decide) e
theorem qd6.told{r:Value}(h:qd6 w rr bt rt r ai vw va ev ws as_ evs)(h1:qd6 w1 rr bt rt r ai aI aO ev an aL evs)(cf:Keep (BkT bt vw va) w w1)(dH:∀b,aI.ownBlock=some b\/aO.ownBlock=some b->vw.ownBlock=some b\/va.ownBlock=some b\/w.heap.size<=b)
  (h2:ql1 w2 rr bt rt bC kB) (aY:Keep (fun y=>y=rr\/ev.ownBlock=some y) w1 w2) (dR:∀b,bC.ownBlock=some b->ev.ownBlock=some b\/w1.heap.size<=b) :
  qd6 w2 rr bt rt r ai aI aO bC an aL kB/\Keep (LdT rr bt vw va ev) w w2/\LdN w vw va ev aI aO bC:=by
 obtain⟨a1,a2,a3,a4⟩:=h1.quy
 refine⟨⟨h1.bk.keep aY a1 a2 a3 a4,h2⟩,(cf.mono (fun y e=>.inr (.inl e))).qbm aY (fun b _ e=>e.elim (fun e=>.inl e) (fun e=>.inr (.inr e))),?_⟩
 exact⟨dH,fun b e=>(dR b e).imp id (fun e=>Nat.le_trans cf.size e)⟩
theorem qp3{r:Value}(h:qd6 w rr bt rt r ai vw va ev ws as_ evs)(hl:evs.length<=10000)(hi:ws[i]?=some p):
  Calls prog 173 #[.pointer (some ⟨rr,0,none⟩),nptr p.blk] w fun e w'=>e=.returned (.tuple #[])/\∃aI aO bC,qd6 w' rr bt rt r ai aI aO bC (ws.take i++ws.drop (i+1)) (as_++[p]) (evs++[(1,p.x.num)])/\Keep (LdT rr bt vw va ev) w w'/\LdN w vw va ev aI aO bC:=by
 have c1:=h.rnd.at_.cell 1;simp only[xq0,xq1,xq2]at c1;have ec:=qp2 h.bk hi;have iD:∀w1 aI aO,BkAt w1 bt r ai aI aO (ws.take i++ws.drop (i+1)) (as_++[p])->Keep (BkT bt vw va) w w1->qd6 w1 rr bt rt r ai aI aO ev (ws.take i++ws.drop (i+1)) (as_++[p]) evs:=fun w1 aI aO hb hk=>⟨hb,h.rnd.keep hk h.qg4.1 h.qg4.2⟩
 unfold nptr at ec ⊢
 go_enter func173,ntmps173
 go_wp2_with fail
 refine ec.mono ?_
 rintro e w1 ⟨rfl,aI,aO,aa,cf,dH⟩
 have h1:=iD w1 aI aO aa cf;have dy:=qnf h1.rnd hl (h1.bk.works p (by simp)) 1;clear ec iD;unfold nptr at dy
 go_wp2_with fail
 refine dy.mono ?_
 rintro e w2 ⟨rfl,bC,h2,aY,dR⟩
 have aF:=h.told h1 cf dH h2 aY dR;clear dy
 go_wp2_with fail
 go_end0
 exact⟨rfl,_,_,_,aF⟩
end
end Go.Proofs.YtphclnolomgjoaaGreatDoor
