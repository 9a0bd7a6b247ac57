import Derived.Test.YtphclnolomgjoaaGreatDoorC13
import Derived.Sort.CutIn
import Derived.Stop.RegionWithIn
import Derived.OrdersIn
set_option linter.unusedVariables false
set_option linter.unusedSimpArgs false
set_option maxRecDepth 100000
set_option maxHeartbeats 4000000
namespace Go.Proofs.YtphclnolomgjoaaGreatDoor
open Tryz
section
open Go.RowKit Go.Shelf
variable {P:Program}{lb:Array Value}{S T:Nat->Prop}{w w0:World}{b bt c gf i id j:Nat}{l ws:List Pw}{p:Pw}{nodes:List Node}{va vw:Value}{m:Node}
def SeqM {α : Type}(P:Program)(g:Nat)(lb:Array Value)(l_ : α -> Array Value)(S:Nat->Prop)(c:Nat)(T:Nat->Prop)(xs:List α)(w:World):Prop :=
 ∀(n l:Nat) (J Jx:List α -> World->Prop) (W:World),Bw w W->w.heap.size<=l->l<W.heap.size ->
  (∀s A B,J s A->Keep (fun b=>S b\/(W.heap.size<=b/\b<W.heap.size+c)) A B->J s B)->(∀s A B,Jx s A->Keep (fun b=>S b\/(W.heap.size<=b/\b<W.heap.size+c)) A B->Jx s B) ->
  (∀m pre x W1,J pre W1->W.heap.size+c<=W1.heap.size->pre++[x] <+: xs->YieldAt Fence.wide m P l (l_ x) W1 fun e W' =>
   (e=.returned (.bool true)/\J (pre++[x]) W'/\Keep (fun b=>T b\/b=l\/W.heap.size+c<=b) W1 W')\/(e=.returned (.bool false)/\Jx (pre++[x]) W'/\Keep (fun b=>T b\/b=l\/W.heap.size+c<=b) W1 W')) ->
  J [] W ->
  CallsIn Fence.wide n P g (#[.func (.yield l) #[] #[]]++lb) W fun e W'=>(∃v,e=.returned v)/\(J xs W'\/(∃pre,pre <+: xs/\Jx pre W'))
theorem qss{α : Type}{g:Nat}{enc : α -> Value}{xs:List α} 
  (hk:∀B l,w.heap.size<=B->w.heap.size<=l->SeqK P g lb enc S (fun b=>T b\/b=l\/B<=b) xs w):SeqM P g lb (fun x=>#[enc x]) S 0 T xs w:=by
 intro n l J Jx W hW hl ak hJ nJ hY h0
 refine(hk W.heap.size l hW.size hl n l (fun s A=>J s A/\W.heap.size<=A.heap.size) Jx W hW hl (fun s A B h k=>⟨hJ s A B h.1 (k.mono fun b h=>.inl h),Nat.le_trans h.2 k.size⟩) (fun s A B h k=>nJ s A B h (k.mono fun b h=>.inl h)) ?_ ⟨h0,Nat.le_refl _⟩).mono ?_
 ·intro m pre x W1 hj hp
  refine(hY m pre x W1 hj.1 hj.2 hp).mono ?_
  rintro e W' (⟨h1,h2,h3⟩|⟨h1,h2,h3⟩)
  ·exact .inl ⟨h1,⟨h2,Nat.le_trans hj.2 h3.size⟩,h3⟩
  ·exact .inr ⟨h1,h2⟩
 ·rintro e W' ⟨h1,h2⟩
  exact⟨h1,h2.imp (fun h=>h.1) id⟩
theorem qgs{α : Type}{g:Operand}{ps:Array Tmp}{assign body:Code}{Q:Exit->Act->World->Prop}{a:Act}{n:Nat}
  (hg:a.eval g=.func (.func gf) #[] lb) (eg:∀args w,(callFunc gf args).run P w=.ok (.enter gf args) w)
  {l_ : α -> Array Value} {xs:List α} (aI:SeqM P gf lb l_ S c T xs w0) (cx:Bw w0 w) (jB:∀x,(l_ x).size=ps.size)
  (hS:∀b,S b->b<w.heap.size) (hT:∀b,T b->b<w.heap.size)
  (I:List α -> World->Prop) (Ix:Code->List α -> World->Prop)
  (hI:∀s A B,I s A->Keep (fun b=>S b\/(w.heap.size<=b/\b<w.heap.size+2+c)) A B->I s B) (oS:∀c' s A B,Ix c' s A->Keep (fun b=>S b\/(w.heap.size<=b/\b<w.heap.size+2+c)) A B->Ix c' s B)
  (h0:I [] w) (a₁ : α -> Act)
  (jR:∀(l:Nat) (x : α) (W:World) (K:Act->World->Prop),K (a₁ x) W ->
   assign.wpIn (Fence.wide.inRound l) n P (Exit.then K (fun _ _ _=>False)) {tmps:=(ps.zip (l_ x)).foldl (fun t (p,v)=>t.setIfInBounds p v) a.tmps,defers:=[]} W)
  (pn:∀(l:Nat) (pre:List α) (x : α) (W:World),I pre W->w.heap.size+2+c<=W.heap.size->pre++[x] <+: xs->body.wpIn (Fence.wide.inRound l) n P (qu3 (fun b=>T b\/w.heap.size+2+c<=b) I Ix (pre++[x]) W) (a₁ x) W)
  (fZ:∀(W:World),I xs W->W.heap[w.heap.size]?=some (.deferred (some []))->Q .normal {a with defers:={target:=.collected w.heap.size,args:=#[]}::a.defers} W)
  (qa:∀(c:Code) (pre:List α) (W:World),pre <+: xs->Ix c pre W->W.heap[w.heap.size]?=some (.deferred (some []))->c.wpIn Fence.wide n P Q {a with defers:={target:=.collected w.heap.size,args:=#[]}::a.defers} W) :
  (Code.rangeFunc g ps assign body).wpIn Fence.wide n P Q a w:=by
 have cQ:∀m,Fence.wide.depth.isSome=true->1<=m:=fun m h=>by simp[Fence.wide]at h
 refine wpIn_rangeFunc fun fn _=>?_
 obtain⟨rc,jY⟩:∃rc:LoopState->Option Code->Loop,rc=fun st pe=>{state:=st,pending:=pe,fn,tmps:=a.tmps,params:=ps,assign,body,defers:=w.heap.size}:=⟨_,rfl⟩
 obtain⟨W1,eH⟩:∃W1,(w.alloc (.deferred (some []))).alloc (.loop (rc .ready none))=W1:=⟨_,rfl⟩;have wm:W1.heap[w.heap.size+1]?=some (.loop (rc .ready none)):=by
  rw[<-eH];have:=World.alloc_heap_new (w.alloc (.deferred (some []))) (.loop (rc .ready none));rwa[xrt]at this
 have eu:W1.heap[w.heap.size]?=some (.deferred (some [])):=by
  rw[<-eH];exact(Below.heap_alloc _ _ _ (by simp)).trans (World.alloc_heap_new w _)
 have cJ:W1.heap.size=w.heap.size+2:=by rw[<-eH];simp
 have cn:Bw w W1:=by rw[<-eH];exact((Below.refl _ w).alloc (Nat.le_refl _) _).alloc (by simp) _
 have xQ:I [] W1:=hI _ _ _ h0 (Keep.new cn);have aa:Bw w0 W1:=cx.trans (cn.mono cx.size);have gi:∀ {A B:World} {k:Nat} {o:Obj},Keep (fun b=>S b\/(W1.heap.size<=b/\b<W1.heap.size+c)) A B->w.heap.size<=k->k<w.heap.size+2->A.heap[k]?=some o->B.heap[k]?=some o:=fun {A B k o} hk dV ak ho=>by
  rw[hk.block k (xrc.1 ho).1 (fun hs=>by
   rcases hs with hs|hs
   ·have:=hS k hs;omega
   ·omega)];exact ho
 have Gd:∀b,S b\/(W1.heap.size<=b/\b<W1.heap.size+c)->S b\/(w.heap.size<=b/\b<w.heap.size+2+c):=fun b h=>h.imp id (fun h=>by omega)
 refine⟨w.heap.size+1,[{target:=.collected w.heap.size,args:=#[]}],W1,{target:=.fn (.func gf) lb,args:=#[.func (.yield (w.heap.size+1)) #[] #[]]},W1,gf,
  #[.func (.yield (w.heap.size+1)) #[] #[]]++lb,W1,?_,?_,?_,?_,cQ _,?_⟩
 ·rw[<-eH,jY];exact run_enterLoop_outer _ _ _ _ _
 ·simp only[resolve,hg];simp[go_sem]
 ·intro f' _;trivial
 ·simp[invoke,go_sem,eg]
 refine(aI (n-1) (w.heap.size+1)
  (fun pre W=>I pre W/\W.heap[w.heap.size+1]?=some (.loop (rc .ready none))/\W.heap[w.heap.size]?=some (.deferred (some [])))
  (fun pre W=>∃c,Ix c pre W/\W.heap[w.heap.size+1]?=some (.loop (rc .done (some c)))/\W.heap[w.heap.size]?=some (.deferred (some [])))
  W1 aa (by have:=cx.size;omega) (by omega)
  (fun s A B hs hk=>⟨hI s A B hs.1 (hk.mono Gd),gi hk (by omega) (by omega) hs.2.1,gi hk (by omega) (by omega) hs.2.2⟩)
  (fun s A B hs hk=>by
   obtain⟨c,h1,h2,h3⟩:=hs
   exact⟨c,oS c s A B h1 (hk.mono Gd),gi hk (by omega) (by omega) h2,gi hk (by omega) (by omega) h3⟩)
  ?_ ⟨xQ,wm,eu⟩).mono ?_
 ·rintro m pre x W ⟨hi,hl,hk⟩ C8 aC
  rw[cJ]at C8;have ak:w.heap.size+1<W.heap.size:=(xrc.1 hl).1;have hy:=run_yield (P:=P) (args:=(l_ x)) hl (by rw[jY];exact jB x);rw[jY]at hy
  refine⟨fn,_,assign,body,hy,?_⟩
  obtain⟨Wb,nM⟩:∃Wb,W.putObj (w.heap.size+1) (.loop {rc .ready none with state:=.busy})=Wb:=⟨_,rfl⟩;have Dr:Keep (fun b=>T b\/b=w.heap.size+1\/W1.heap.size+c<=b) W Wb:=by rw[<-nM];exact(Keep.refl _ _).putObj (.inr (.inl rfl)) _
  have uO:Keep (fun b=>S b\/(w.heap.size<=b/\b<w.heap.size+2+c)) W Wb:=by rw[<-nM];exact(Keep.refl _ _).putObj (.inr (by omega)) _
  have gx:Wb.heap[w.heap.size+1]?=some (.loop {rc .ready none with state:=.busy}):=by rw[<-nM];exact World.putObj_heap_same ak
  have bM:Wb.heap[w.heap.size]?=some (.deferred (some [])):=by rw[<-nM];exact(World.putObj_heap_other (by omega)).trans hk
  have iW:RoundIn Fence.wide n P (w.heap.size+1) fn ((ps.zip (l_ x)).foldl (fun t (p,v)=>t.setIfInBounds p v) a.tmps) assign body W fun e W' =>
    (e=.returned (.bool true)/\(I (pre++[x]) W'/\W'.heap[w.heap.size+1]?=some (.loop (rc .ready none))/\W'.heap[w.heap.size]?=some (.deferred (some [])))/\Keep (fun b=>T b\/b=w.heap.size+1\/W1.heap.size+c<=b) W W') \/
    (e=.returned (.bool false)/\(∃c,Ix c (pre++[x]) W'/\W'.heap[w.heap.size+1]?=some (.loop (rc .done (some c)))/\W'.heap[w.heap.size]?=some (.deferred (some [])))/\Keep (fun b=>T b\/b=w.heap.size+1\/W1.heap.size+c<=b) W W'):=by
   refine roundIn_of_wpIn trivial (jR _ x W _ ⟨Wb,by rw[<-nM];exact run_beginRound hl (by rw[jY]),?_⟩)
   have dk:w.heap.size+2+c<=Wb.heap.size:=by rw[<-nM];simp;omega
   refine wpIn_mono (pn _ pre x Wb (hI _ _ _ hi uO) dk aC) ?_
   have fin:∀(gQ:Option Code) (W3:World),Keep (fun b=>T b\/w.heap.size+2+c<=b) Wb W3 ->
     ∃W4,(Instr.endRound (w.heap.size+1) gQ).run P W3=.ok (.bool gQ.isNone) W4/\Keep (fun b=>S b\/(w.heap.size<=b/\b<w.heap.size+2+c)) W3 W4/\Keep (fun b=>T b\/b=w.heap.size+1\/W1.heap.size+c<=b) W W4 /\
     W4.heap[w.heap.size+1]?=some (.loop (rc (if gQ.isNone then .ready else .done) gQ))/\W4.heap[w.heap.size]?=some (.deferred (some [])):=fun gQ W3 dZ=>by
    have uQ:W3.heap[w.heap.size+1]?=some (.loop {rc .ready none with state:=.busy}):=by
     rw[dZ.block _ (xrc.1 gx).1 (fun ht=>by
      rcases ht with ht|ht
      ·have:=hT _ ht;omega
      ·omega)];exact gx
    have yr:W3.heap[w.heap.size]?=some (.deferred (some [])):=by
     rw[dZ.block _ (xrc.1 bM).1 (fun ht=>by
      rcases ht with ht|ht
      ·have:=hT _ ht;omega
      ·omega)];exact bM
    have hr:=run_endRound (P:=P) gQ uQ
    refine⟨_,hr,(Keep.refl _ _).putObj (.inr (by omega)) _,(Dr.trans (dZ.mono fun b h=>h.imp id (fun h=>.inr (by omega)))).putObj (.inr (.inl rfl)) _,?_,(World.putObj_heap_other (by omega)).trans yr⟩
    rw[World.putObj_heap_same (xrc.1 uQ).1,jY]
   rintro e a3 W3 hp
   cases e with
   |normal =>
    obtain⟨dZ,lk⟩:=hp;obtain⟨W4,hr,lW,ob,iN,mu⟩:=fin none W3 dZ
    exact⟨_,_,hr,.inl ⟨rfl,⟨hI _ _ _ lk lW,iN,mu⟩,ob⟩⟩
   |ret =>
    obtain⟨dZ,lk⟩:=hp;obtain⟨W4,hr,lW,ob,iN,mu⟩:=fin (some .ret) W3 dZ
    exact⟨_,_,hr,.inr ⟨rfl,⟨.ret,oS _ _ _ _ lk lW,iN,mu⟩,ob⟩⟩
   |exit id =>
    obtain⟨dZ,lk⟩:=hp;obtain⟨W4,hr,lW,ob,iN,mu⟩:=fin (some (.exit id)) W3 dZ
    exact⟨_,_,hr,.inr ⟨rfl,⟨.exit id,oS _ _ _ _ lk lW,iN,mu⟩,ob⟩⟩
   |goto t =>
    obtain⟨dZ,lk⟩:=hp;obtain⟨W4,hr,lW,ob,iN,mu⟩:=fin (some (.goto t)) W3 dZ
    exact⟨_,_,hr,.inr ⟨rfl,⟨.goto t,oS _ _ _ _ lk lW,iN,mu⟩,ob⟩⟩
   |panic ch=>exact hp.elim
   |outgrown=>exact hp.elim
  exact⟨iW.1,fun c cs _=>iW.2 c cs (room_wide _)⟩
 ·rintro e W2 ⟨⟨v,rfl⟩,(⟨hi,hl,hk⟩|⟨pre,aC,c,hi,hl,hk⟩)⟩
  ·exact⟨none,_,by have:=run_endLoop (P:=P) hl (by rw[jY];simp);rw[jY]at this;exact this,
    fZ _ (hI _ _ _ hi ((Keep.refl _ _).putObj (.inr (by omega)) _)) ((World.putObj_heap_other (by omega)).trans hk)⟩
  ·exact⟨some c,_,by have:=run_endLoop (P:=P) hl (by rw[jY];simp);rw[jY]at this;exact this,
    qa c pre _ aC (oS _ _ _ _ hi ((Keep.refl _ _).putObj (.inr (by omega)) _)) ((World.putObj_heap_other (by omega)).trans hk)⟩
attribute [local go_sem] Oper.semAt_some
def qa4 (l:List Pw)(b:Nat):List Pw:=l.filter fun p=>p.q == b
theorem qia(hj:l[j]?=some p):qa4 (l.take (j+1)) b=qa4 (l.take j) b++(if p.q == b then [p] else []):=by
 obtain⟨hl,rfl⟩:=xr0.1 hj;unfold qa4;rw[xrf hl,List.filter_append]
 simp[xrz]
theorem qpy(hj:l[j]?=some p)(hb:(p.q == b)=true):qa4 (l.take j) b++[p] <+: qa4 l b:=by
 have h:=qia (b:=b) hj;rw[if_pos hb]at h;rw[<-h];unfold qa4
 exact List.IsPrefix.filter _ (List.take_prefix _ _)
theorem qn4(hN:∀n∈nodes,qan w n)(hc:w.cell? (vA bt 2)=some vw)(hW:WRow w vw ws)(an:ws.length<=100)(fu:∀p∈ws,∃n∈nodes,n.blk=p.q)(hm:m∈nodes):
  Cl 156 #[.pointer (some (vA bt 1)),nptr m.blk] w fun e w'=>e=.returned (.func (.func 198) #[] #[vP w.heap.size,vP (w.heap.size+1)])/\w'=(w.alloc (.cells #[.pointer (some (vA bt 1))] 132)).alloc (.cells #[nptr m.blk] 97) /\
   ∀Tm:Nat->Prop,(∀n∈nodes,¬Tm n.blk/\∀g,n.sl.ownBlock=some g->¬Tm g)->¬Tm bt->(∀b,vw.ownBlock=some b->¬Tm b)->(∀p∈ws,¬Tm p.blk)->¬Tm w.heap.size->¬Tm (w.heap.size+1) ->
    SeqK prog 198 #[vP w.heap.size,vP (w.heap.size+1)] (fun p:Pw=>nptr p.blk) (fun _=>False) Tm (qa4 ws m.blk) w':=by
 have nT:∀(fn:Fn) (first cap:Array Value) (w:World),(Instr.makeFunc fn first cap).run prog w=.ok (.func fn first cap) w:=fun _ _ _ _=>rfl
 have key:∀Tm:Nat->Prop,(∀n∈nodes,¬Tm n.blk/\∀g,n.sl.ownBlock=some g->¬Tm g)->¬Tm bt->(∀b,vw.ownBlock=some b->¬Tm b)->(∀p∈ws,¬Tm p.blk)->¬Tm w.heap.size->¬Tm (w.heap.size+1) ->
   SeqK prog 198 #[vP w.heap.size,vP (w.heap.size+1)] (fun p:Pw=>nptr p.blk) (fun _=>False) Tm (qa4 ws m.blk) ((w.alloc (.cells #[.pointer (some (vA bt 1))] 132)).alloc (.cells #[nptr m.blk] 97)):=by
  intro Tm hT wz xZ II gw jb k l J Jx W eI hl hJ nJ hY h0;have b_:∀k:Nat,Fence.wide.depth.isSome=true->1<=k:=fun k h=>by simp[Fence.wide]at h
  have cx:Bw w W:=qac (show Bw w ((w.alloc (.cells #[.pointer (some (vA bt 1))] 132)).alloc (.cells #[nptr m.blk] 97)) by exact bel2) eI;have oj:∀n∈nodes,qan W n:=fun n hn=>(hN n hn).below cx
  have x1:Box W w.heap.size 132 (.pointer (some (vA bt 1))):=((Box.new w 132 _).alloc _).below eI (by simp;omega);have x2:Box W (w.heap.size+1) 97 (nptr m.blk):=by
   have:=(Box.new (w.alloc (.cells #[.pointer (some (vA bt 1))] 132)) 97 (nptr m.blk)).below eI (by simp)
   rwa[xrt]at this
  have dx:bt<w.heap.size:=by have:=xrb w _ hc;simpa using this
  have c2:W.cell? (vA bt 2)=some vw:=(cx.cell (p:=vA bt 2) dx).trans hc;have FK:WRow W vw ws:=⟨qab (T:=fun _=>False) hW.row (Keep.new cx) (fun _ _ e=>e),fun p hp=>(hW.works p hp).below cx (hW.works p hp).lt⟩;have c1:=x1.cell;obtain⟨a0,cap,hv,_,_⟩:=qbe hW.row;obtain⟨n,hn⟩:∃n,n=ws.length:=⟨_,rfl⟩;rw[<-hn]at an hv;rw[hv]at c2;have HN:Hid (n=ws.length):=hn;have HV:Hid (vw=.slice a0 n cap):=hv;clear hn hv
  refine callsIn_of_wp func198 rfl trivial ?_ rfl
  simp only[ntmps198,List.size_toArray,List.length_cons,List.length_nil,Nat.reduceAdd,Nat.reduceSub,Array.replicate_succ,Array.replicate_zero,List.push_toArray,List.append_toArray,List.nil_append,List.cons_append]
  gi_wp2
  gi_loopw [11] (fun i wr=>∃j:Nat,i=vI j/\j<=n/\J (qa4 (ws.take j) m.blk) wr/\Keep Tm W wr) (fun i _=>n-(intOf i).toNat)
  case atStart=>exact⟨0,rfl,Nat.zero_le _,by simpa [qa4] using h0,Keep.refl _ _⟩
  case round =>
   obtain⟨j,rfl,hj,nc,jr⟩:=hrel;have tS:=qel hT oj jr
   by_cases ak:j<n
   ·obtain⟨p,hp⟩:∃p,ws[j]?=some p:=⟨_,xr1 (by rw[<-HN.out];exact ak)⟩;have dM:p∈ws:=xr2 hp;obtain⟨nn,ju,gz⟩:=fu p dM;have au:WRow wr vw ws:=⟨qab FK.row jr (fun b hb=>xZ b hb),fun q hq=>(FK.works q hq).keep jr (II q hq)⟩;obtain⟨g,hg⟩:∃g,a0=some (vA g 0):=by
     obtain⟨g,eD,dg,_⟩:=qat au.row (Nat.lt_of_le_of_lt (Nat.zero_le _) (xr0.1 hp).1)
     have:=HV.out;rw[dg]at this;injection this with e1;exact⟨g,e1.symm⟩
    subst hg;have bZ:wr.cell? (vA g j)=some (vP p.blk):=by
     have:=au.row.cells (g:=g) (by rw[HV.out];rfl) j (nptr p.blk) (by unfold qay;rw[xrs,hp];rfl)
     rwa[Addr.add_lit,Nat.zero_add]at this
    have gO:wr.cell? (vA p.blk 1)=some (vP p.q):=(au.works p dM).cell 1;have k2:wr.cell? (vA (w.heap.size+1) 0)=some (vP m.blk):=(x2.keep jr jb).cell;have kY:∀W',Bw wr W'->(binOp .eql 97 (vP p.q) (vP m.blk)).run prog W'=.ok (.bool (p.q == m.blk)) W':=fun W' bI=>by
     rw[<-gz];exact qut ((tS nn ju).below bI) ((tS m hm).below bI)
    have yv:=kY wr (Below.refl _ _);have yw:=kY wr.drew (by exact bel2);have yy:=fun nq=>kY (wr.drewN nq) (xrm (Below.refl _ _) nq)
    have ku:Hid (qa4 (ws.take (j+1)) m.blk=qa4 (ws.take j) m.blk++(if p.q == m.blk then [p] else [])):=qia hp;have B6:Hid ((p.q == m.blk)=true->qa4 (ws.take j) m.blk++[p] <+: qa4 ws m.blk):=fun e=>qpy hp e
    have oq:(j:Int)<n:=by omega
    have uH:(0:Int)<=j:=by omega
    generalize iE:(p.q == m.blk)=be at kY yv yw yy ku B6;clear hp h0 iE kY
    cases be
    ·have HJ:Hid (J (qa4 (ws.take (j+1)) m.blk) wr):=by rw[ku.out];simp only[Bool.false_eq_true,if_false,List.append_nil];exact nc
     clear nc hY
     gi_upto_region 3 with fail
     refine wpIn_wide.2 ?_
     go_quiet (fail)
     gi_wp2_with fail
     go_roundw
     case rel=>exact⟨j+1,by go_num,by omega,hJ _ _ _ HJ.out ((Keep.refl _ _).drewN nq),jr.drewN nq⟩
     case measure=>simp[intOf];omega
    ·have om:=B6.out rfl;obtain⟨fn,tmps,assign,body,hy,hR⟩:=hY (k-1) _ p wr.drew (hJ _ _ _ nc (Keep.refl _ _).drew) om;have eh:=hR.mono (R':=fun e W'=>∃t:Bool,e=.returned (.bool t)/\((t=true/\J (qa4 (ws.take j) m.blk++[p]) W'/\Keep Tm wr W')\/(t=false/\Jx (qa4 (ws.take j) m.blk++[p]) W')))
      (fun e W' h=>h.elim (fun ⟨he,hj,hk⟩=>⟨true,he,.inl ⟨rfl,hj,(Keep.refl _ _).drew.trans hk⟩⟩) (fun ⟨he,hj⟩=>⟨false,he,.inr ⟨rfl,hj⟩⟩))
     clear hR hY nc B6 yy;unfold nptr at hy
     gi_upto_region 3 with fail
     gi_region_with (refine⟨b_ _,?_⟩;refine eh.mono ?_;clear eh;rintro e W2 ⟨t,rfl,hP⟩)
     all_goals gi_wp2_with fail
     all_goals rename_i ht
     ·have:t=false:=by simpa using ht
      subst this
      refine xrn (results_none rfl _ _ _) rfl ?_
      exact⟨⟨_,rfl⟩,.inr ⟨_,om,(hP.resolve_left (by simp)).2⟩⟩
     ·have:t=true:=by simpa using ht
      subst this;obtain⟨_,nI,bM⟩:=hP.resolve_right (by simp)
      refine⟨⟨j+1,by go_num,by omega,?_,jr.trans bM⟩,by simp[intOf];omega⟩
      rw[ku.out,if_pos trivial];exact nI
     ·have:t=false:=by simpa using ht
      subst this
      refine xrn (results_none rfl _ _ _) rfl ?_
      exact⟨⟨_,rfl⟩,.inr ⟨_,om,(hP.resolve_left (by simp)).2⟩⟩
     ·have:t=true:=by simpa using ht
      subst this;obtain⟨_,nI,bM⟩:=hP.resolve_right (by simp)
      refine⟨⟨j+1,by go_num,by omega,?_,jr.trans bM⟩,by simp[intOf];omega⟩
      rw[ku.out,if_pos trivial];exact nI
   ·gi_wp2
    go_end0
    have iL:ws.take j=ws:=xrd (by rw[<-HN.out];omega);rw[iL]at nc
    exact⟨⟨_,rfl⟩,.inl nc⟩
 unfold nptr at key ⊢
 go_enter func156,ntmps156
 go_wp2
 go_ret
 exact⟨rfl,rfl,key⟩
attribute [local go_sem] Oper.semAt_some
def qbl (ws:List Pw)(b:Nat):Option Pw:=ws.find? fun p=>p.q == b
theorem qtl(ws:List Pw)(b:Nat):qbl ws b=(qa4 ws b).head?:=by
 unfold qbl qa4;rw[List.head?_filter]
theorem qrb(hN:∀n∈nodes,qan w n)(hc:w.cell? (vA bt 2)=some vw)(hW:WRow w vw ws)(an:ws.length<=100)(fu:∀p∈ws,∃n∈nodes,n.blk=p.q)(hm:m∈nodes):
  Cl 174 #[.pointer (some (vA bt 1)),nptr m.blk] w fun e w'=>e=.returned (optP (qbl ws m.blk))/\Bw w w':=by
 have b_:∀k:Nat,Fence.wide.depth.isSome=true->1<=k:=fun k h=>by simp[Fence.wide]at h
 have dx:bt<w.heap.size:=by have:=xrb w _ hc;simpa using this
 have ga:∀W,Bw w W->_:=fun W hB=>qn4 (w:=W) (fun n hn=>(hN n hn).below hB) ((hB.cell (p:=vA bt 2) dx).trans hc) ⟨qab (T:=fun _=>False) hW.row (Keep.new hB) (fun _ _ e=>e),fun p hp=>(hW.works p hp).below hB (hW.works p hp).lt⟩ an fu hm
 have DY:=fun b (hb:vw.ownBlock=some b)=>qal hW.row hb
 have fN:=fun p (hp:p∈ws)=>(hW.works p hp).lt
 rw[qtl];generalize hX:qa4 ws m.blk=X at ga ⊢;clear hX
 refine(xrv (n:=3)).1 ?_
 refine callsIn_of_wp_marks func174 rfl trivial ?_ rfl
 unfold nptr at ga ⊢;simp only[ntmps174,List.size_toArray,List.length_cons,List.length_nil,Nat.reduceAdd,Nat.reduceSub,Array.replicate_succ,Array.replicate_zero,List.push_toArray,List.append_toArray,List.nil_append,List.cons_append]
 gi_wp2_with ((first|refine⟨trivial,b_ _,?_⟩|refine⟨trivial,?_⟩);gi_at_call 156;refine(xrv.2 (ga _ (by exact bel1))).mono ?_;rintro e W ⟨rfl,rfl,aI⟩)
 obtain⟨W,bJ⟩:∃W,W=(((w.alloc (.cells #[.pointer none] 95)).alloc (.cells #[.pointer (some (vA bt 1))] 132)).alloc (.cells #[vP m.blk] 97)):=⟨_,rfl⟩;have dk:W.heap.size=w.heap.size+3:=by rw[bJ];simp
 have e2:(w.alloc (.cells #[.pointer none] 95)).heap.size=w.heap.size+1:=by simp
 have cx:Box W w.heap.size 95 (.pointer none):=by rw[bJ];exact((Box.new w 95 _).alloc _).alloc _
 have cn:Bw w W:=by rw[bJ];exact bel1
 rw[e2]at aI;simp only[<-bJ]at aI ⊢;have hq:=aI (fun b=>b=w.heap.size\/W.heap.size<=b) (fun k hk=>⟨fun h=>by have:=(hN k hk).lt;omega,fun g hg h=>by have:=((hN k hk).row.lt g hg).2;omega⟩) (by omega) (fun b hb h=>by have:=DY b hb;omega) (fun p hp h=>by have:=fN p hp;omega) (by omega) (by omega);clear aI ga e2 bJ;have a7:∀b,b<W.heap.size->¬(False\/W.heap.size<=b):=fun b hb h=>by rcases h with h|h;exact h;omega
 refine qgy (T:=fun b=>b=w.heap.size) (S:=fun _=>False) rfl (enters_of func198 (by kernel_rfl) rfl) hq (Below.refl _ _) rfl (fun b h=>h.elim) (fun b h=>by omega)
  (fun pre A=>pre=[]/\Box A w.heap.size 95 (.pointer none)/\Bw w A)
  (fun c pre A=>c=.ret/\∃p,pre=[p]/\Box A w.heap.size 95 (vP p.blk)/\Bw w A)
  (fun pre A B hs hk=>⟨hs.1,hs.2.1.keep hk (a7 _ (by omega)),hs.2.2.trans (hk.toBelow hs.2.2.size (fun b aZ=>a7 b (by omega)))⟩)
  (fun c pre A B hs hk=>by
   obtain⟨h1,p,h2,h3,h4⟩:=hs
   exact⟨h1,p,h2,h3.keep hk (a7 _ (by omega)),h4.trans (hk.toBelow h4.size (fun b aZ=>a7 b (by omega)))⟩)
  ⟨rfl,cx,cn⟩
  (fun x=>{tmps:=#[.pointer (some (vA bt 1)),vP m.blk,undef,undef,vP w.heap.size,vP x.blk,.pointer (some (vA bt 1)),vP m.blk,
   .func (.func 198) #[] #[vP (w.heap.size+1),vP (w.heap.size+1+1)],vP x.blk,undef],defers:=[]}) ?assign ?body ?done ?stop
 case assign =>
  intro l x W K hK
  gi_wp2
  exact hK
 case body =>
  rintro l pre x W2 ⟨a8,bC,ae⟩ gP aC
  have hc:=bC.cell;have hf:=bC.frozen;have cO:Hid (pre=[]):=a8;clear a8
  gi_wp2
  exact⟨(Keep.refl (fun b=>b=w.heap.size) _).setCell (p:=vA w.heap.size 0) rfl _,rfl,x,by rw[cO.out];rfl,bC.set _,ae.setCell (by simp) _⟩
 case done =>
  rintro A ⟨a8,bC,ae⟩ hD
  have hc:=bC.cell;have hf:=bC.frozen;have cO:Hid (X=[]):=a8;clear a8
  gi_wp2
  have jl:(A.setCell (vA w.heap.size 0) (.pointer none)).heap[W.heap.size]?=some (.deferred (some [])):=(Below.heap_setCell _ _ _ _ (by simp;omega)).trans hD;have af:=((bC.set (.pointer none)).put W.heap.size (.deferred none) (by omega)).cell
  refine⟨by simp,.inl ⟨_,_,rfl,run_takeDeferred jl,?_⟩⟩
  refine⟨.pointer none,by simp[results,results174,go_sem,af],?_,qa8 (ae.setCell (by simp) _) _ _ (by omega)⟩
  rw[cO.out];rfl
 case stop =>
  rintro c pre A aC ⟨rfl,p,hv,bC,ae⟩ hD
  gi_wp2
  have af:=(bC.put W.heap.size (.deferred none) (by omega)).cell
  refine⟨by simp,.inl ⟨_,_,rfl,run_takeDeferred hD,?_⟩⟩
  refine⟨vP p.blk,by simp[results,results174,go_sem,af],?_,qa8 ae _ _ (by omega)⟩
  subst hv;obtain⟨t,rfl⟩:=aC
  rfl
attribute [local go_sem] Oper.semAt_some
def qj3 (l:List Pw):List (Pw×Nat):=l.zipIdx.reverse
theorem qru(l:List Pw):(qj3 l).map Prod.fst=l.reverse:=by
 unfold qj3;rw[List.map_reverse];simp
theorem qtx(hj:l[j]?=some p):(l.zipIdx.drop j).reverse=(l.zipIdx.drop (j+1)).reverse++[(p,j)]:=by
 obtain⟨hl,rfl⟩:=xr0.1 hj;rw[List.drop_eq_getElem_cons (by simpa using hl)]
 simp
theorem qqq(l:List Pw)(j:Nat):(l.zipIdx.drop j).reverse <+: qj3 l:=by
 unfold qj3;rw[List.reverse_prefix]
 exact List.drop_suffix _ _
theorem qt7(hA:WRow w va l)(an:l.length<=100):
  Calls prog 239 #[va] w fun e w'=>e=.returned (.func (.func 247) #[] #[.pointer (some ⟨w.heap.size,0,none⟩)])/\w'=w.alloc (.cells #[va] 98) /\
   ∀T:Nat->Prop,(∀b,va.ownBlock=some b->¬T b)->¬T w.heap.size ->
    SeqM prog 247 #[.pointer (some ⟨w.heap.size,0,none⟩)] (fun p:Pw×Nat=>#[.int .i64 p.2,nptr p.1.blk]) (fun _=>False) 0 T (qj3 l) w':=by
 have nT:∀(fn:Fn) (first cap:Array Value) (w:World),(Instr.makeFunc fn first cap).run prog w=.ok (.func fn first cap) w:=fun _ _ _ _=>rfl
 have key:∀T:Nat->Prop,(∀b,va.ownBlock=some b->¬T b)->¬T w.heap.size ->
    SeqM prog 247 #[.pointer (some ⟨w.heap.size,0,none⟩)] (fun p:Pw×Nat=>#[.int .i64 p.2,nptr p.1.blk]) (fun _=>False) 0 T (qj3 l) (w.alloc (.cells #[va] 98)):=by
  intro T xZ gw k ll J Jx W eI hl Gb hJ nJ hY h0;have b_:∀k:Nat,Fence.wide.depth.isSome=true->1<=k:=fun k h=>by simp[Fence.wide]at h
  have cx:Below w.heap.size w W:=qac (show Below w.heap.size w (w.alloc (.cells #[va] 98)) by exact bel2) eI;have x1:Box W w.heap.size 98 va:=(Box.new w 98 _).below eI (by simp);have n8:w.heap.size<W.heap.size:=x1.lt;have Iz:W.ownsRow 0 95 1 va l.length (qay l):=qab (T:=fun _=>False) hA.row (Keep.new cx) (fun _ _ e=>e);have C2:∀b,va.ownBlock=some b->¬(T b\/b=ll\/W.heap.size+0<=b):=fun b hb e=>by
   have:=qal hA.row hb
   simp at hl
   rcases e with e|e|e
   ·exact xZ b hb e
   ·omega
   ·omega
  have C1:¬(T w.heap.size\/w.heap.size=ll\/W.heap.size+0<=w.heap.size):=fun e=>by
   simp at hl
   rcases e with e|e|e
   ·exact gw e
   ·omega
   ·omega
  have c1:=x1.cell;obtain⟨a0,cap,hv,cr,jd⟩:=qbe hA.row;obtain⟨n,hn⟩:∃n,n=l.length:=⟨_,rfl⟩;rw[<-hn]at an hv cr;have HN:Hid (n=l.length):=hn;have HV:Hid (va=.slice a0 n cap):=hv;rw[hv]at c1;clear hn hv
  refine callsIn_of_wp func247 rfl trivial ?_ rfl
  simp only[ntmps247,List.size_toArray,List.length_cons,List.length_nil,Nat.reduceAdd,Nat.reduceSub,Array.replicate_succ,Array.replicate_zero,List.push_toArray,List.append_toArray,List.nil_append,List.cons_append]
  gi_wp2
  gi_loopg [3] n (fun q v wr=>∃j:Nat,v=.int .i64 ((j:Int)-1)/\j<=n/\j<=q/\J (l.zipIdx.drop j).reverse wr/\W.heap.size<=wr.heap.size/\Keep (fun b=>T b\/b=ll\/W.heap.size+0<=b) W wr)
  case atStart=>exact⟨n,rfl,Nat.le_refl _,Nat.le_refl _,by rw[List.drop_of_length_le (by simp[HN.out])];exact h0,Nat.le_refl _,Keep.refl _ _⟩
  case round =>
   obtain⟨j,rfl,hj,hq,nc,dk,jr⟩:=hrel
   by_cases hj0:j=0
   ·subst hj0
    gi_wp2
    go_end0
    exact⟨⟨_,rfl⟩,.inl (by simpa [qj3] using nc)⟩
   ·obtain⟨i,rfl⟩:∃i,j=i+1:=⟨j-1,by omega⟩;obtain⟨p,hp⟩:∃p,l[i]?=some p:=⟨_,xr1 (by rw[<-HN.out];omega)⟩;have au:=qab Iz jr C2;obtain⟨g,hg⟩:∃g,a0=some ⟨g,0,none⟩:=by
     obtain⟨g,eD,dg,_⟩:=qat au (Nat.lt_of_le_of_lt (Nat.zero_le _) (xr0.1 hp).1)
     have:=HV.out;rw[dg]at this;injection this with e1;exact⟨g,e1.symm⟩
    subst hg;have bZ:wr.cell? ⟨g,i,none⟩=some (.pointer (some ⟨p.blk,0,none⟩)):=by
     have:=au.cells (g:=g) (by rw[HV.out];rfl) i (nptr p.blk) (by unfold qay;rw[xrs,hp];rfl)
     rwa[Addr.add_lit,Nat.zero_add]at this
    have k1:wr.cell? ⟨w.heap.size,0,none⟩=some (.slice (some ⟨g,0,none⟩) n cap):=by rw[<-HV.out];exact(x1.keep jr C1).cell
    have ku:Hid ((l.zipIdx.drop i).reverse=(l.zipIdx.drop (i+1)).reverse++[(p,i)]):=qtx hp;have om:(l.zipIdx.drop (i+1)).reverse++[(p,i)] <+: qj3 l:=by rw[<-ku.out];exact qqq l i
    obtain⟨fn,tmps,assign,body,hy,hR⟩:=hY (k-1) _ (p,i) wr nc (by omega) om;have oq:(i:Int)<n:=by omega
    have uH:(0:Int)<=i:=by omega
    have aF:((i+1:Nat):Int)-1=(i:Int):=by omega
    rw[aF];clear hY hp h0;unfold nptr at hy
    gi_wp2_with (refine⟨b_ _,?_⟩;refine hR.mono ?_;clear hR;rintro e W2 (⟨rfl,nI,bM⟩|⟨rfl,ke,bM⟩))
    ·gi_roundg i
     case measure=>omega
     case rel=>exact⟨i,by go_num,by omega,Nat.le_refl _,by rw[ku.out];exact nI,Nat.le_trans dk bM.size,jr.trans bM⟩
    ·refine xrn (results_none rfl _ _ _) rfl ?_
     exact⟨⟨_,rfl⟩,.inr ⟨_,om,ke⟩⟩
 obtain⟨a0,cap,hv,_,_⟩:=qbe hA.row;rw[hv]at key ⊢;unfold nptr at key ⊢
 go_enter func239,ntmps239
 go_wp2
 go_ret
 exact⟨rfl,rfl,key⟩
theorem qo5(hc:w.cell? (vA bt 3)=some va)(hA:WRow w va l)(an:l.length<=100):
  Cl 230 #[.pointer (some (vA bt 1))] w fun e w'=>e=.returned (.func (.func 238) #[] #[vP w.heap.size])/\w'=w.alloc (.cells #[.pointer (some (vA bt 1))] 132) /\
   ∀T:Nat->Prop,(∀b,T b->b<w.heap.size)->¬T bt->(∀b,va.ownBlock=some b->¬T b) ->
    SeqM prog 238 #[vP w.heap.size] (fun p:Pw=>#[nptr p.blk]) (fun _=>False) 4 T l.reverse w':=by
 have nT:∀(fn:Fn) (first cap:Array Value) (w:World),(Instr.makeFunc fn first cap).run prog w=.ok (.func fn first cap) w:=fun _ _ _ _=>rfl
 have key:∀T:Nat->Prop,(∀b,T b->b<w.heap.size)->¬T bt->(∀b,va.ownBlock=some b->¬T b) ->
    SeqM prog 238 #[vP w.heap.size] (fun p:Pw=>#[nptr p.blk]) (fun _=>False) 4 T l.reverse (w.alloc (.cells #[.pointer (some (vA bt 1))] 132)):=by
  intro T tY wz xZ k ll J Jx W eI hl Gb hJ nJ hY h0;have b_:∀k:Nat,Fence.wide.depth.isSome=true->1<=k:=fun k h=>by simp[Fence.wide]at h
  have cx:Bw w W:=qac (show Bw w (w.alloc (.cells #[.pointer (some (vA bt 1))] 132)) by exact bel2) eI;have x1:Box W w.heap.size 132 (.pointer (some (vA bt 1))):=(Box.new w 132 _).below eI (by simp);have n8:w.heap.size<W.heap.size:=x1.lt;have dx:bt<w.heap.size:=by have:=xrb w _ hc;simpa using this
  have kH:w.heap.size+1<=ll:=by simpa using hl
  have JJ:=fun b (hb:va.ownBlock=some b)=>qal hA.row hb
  have pf:=fun W' (bI:Bw w W')=>qt7 (w:=W') ⟨qab (T:=fun _=>False) hA.row (Keep.new bI) (fun _ _ e=>e),fun p hp=>(hA.works p hp).below bI (hA.works p hp).lt⟩ an
  have c1:=x1.cell;have c3:W.cell? (vA bt 3)=some va:=(cx.cell (p:=vA bt 3) dx).trans hc;have cQ:¬(bt=W.heap.size):=by omega
  have da:¬(w.heap.size=W.heap.size):=by omega
  have rH:=qru l;obtain⟨a0,cap,hv,_,_⟩:=qbe hA.row;have HV:Hid (va=.slice a0 l.length cap):=hv;obtain⟨n,hn⟩:∃n,n=l.length:=⟨_,rfl⟩;rw[<-hn]at hv;clear hn;subst hv;have Hw:(W.alloc (.cells #[.func (.yield ll) #[] #[]] 232)).cell? (vA bt 3)=some (.slice a0 n cap):=(World.cell?_alloc_lt _ _ _ (by simp;omega)).trans c3;have wg:(W.alloc (.cells #[.func (.yield ll) #[] #[]] 232)).cell? (vA w.heap.size 0)=some (.pointer (some (vA bt 1))):=(World.cell?_alloc_lt _ _ _ (by simp;omega)).trans c1;clear hc c1 c3;generalize hX:qj3 l=X at pf rH;clear hX
  refine callsIn_of_wp_marks func238 rfl trivial ?_ rfl
  simp only[ntmps238,List.size_toArray,List.length_cons,List.length_nil,Nat.reduceAdd,Nat.reduceSub,Array.replicate_succ,Array.replicate_zero,List.push_toArray,List.append_toArray,List.nil_append,List.cons_append]
  gi_wp2_with ((first|refine⟨trivial,b_ _,?_⟩|refine⟨trivial,?_⟩);gi_at_call 239;refine(xrv.2 (pf _ (by exact bel1))).mono ?_;rintro e W3 ⟨rfl,rfl,aI⟩)
  obtain⟨W3,fH⟩:∃W3,W3=(W.alloc (.cells #[.func (.yield ll) #[] #[]] 232)).alloc (.cells #[.slice a0 n cap] 98):=⟨_,rfl⟩;have Gk:W3.heap.size=W.heap.size+2:=by rw[fH];simp
  have z1:Box W3 W.heap.size 232 (.func (.yield ll) #[] #[]):=by rw[fH];exact(Box.new W 232 _).alloc _
  have h_:Bw W W3:=by rw[fH];exact bel2
  rw[xrt]at aI;simp only[<-fH]at aI ⊢;have hq:=aI (fun b=>T b\/b=ll) (fun b hb e=>by
   have:=JJ b hb
   rcases e with e|e
   ·exact xZ b hb e
   ·omega) (fun e=>by
   rcases e with e|e
   ·have:=tY _ e;omega
   ·omega)
  clear aI pf fH wg Hw;have av:∀b,False\/(W3.heap.size<=b/\b<W3.heap.size+2+0)->False\/(W.heap.size<=b/\b<W.heap.size+4):=fun b e=>e.imp id (fun e=>by omega)
  refine qgs (T:=fun b=>T b\/b=ll) (S:=fun _=>False) rfl (enters_of func247 (by kernel_rfl) rfl) hq (Below.refl _ _) (fun _=>rfl) (fun b e=>e.elim) (fun b e=>by
    rcases e with e|e
    ·have:=tY _ e;omega
    ·omega)
   (fun (pre:List (Pw×Nat)) A=>J (pre.map Prod.fst) A/\Box A W.heap.size 232 (.func (.yield ll) #[] #[]))
   (fun c (pre:List (Pw×Nat)) A=>c=.ret/\Jx (pre.map Prod.fst) A)
   (fun pre A B hs hk=>⟨hJ _ _ _ hs.1 (hk.mono av),hs.2.keep hk (fun e=>by rcases e with e|e;exact e;omega)⟩)
   (fun c pre A B hs hk=>⟨hs.1,nJ _ _ _ hs.2 (hk.mono av)⟩)
   ⟨hJ _ _ _ h0 (Keep.new h_),z1⟩
   (fun x=>{tmps:=#[.func (.yield ll) #[] #[],vP w.heap.size,vP W.heap.size,undef,nptr x.1.blk,.pointer (some (vA bt 1)),.pointer (some (vA bt 1)),.pointer (some (vA bt 3)),.slice a0 n cap,.func (.func 247) #[] #[vP (W.heap.size+1)],vI x.2,nptr x.1.blk,undef,undef,undef,undef],defers:=[]}) ?assign ?body ?done ?stop
  case assign =>
   intro l x W K hK
   gi_wp2
   exact hK
  case body =>
   rintro l2 pre x W4 ⟨hj,dr⟩ dk aC
   have jA:pre.map Prod.fst++[x.1] <+: l.reverse:=by
    rw[<-rH]
    have:=aC.map Prod.fst
    simpa using this
   obtain⟨fn,tmps,assign,body,hy,hR⟩:=hY (k-1) _ x.1 W4 hj (by omega) jA;have sK:=dr.cell;have eh:=hR.mono (R':=fun e W'=>(e=.returned (.bool true)/\(J ((pre++[x]).map Prod.fst) W'/\Box W' W.heap.size 232 (.func (.yield ll) #[] #[]))/\Keep (fun b=>(T b\/b=ll)\/W3.heap.size+2+0<=b) W4 W')\/(e=.returned (.bool false)/\Jx ((pre++[x]).map Prod.fst) W'/\Keep (fun b=>(T b\/b=ll)\/W3.heap.size+2+0<=b) W4 W')) (fun e W' h=>by
    have lz:∀b,(T b\/b=ll\/W.heap.size+4<=b)->((T b\/b=ll)\/W3.heap.size+2+0<=b):=fun b e=>by
     rcases e with e|e|e
     ·exact .inl (.inl e)
     ·exact .inl (.inr e)
     ·exact .inr (by omega)
    rcases h with ⟨h1,h2,h3⟩|⟨h1,h2,h3⟩
    ·refine .inl ⟨h1,⟨by simpa using h2,dr.keep h3 (fun e=>?_)⟩,h3.mono lz⟩
     rcases e with e|e|e
     ·have:=tY _ e;omega
     ·omega
     ·omega
    ·exact .inr ⟨h1,by simpa using h2,h3.mono lz⟩)
   clear hR hY hq aC jA hj;unfold nptr at hy ⊢
   gi_wp2_with (refine⟨b_ _,?_⟩;refine eh.mono ?_;clear eh;rintro e W5 (⟨rfl,I6,fS⟩|⟨rfl,JS,fS⟩))
   ·exact⟨fS,I6⟩
   ·exact⟨fS,rfl,JS⟩
  case done =>
   rintro A ⟨hj,dr⟩ hD
   gi_wp2
   refine⟨by simp,.inl ⟨_,_,rfl,run_takeDeferred hD,?_⟩⟩
   rw[rH]at hj
   exact⟨.tuple #[],by simp[results,results238,go_sem],⟨_,rfl⟩,.inl (hJ _ _ _ hj ((Keep.refl _ _).putObj (.inr (by omega)) _))⟩
  case stop =>
   rintro c pre A aC ⟨rfl,hx⟩ hD
   gi_wp2
   refine⟨by simp,.inl ⟨_,_,rfl,run_takeDeferred hD,?_⟩⟩
   refine⟨.tuple #[],by simp[results,results238,go_sem],⟨_,rfl⟩,.inr ⟨pre.map Prod.fst,?_,nJ _ _ _ hx ((Keep.refl _ _).putObj (.inr (by omega)) _)⟩⟩
   rw[<-rH]
   exact aC.map _
 unfold nptr at key ⊢
 go_enter func230,ntmps230
 go_wp2
 go_ret
 exact⟨rfl,rfl,key⟩
def qup (N:Act->World->Prop)(e:Exit)(a:Act)(w:World):Prop:=e=.normal/\N a w
theorem qn8{N:Act->World->Prop}(h:LetsOut (qup N)):False:=by
 obtain⟨a,w,h,_⟩:=h
 cases h
def isDefer:Op->Bool
 | .defer _=>true
 |_=>false
def qfw (fF:Array Oper):Bool:=fF.all fun o=>!(isDefer o.op)
theorem qm9{fF:Array Oper}(h:qfw fF=true){o:Oper}(hi:fF[i]?=some o):∀c,o.op≠.defer c:=by
 intro c hc;unfold qfw at h;rw[Array.all_eq_true]at h;obtain⟨ak,he⟩:=xrc.1 hi
 have:=h i ak
 rw[he,hc]at this
 simp[isDefer]at this
theorem qne{fF:Array Oper}{l n:Nat}{N:Act->World->Prop}{Q:Exit->Act->World->Prop}(df:qfw fF=true){K:Act->World->Prop}{a:Act} 
  (h:wpOp P fF (qup N) i K a w):wpOpIn (Fence.wide.inRound l) n P fF Q i K a w:=by
 unfold wpOp at h;unfold wpOpIn
 cases hi:fF[i]? with
 |none=>simp only[hi]at h ⊢;exact h
 |some o =>
  simp only[hi]at h ⊢
  by_cases hw:Region.wanted o (yielded fF a.tmps)=true
  ·rw[if_pos hw]at h ⊢
   rcases h with h|⟨_,h⟩
   ·refine⟨fun _ _=>trivial,?_⟩
    rw[Oper.semAt_eq _ _ _ (qm9 df hi)];unfold Oper.wp at h;generalize (execOp a.eval o).run P w=r at h ⊢
    cases r with
    |ok x w' =>
     cases x with
     |value v=>exact h
     |skip=>exact h
     |defer d=>exact h
     |enter f args =>
      refine⟨fun e=>(by simp[Fence.wide]at e),?_⟩
      refine CallsIn.inRound l ((xrv.2 h).mono ?_)
      intro e ko he
      cases e with
      |returned v=>exact he
      |panicked c=>exact absurd he.1 (by intro e;cases e)
      |outgrown=>exact(qn8 he).elim
     |row row args =>
      refine⟨fun e=>(by simp[Fence.wide]at e),?_⟩
      intro c cs _;obtain⟨v,w2,h1,h2⟩:=h c cs
      exact⟨v,w2,h1,stepsIn_wide.2 h2⟩
     |_=>exact h.elim
    |halt x w' =>
     cases x with
     |panic v=>exact absurd h.1 (by intro e;cases e)
     |_=>exact h.elim
   ·exact(qn8 h).elim
  ·rw[if_neg hw]at h ⊢
   exact⟨fun _ _=>trivial,h⟩
theorem qhc{fF:Array Oper}{md:Region.Mode}{l n:Nat}{N:Act->World->Prop}{Q:Exit->Act->World->Prop}{S:World->Prop}(df:qfw fF=true)(hN:∀a w,N a w->Q .normal a w):
  ∀(fuel:Nat) (mR:Array Bool) (a:Act) (w:World),wpAnyH P md fF (qup N) S fuel mR a w->wpAnyIn (Fence.wide.inRound l) n P md fF Q fuel mR a w
 |0,_,_,_,h=>⟨h.1,hN _ _ h.2.2⟩
 |fuel+1,mR,a,w,h=>⟨fun e=>hN _ _ (h.1 e).2,fun i hi=>qne df (wpOp_mono (fun a' w' h'=>qhc df hN fuel _ a' w' h'.2) (h.2 i hi))⟩
theorem qdk{fF:Array Oper}{l n:Nat}{K:Act->World->Prop}{Q:Exit->Act->World->Prop}{a:Act}(S:World->Prop)(hm:P.follows .mixedOrders=true)(df:qfw fF=true)(hS:S w.drew)
  (h:S w.drew->wpAnyH P .any fF (qup K) S fF.size (Array.replicate fF.size false) a w.drew):(Code.region id fF true).wpIn (Fence.wide.inRound l) n P (Exit.then K Q) a w :=
 wpIn_region_any hm (qhc df (fun _ _ h=>h) _ _ _ _ (h hS))
end
section
open Go.RowKit
variable {W W' w w1 w2:World}{b b' bt i n' rr:Nat}{aQ aX ck ev rt v v' va vw:Value}{evs oO:List (Int×Int)}{p:Pw}{t':TypeId}{LF xs:List Value}{vs vs':Array Value}{T:Nat->Prop}{aR as_ bg ws:List Pw}
structure qme (W:World) (rr bt:Nat) (rt ev:Value) (evs:List (Int×Int)):Prop where
 at_:Blk W rr 188 #[rt,.pointer (some (vA bt 1)),ev]
 row:W.ownsRow 0 60 2 ev evs.length (qai evs)
theorem ql9(h:qme w rr bt rt ev evs)(hl:evs.length<=10000)(hp:Blk w p.blk 105 p.cells)(k:Int):
  Cl 212 #[vP rr,vI k,nptr p.blk] w fun e w'=>e=.returned (.tuple #[])/\∃ck,qme w' rr bt rt ck (evs++[(k,p.x.num)])/\Keep (fun y=>y=rr\/ev.ownBlock=some y) w w'/\(∀b,ck.ownBlock=some b->ev.ownBlock=some b\/w.heap.size<=b):=by
 have aW:ev.ownBlock≠some rr:=qag h.row h.at_ (by decide);have ak:=h.at_.lt;have cu:=fun (W:World) (hB:Bw w W) (nb:Nat) (cU:Blk W nb 60 #[vI k,vI p.x.num])=>qby un48 qm7 (by omega) W ev evs.length (qai evs) (qab (T:=fun _=>False) h.row (Keep.new hB) (fun _ _ e=>e)) nb 1 1 (by omega) [vI k,vI p.x.num] rfl cU (fun u hu=>by simp at hu;rcases hu with rfl|rfl<;>rfl) (by unfold maxLen;omega) (by omega)
 have aP:∀W,Bw w W->∀g' cap' w',AppR W ev.ownBlock 60 2 (evs.length+1) (qai evs++[vI k,vI p.x.num]) g' cap' w'->Blk w' rr 188 #[rt,.pointer (some (vA bt 1)),ev]/\Hid (∀W3,Below (w'.setCell (vA rr 2) (vS g' (evs.length+1) cap')).heap.size (w'.setCell (vA rr 2) (vS g' (evs.length+1) cap')) W3->∃ck,qme W3 rr bt rt ck (evs++[(k,p.x.num)])/\Keep (fun y=>y=rr\/ev.ownBlock=some y) w W3/\(∀b,ck.ownBlock=some b->ev.ownBlock=some b\/w.heap.size<=b)):=fun W aO g' cap' w' R=>by
  have aZ:=(h.at_.below aO ak).keep R.keep aW;have hz:=aO.size;have fB:g'≠rr:=fun e=>by
   rcases R.new with e2|e2
   ·rw[e]at e2;exact aW e2
   ·omega
  refine⟨aZ,fun W3 fH=>⟨vS g' (evs.length+1) cap',⟨?_,?_⟩,?_,?_⟩⟩
  ·have:=aZ.set 2 (vS g' (evs.length+1) cap')
   have h3:Blk (w'.setCell (vA rr 2) (vS g' (evs.length+1) cap')) rr 188 #[rt,.pointer (some (vA bt 1)),vS g' (evs.length+1) cap']:=by simpa using this
   exact h3.below fH h3.lt
  ·rw[show(evs++[(k,p.x.num)]).length=evs.length+1 by simp,qe3]
   exact qab (T:=fun _=>False) (xrl R.own (by simp[Value.ownBlock];exact fB) _) (Keep.new fH) (fun _ _ e=>e)
  ·exact((((Keep.new (T:=fun y=>y=rr\/ev.ownBlock=some y) aO).qbo R.keep (fun b _ e=>.inr e))).setCell (p:=vA rr 2) (.inl rfl) _).qc5 fH
  ·intro b hb
   simp[Value.ownBlock]at hb
   subst hb
   exact R.new.imp id (fun e=>by omega)
 have c2:=h.at_.cell 2;have d0:=hp.cell 0;unfold Pw.cells at d0;simp only[xq0,xq1,xq2]at c2 d0;obtain⟨a0,dA,hv,dV,jf⟩:=qbe h.row;clear dV jf;generalize qai evs=pp at cu aP;generalize hn:evs.length=n at cu aP hv;clear hn h;have zA:ev=.slice a0 n dA:=hv;subst zA;unfold nptr
 go_enter func212,ntmps212
 go_region_law (refine qau rfl (.tmp 10) (.tmp 17) 48 48 rfl _ _ ?_ ?_ (cu _ ?_ ?_ ?_) ?_;(focus (simp[Act.eval,Act.put]));(focus ((try simp[Act.eval,Act.put]);(try rfl)));(focus exact bel2);(focus exact blk2);rintro v1 w1 ⟨g1,q1,rfl,R1⟩;obtain⟨aa,mg⟩:=aP _ (by exact bel2) _ _ _ R1;have f2:=aa.frozen 2;have gJ:=aa.cell 2;have gO:=R1.le;have ie:=R1.mx;simp only[xq0,xq1,xq2]at gJ)
 all_goals (go_wp2_with fail;go_end0;refine⟨rfl,mg.out _ ?_⟩;exact bel2)
theorem qdj{t:TypeId}{s s' n:Nat}(h:W.ownsRow 0 t s v n xs)(h':W.ownsRow 0 t' s' v' n' LF)(ht:t≠t')(hb:v.ownBlock=some b):v'.ownBlock≠some b:=by
 intro e
 rcases h.2 with ⟨rfl,_⟩|⟨g,cap,aD,rfl,_,hg,_⟩
 ·cases hb
 ·simp[Value.ownBlock]at hb
  subst hb
  rcases h'.2 with ⟨rfl,_⟩|⟨g',cap',H5,rfl,_,fB,_⟩
  ·cases e
  ·simp[Value.ownBlock]at e
   subst e
   have:=hg.symm.trans fB
   injection this with this;injection this with _ h2 _
   exact ht h2
theorem qax{t:TypeId}(h:Blk W b t vs)(h':Blk W b' t' vs')(ht:t≠t'):b≠b':=by
 rintro rfl
 have:=h.symm.trans h'
 injection this with this;injection this with _ h2 _
 exact ht h2
structure qdx (W:World) (rr bt:Nat) (rt r lst vw va ev:Value) (ws as_:List Pw) (evs:List (Int×Int)):Prop where
 bk:BkAt W bt r lst vw va ws as_
 rnd:qme W rr bt rt ev evs
def LdT (rr bt:Nat)(vw va ev:Value)(y:Nat):Prop:=y=rr\/BkT bt vw va y\/ev.ownBlock=some y
structure LdN (w:World) (vw va ev aQ aX ck:Value):Prop where
 bk:∀b,aQ.ownBlock=some b\/aX.ownBlock=some b->vw.ownBlock=some b\/va.ownBlock=some b\/w.heap.size<=b
 ev:∀b,ck.ownBlock=some b->ev.ownBlock=some b\/w.heap.size<=b
theorem LdN.all(h:LdN w vw va ev aQ aX ck):∀b,aQ.ownBlock=some b\/aX.ownBlock=some b\/ck.ownBlock=some b->vw.ownBlock=some b\/va.ownBlock=some b\/ev.ownBlock=some b\/w.heap.size<=b:=fun b e=>by
 rcases e with e|e|e
 ·rcases h.bk b (.inl e) with e|e|e
  ·exact .inl e
  ·exact .inr (.inl e)
  ·exact .inr (.inr (.inr e))
 ·rcases h.bk b (.inr e) with e|e|e
  ·exact .inl e
  ·exact .inr (.inl e)
  ·exact .inr (.inr (.inr e))
 ·rcases h.ev b e with e|e
  ·exact .inr (.inr (.inl e))
  ·exact .inr (.inr (.inr e))
theorem qme.keep(h:qme W rr bt rt ev evs)(hk:Keep T W W')(h1:¬T rr)(h2:∀b,ev.ownBlock=some b->¬T b):qme W' rr bt rt ev evs:=⟨h.at_.keep hk h1,qab h.row hk h2⟩
theorem BkAt.keep{r lst:Value}(h:BkAt W bt r lst vw va ws as_)(hk:Keep T W W')(h1:¬T bt)(h2:∀b,vw.ownBlock=some b->¬T b)(h3:∀b,va.ownBlock=some b->¬T b)(h4:∀p∈ws++as_,¬T p.blk):BkAt W' bt r lst vw va ws as_ :=
 ⟨h.at_.keep hk h1,qab h.wrow hk h2,qab h.arow hk h3,fun p hp=>(h.works p hp).keep hk (h4 p hp),h.sep,h.nd,h.inj,h.len⟩
theorem qdx.qgd{r lst:Value}(h:qdx W rr bt rt r lst vw va ev ws as_ evs):¬BkT bt vw va rr/\∀b,ev.ownBlock=some b->¬BkT bt vw va b:=by
 refine⟨?_,fun b hb=>?_⟩
 ·rintro(e|e|e)
  ·exact qax h.rnd.at_ h.bk.at_ (by decide) e
  ·exact qag h.bk.wrow h.rnd.at_ (by decide) e
  ·exact qag h.bk.arow h.rnd.at_ (by decide) e
 ·rintro(e|e|e)
  ·subst e;exact qag h.rnd.row h.bk.at_ (by decide) hb
  ·exact qdj h.bk.wrow h.rnd.row (by decide) e hb
  ·exact qdj h.bk.arow h.rnd.row (by decide) e hb
theorem qdx.qtd{r lst:Value}(h:qdx W rr bt rt r lst vw va ev ws as_ evs):¬(bt=rr\/ev.ownBlock=some bt)/\(∀b,vw.ownBlock=some b->¬(b=rr\/ev.ownBlock=some b))/\(∀b,va.ownBlock=some b->¬(b=rr\/ev.ownBlock=some b))/\∀p∈ws++as_,¬(p.blk=rr\/ev.ownBlock=some p.blk):=by
 refine⟨?_,fun b hb=>?_,fun b hb=>?_,fun p hp=>?_⟩
 ·rintro(e|e)
  ·exact qax h.bk.at_ h.rnd.at_ (by decide) e
  ·exact qag h.rnd.row h.bk.at_ (by decide) e
 ·rintro(e|e)
  ·subst e;exact qag h.bk.wrow h.rnd.at_ (by decide) hb
  ·exact qdj h.bk.wrow h.rnd.row (by decide) hb e
 ·rintro(e|e)
  ·subst e;exact qag h.bk.arow h.rnd.at_ (by decide) hb
  ·exact qdj h.bk.arow h.rnd.row (by decide) hb e
 ·rintro(e|e)
  ·exact qax (h.bk.works p hp) h.rnd.at_ (by decide) e
  ·exact qag h.rnd.row (h.bk.works p hp) (by decide) e
theorem qdx.told{r lst:Value}(h:qdx w rr bt rt r lst vw va ev ws as_ evs)(h1:qdx w1 rr bt rt r lst aQ aX ev bg aR evs)(c_:Keep (BkT bt vw va) w w1)(cQ:∀b,aQ.ownBlock=some b\/aX.ownBlock=some b->vw.ownBlock=some b\/va.ownBlock=some b\/w.heap.size<=b)
  (h2:qme w2 rr bt rt ck oO) (bM:Keep (fun y=>y=rr\/ev.ownBlock=some y) w1 w2) (da:∀b,ck.ownBlock=some b->ev.ownBlock=some b\/w1.heap.size<=b) :
  qdx w2 rr bt rt r lst aQ aX ck bg aR oO/\Keep (LdT rr bt vw va ev) w w2/\LdN w vw va ev aQ aX ck:=by
 obtain⟨a1,a2,a3,a4⟩:=h1.qtd
 refine⟨⟨h1.bk.keep bM a1 a2 a3 a4,h2⟩,(c_.mono (fun y e=>.inr (.inl e))).qbo bM (fun b _ e=>e.elim (fun e=>.inl e) (fun e=>.inr (.inr e))),?_⟩
 exact⟨cQ,fun b e=>(da b e).imp id (fun e=>Nat.le_trans c_.size e)⟩
theorem qqc{r lst:Value}(h:qdx w rr bt rt r lst vw va ev ws as_ evs)(hl:evs.length<=10000)(hi:ws[i]?=some p):
  Cl 173 #[vP rr,nptr p.blk] w fun e w'=>e=.returned (.tuple #[])/\∃aQ aX ck,qdx w' rr bt rt r lst aQ aX ck (ws.take i++ws.drop (i+1)) (as_++[p]) (evs++[(1,p.x.num)])/\Keep (LdT rr bt vw va ev) w w'/\LdN w vw va ev aQ aX ck:=by
 have c1:=h.rnd.at_.cell 1;simp only[xq0,xq1,xq2]at c1;have dY:=qoo h.bk hi;have gZ:∀w1 aQ aX,BkAt w1 bt r lst aQ aX (ws.take i++ws.drop (i+1)) (as_++[p])->Keep (BkT bt vw va) w w1->qdx w1 rr bt rt r lst aQ aX ev (ws.take i++ws.drop (i+1)) (as_++[p]) evs:=fun w1 aQ aX hb hk=>⟨hb,h.rnd.keep hk h.qgd.1 h.qgd.2⟩
 unfold nptr at dY ⊢
 go_enter func173,ntmps173
 go_wp2_with fail
 refine dY.mono ?_
 rintro e w1 ⟨rfl,aQ,aX,aa,c_,cQ⟩
 have h1:=gZ w1 aQ aX aa c_;have eL:=ql9 h1.rnd hl (h1.bk.works p (by simp)) 1;clear dY gZ;unfold nptr at eL
 go_wp2_with fail
 refine eL.mono ?_
 rintro e w2 ⟨rfl,ck,h2,bM,da⟩
 have aM:=h.told h1 c_ cQ h2 bM da;clear eL
 go_wp2_with fail
 go_end0
 exact⟨rfl,_,_,_,aM⟩
end
end Go.Proofs.YtphclnolomgjoaaGreatDoor
