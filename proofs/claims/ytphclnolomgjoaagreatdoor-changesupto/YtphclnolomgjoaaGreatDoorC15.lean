import Derived.Test.YtphclnolomgjoaaGreatDoorC14
set_option linter.unusedVariables false
set_option linter.unusedSimpArgs false
set_option maxRecDepth 100000
set_option maxHeartbeats 4000000
namespace Go.Proofs.YtphclnolomgjoaaGreatDoor
open Tryz
section
open Go.RowKit Go.Shelf
variable {W W' w:World}{nodes:List Node}{B bt rr:Nat}{m r:Node}{vw:Value}{ws:List Pw}{T T':Nat->Prop}
attribute [local go_sem] Oper.semAt_some
structure Rw (W:World) (nodes:List Node) (bt rr:Nat) (r:Node) (vw:Value) (ws:List Pw):Prop where
 ins:∀n∈nodes,qan W n
 rt:W.cell? (vA rr 0)=some (nptr r.blk)
 bk:W.cell? (vA rr 1)=some (.pointer (some (vA bt 1)))
 wt:W.cell? (vA bt 2)=some vw
 row:WRow W vw ws
 len:ws.length<=100
 leaf:∀p∈ws,∃n∈nodes,n.blk=p.q
structure qhs (nodes:List Node) (bt rr:Nat) (vw:Value) (ws:List Pw) (T:Nat->Prop):Prop where
 ns:∀n∈nodes,¬T n.blk/\∀g,n.sl.ownBlock=some g->¬T g
 rr:¬T rr
 bt:¬T bt
 vw:∀b,vw.ownBlock=some b->¬T b
 ws:∀p∈ws,¬T p.blk
theorem Rw.keep(h:Rw W nodes bt rr r vw ws)(hk:Keep T W W')(ho:qhs nodes bt rr vw ws T):Rw W' nodes bt rr r vw ws :=
 ⟨qel ho.ns h.ins hk,(hk.cell (p:=vA rr 0) (xrb _ _ h.rt) ho.rr).trans h.rt,(hk.cell (p:=vA rr 1) (xrb _ _ h.bk) ho.rr).trans h.bk,(hk.cell (p:=vA bt 2) (xrb _ _ h.wt) ho.bt).trans h.wt,⟨qab h.row.row hk ho.vw,fun p hp=>(h.row.works p hp).keep hk (ho.ws p hp)⟩,h.len,h.leaf⟩
theorem Rw.below(h:Rw W nodes bt rr r vw ws)(hb:Bw W W'):Rw W' nodes bt rr r vw ws :=
 h.keep (T:=fun _=>False) (Keep.new hb) ⟨fun _ _=>⟨id,fun _ _=>id⟩,id,id,fun _ _=>id,fun _ _=>id⟩
theorem Rw.head(h:Rw W nodes bt rr r vw ws)(hm:m∈nodes):
  Cl 174 #[.pointer (some (vA bt 1)),nptr m.blk] W fun e w'=>e=.returned (optP (qbl ws m.blk))/\Bw W w':=qrb h.ins h.wt h.row h.len h.leaf hm
theorem Rw.lt(h:Rw W nodes bt rr r vw ws)(hB:W.heap.size<=B)(hT:∀b,T b->B<=b):qhs nodes bt rr vw ws T :=
 ⟨fun n hn=>⟨fun e=>by have:=(h.ins n hn).lt;have:=hT _ e;omega,fun g hg e=>by have:=((h.ins n hn).row.lt g hg).2;have:=hT _ e;omega⟩,fun e=>by have:=xrb _ _ h.bk;have:=hT _ e;simp at *;omega,fun e=>by have:=xrb _ _ h.wt;have:=hT _ e;simp at *;omega,fun b hb e=>by have:=qal h.row.row hb;have:=hT _ e;omega,fun p hp e=>by have:=(h.row.works p hp).lt;have:=hT _ e;omega⟩
theorem qhs.or(h:qhs nodes bt rr vw ws T)(h':qhs nodes bt rr vw ws T'):qhs nodes bt rr vw ws (fun b=>T b\/T' b) :=
 ⟨fun n hn=>⟨fun e=>e.elim (h.ns n hn).1 (h'.ns n hn).1,fun g hg e=>e.elim ((h.ns n hn).2 g hg) ((h'.ns n hn).2 g hg)⟩,fun e=>e.elim h.rr h'.rr,fun e=>e.elim h.bt h'.bt,fun b hb e=>e.elim (h.vw b hb) (h'.vw b hb),fun p hp e=>e.elim (h.ws p hp) (h'.ws p hp)⟩
def qap (ws:List Pw)(l:List Node):List Pw:=l.filterMap fun n=>qbl ws n.blk
theorem qms(ws:List Pw)(l:List Node)(n:Node):qap ws (l++[n])=qap ws l++(qbl ws n.blk).toList:=by
 unfold qap;rw[List.filterMap_append]
 cases h:qbl ws n.blk<;>simp[List.filterMap_cons,h]
theorem qjy{a b:List Node}(h:a <+: b):qap ws a <+: qap ws b:=by
 obtain⟨t,rfl⟩:=h;unfold qap;rw[List.filterMap_append]
 exact xry _ _
theorem qlb(T0:Tree nodes){ch:Node->List Node}(K0:Kids nodes ch)(h:Rw w nodes bt rr r vw ws)(hr:r∈nodes):
  Cl 169 #[vP rr] w fun e w'=>e=.returned (.func (.func 206) #[] #[vP w.heap.size])/\w'=w.alloc (.cells #[vP rr] 186) /\
   ∀T:Nat->Prop,(∀b,T b->b<w.heap.size)->qhs nodes bt rr vw ws T ->
    SeqM prog 206 #[vP w.heap.size] (fun p:Pw=>#[nptr p.blk]) (fun _=>False) 4 T (qap ws (dfs ch 4 r)) w':=by
 have nT:∀(fn:Fn) (first cap:Array Value) (w:World),(Instr.makeFunc fn first cap).run prog w=.ok (.func fn first cap) w:=fun _ _ _ _=>rfl
 have key:∀T:Nat->Prop,(∀b,T b->b<w.heap.size)->qhs nodes bt rr vw ws T ->
    SeqM prog 206 #[vP w.heap.size] (fun p:Pw=>#[nptr p.blk]) (fun _=>False) 4 T (qap ws (dfs ch 4 r)) (w.alloc (.cells #[vP rr] 186)):=by
  intro T tY IH k ll J Jx W eI hl Gb hJ nJ hY h0;have b_:∀k:Nat,Fence.wide.depth.isSome=true->1<=k:=fun k h=>by simp[Fence.wide]at h
  have cx:Bw w W:=qac (show Bw w (w.alloc (.cells #[vP rr] 186)) by exact bel2) eI;have x1:Box W w.heap.size 186 (vP rr):=(Box.new w 186 _).below eI (by simp);have n8:w.heap.size<W.heap.size:=x1.lt;have DO:rr<w.heap.size:=by have:=xrb w _ h.rt;simpa using this
  have kH:w.heap.size+1<=ll:=by simpa using hl
  have a8:=fun W' (bI:∀n∈nodes,qan W' n)=>qm5 T0 K0 hr W' bI
  have AI:=fun x (hx:x∈dfs ch 4 r)=>qq2 K0 4 r hr x hx
  have C5:=h.below cx;have wg:(W.alloc (.cells #[.func (.yield ll) #[] #[]] 232)).cell? (vA w.heap.size 0)=some (vP rr):=(World.cell?_alloc_lt _ _ _ (by simp;omega)).trans x1.cell;have Hv:(W.alloc (.cells #[.func (.yield ll) #[] #[]] 232)).cell? (vA rr 0)=some (vP r.blk):=(World.cell?_alloc_lt _ _ _ (by simp;omega)).trans C5.rt;generalize hX:dfs ch 4 r=X at a8 AI hY ⊢;clear hX
  refine callsIn_of_wp_marks func206 rfl trivial ?_ rfl
  unfold nptr at a8;simp only[ntmps206,List.size_toArray,List.length_cons,List.length_nil,Nat.reduceAdd,Nat.reduceSub,Array.replicate_succ,Array.replicate_zero,List.push_toArray,List.append_toArray,List.nil_append,List.cons_append]
  gi_wp2_with ((first|refine⟨trivial,b_ _,?_⟩|refine⟨trivial,?_⟩);gi_at_call 101;refine(xrv.2 (a8 _ (fun n hn=>(C5.ins n hn).below (by exact bel1)))).mono ?_;rintro e W3 ⟨rfl,rfl,aI⟩)
  obtain⟨W3,fH⟩:∃W3,W3=(W.alloc (.cells #[.func (.yield ll) #[] #[]] 232)).alloc (.cells #[vP r.blk] 97):=⟨_,rfl⟩;have Gk:W3.heap.size=W.heap.size+2:=by rw[fH];simp
  have z1:Box W3 W.heap.size 232 (.func (.yield ll) #[] #[]):=by rw[fH];exact(Box.new W 232 _).alloc _
  have h_:Bw W W3:=by rw[fH];exact bel2
  rw[xrt]at aI;simp only[<-fH]at aI ⊢;have pQ:∀l0 B:Nat,w.heap.size<=l0->w.heap.size<=B->qhs nodes bt rr vw ws (fun b=>T b\/(b=l0\/B<=b)):=fun l0 B h1 h2=>IH.or (h.lt (Nat.le_refl _) (fun b e=>by omega))
  have hq:SeqM prog 149 #[vP (W.heap.size+1)] (fun x:Node=>#[vP x.blk]) (fun _=>False) 0 (fun b=>T b\/b=ll) X W3:=qss (fun B l0 h1 h2=>aI _ (fun n hn=>by
   have o1:=(pQ ll w.heap.size (by omega) (Nat.le_refl _)).ns n hn;have o2:=(pQ l0 B (by omega) (by omega)).ns n hn
   refine⟨fun e=>?_,fun g hg e=>?_⟩
   ·rcases e with (e|e)|e
    ·exact o1.1 (.inl e)
    ·exact o1.1 (.inr (.inl e))
    ·exact o2.1 (.inr e)
   ·rcases e with (e|e)|e
    ·exact o1.2 g hg (.inl e)
    ·exact o1.2 g hg (.inr (.inl e))
    ·exact o2.2 g hg (.inr e)))
  clear aI a8 fH wg Hv;have av:∀b,False\/(W3.heap.size<=b/\b<W3.heap.size+2+0)->False\/(W.heap.size<=b/\b<W.heap.size+4):=fun b e=>e.imp id (fun e=>by omega)
  have zh:qhs nodes bt rr vw ws (fun b=>False\/(W3.heap.size<=b/\b<W3.heap.size+2+0)):=h.lt (Nat.le_refl _) (fun b e=>by
   rcases e with e|e
   ·exact e.elim
   ·omega)
  refine qgs (T:=fun b=>T b\/b=ll) (S:=fun _=>False) rfl (enters_of func149 (by kernel_rfl) rfl) hq (Below.refl _ _) (fun _=>rfl) (fun b e=>e.elim) (fun b e=>by
    rcases e with e|e
    ·have:=tY _ e;omega
    ·omega)
   (fun (pre:List Node) A=>J (qap ws pre) A/\Box A W.heap.size 232 (.func (.yield ll) #[] #[])/\Box A w.heap.size 186 (vP rr)/\Rw A nodes bt rr r vw ws)
   (fun c (pre:List Node) A=>c=.ret/\Jx (qap ws pre) A)
   (fun pre A B hs hk=>⟨hJ _ _ _ hs.1 (hk.mono av),hs.2.1.keep hk (fun e=>by rcases e with e|e;exact e;omega),hs.2.2.1.keep hk (fun e=>by rcases e with e|e;exact e;omega),hs.2.2.2.keep hk zh⟩)
   (fun c pre A B hs hk=>⟨hs.1,nJ _ _ _ hs.2 (hk.mono av)⟩)
   ⟨hJ _ _ _ h0 (Keep.new h_),z1,x1.below h_ x1.lt,C5.below h_⟩
   (fun x=>{tmps:=#[.func (.yield ll) #[] #[],vP w.heap.size,vP W.heap.size,vP x.blk,undef,vP rr,vP rr,vP rr,vP r.blk,.func (.func 149) #[] #[vP (W.heap.size+1)],vP x.blk,undef,undef,undef,undef,undef,undef,undef,undef,undef,undef,undef,undef,undef,undef],defers:=[]}) ?assign ?body ?done ?stop
  case assign =>
   intro l x W K hK
   gi_wp2
   exact hK
  case body =>
   rintro l2 pre x W4 ⟨hj,dr,bR,xY⟩ dk aC
   have cg:=AI x (aC.subset (by simp));have qA:=xY.head cg;have sK:=bR.cell;have AH:=xY.bk;have jv:=qms ws pre x;have rO:=fun W (p:Pw)=>qgv (W:=W) (x:=p)
   have ju:=fun W=>qd8 (W:=W)
   cases hH:qbl ws x.blk with
   |none =>
    rw[hH]at qA jv;have HS:Hid (qap ws (pre++[x])=qap ws pre):=show qap ws (pre++[x])=qap ws pre from by rw[jv];simp
    clear jv hY hq;unfold optP nptr at qA
    gi_wp2_with ((first|refine⟨trivial,b_ _,?_⟩|refine⟨trivial,?_⟩);gi_at_call 174;refine(CallsIn.inRound l2 (xrv.2 qA)).mono ?_;rintro e W5 ⟨rfl,aG⟩)
    refine⟨fun f h=>(by cases h),?_⟩
    gi_wp2
    exact⟨Keep.new aG,by rw[HS.out];exact hJ _ _ _ hj (Keep.new aG),dr.below aG dr.lt,bR.below aG bR.lt,xY.below aG⟩
   |some p =>
    rw[hH]at qA jv;have HS:Hid (qap ws (pre++[x])=qap ws pre++[p]):=show qap ws (pre++[x])=qap ws pre++[p] from by rw[jv];simp
    have jA:qap ws pre++[p] <+: qap ws X:=by rw[<-HS.out];exact qjy aC
    have qH:∀W5,Bw W4 W5->YieldAt Fence.wide (k-1) prog ll #[nptr p.blk] W5 fun e W'=>(e=.returned (.bool true)/\(J (qap ws (pre++[x])) W'/\Box W' W.heap.size 232 (.func (.yield ll) #[] #[])/\Box W' w.heap.size 186 (vP rr)/\Rw W' nodes bt rr r vw ws)/\Keep (fun b=>(T b\/b=ll)\/W3.heap.size+2+0<=b) W4 W')\/(e=.returned (.bool false)/\Jx (qap ws (pre++[x])) W'/\Keep (fun b=>(T b\/b=ll)\/W3.heap.size+2+0<=b) W4 W'):=fun W5 aG=>by
     refine(hY (k-1) _ p W5 (hJ _ _ _ hj (Keep.new aG)) (by have:=aG.size;omega) jA).mono ?_
     have lz:∀b,(T b\/b=ll\/W.heap.size+4<=b)->((T b\/b=ll)\/W3.heap.size+2+0<=b):=fun b e=>by
      rcases e with e|e|e
      ·exact .inl (.inl e)
      ·exact .inl (.inr e)
      ·exact .inr (by omega)
     rintro e W' (⟨h1,h2,h3⟩|⟨h1,h2,h3⟩)
     ·refine .inl ⟨h1,⟨by rw[HS.out];exact h2,(dr.below aG dr.lt).keep h3 (fun e=>?_),(bR.below aG bR.lt).keep h3 (fun e=>?_),(xY.below aG).keep h3 (pQ _ _ (by omega) (by omega))⟩,(Keep.new aG).trans (h3.mono lz)⟩
      ·rcases e with e|e|e
       ·have:=tY _ e;omega
       ·omega
       ·omega
      ·rcases e with e|e|e
       ·have:=tY _ e;omega
       ·omega
       ·omega
     ·exact .inr ⟨h1,by rw[HS.out];exact h2,(Keep.new aG).trans (h3.mono lz)⟩
    clear jv hY hq;unfold optP nptr at qA;unfold nptr at qH
    gi_wp2_with ((first|refine⟨trivial,b_ _,?_⟩|refine⟨trivial,?_⟩);gi_at_call 174;refine(CallsIn.inRound l2 (xrv.2 qA)).mono ?_;rintro e W5 ⟨rfl,aG⟩;obtain⟨fn,tmps,assign,body,hy,eh⟩:=qH W5 aG;have MG:=(dr.below aG dr.lt).cell;have Gf:=rO W5 p)
    refine⟨b_ _,?_⟩
    refine eh.mono ?_
    clear eh qH
    rintro e W6 (⟨rfl,I7,rL⟩|⟨rfl,JT,rL⟩)
    ·gi_wp2_with fail
     exact⟨rL,I7⟩
    ·gi_wp2_with fail
     exact⟨rL,rfl,JT⟩
  case done =>
   rintro A ⟨hj,dr,bR,xY⟩ hD
   gi_wp2
   refine⟨by simp,.inl ⟨_,_,rfl,run_takeDeferred hD,?_⟩⟩
   exact⟨.tuple #[],by simp[results,results206,go_sem],⟨_,rfl⟩,.inl (hJ _ _ _ hj ((Keep.refl _ _).putObj (.inr (by omega)) _))⟩
  case stop =>
   rintro c pre A aC ⟨rfl,hx⟩ hD
   gi_wp2
   refine⟨by simp,.inl ⟨_,_,rfl,run_takeDeferred hD,?_⟩⟩
   exact⟨.tuple #[],by simp[results,results206,go_sem],⟨_,rfl⟩,.inr ⟨qap ws pre,qjy aC,nJ _ _ _ hx ((Keep.refl _ _).putObj (.inr (by omega)) _)⟩⟩
 unfold nptr at key ⊢
 go_enter func169,ntmps169
 go_wp2
 go_ret
 exact⟨rfl,rfl,key⟩
end
section
open Go.RowKit
variable {Ws hs n_ rest:List Wk}{b i:Nat}{x y:Wk}{L:List Ent}{A D d st sx u:Int}{k:List Bs}{s:SS}
theorem qfv(h:Ws[b]?=some x):qdq Ws b=joinB x.key:=by simp[qdq,h]
theorem qnu(h:Ws[b]?=some x):qub Ws b=x.num:=by simp[qub,h]
theorem qlg(L:List Ent)(Ws:List Wk)(a:Option Nat)(i:Nat):
  (∀b0,a=some b0->∃b,pickStep L Ws a i=some b/\Op.bytesLess (qdq Ws b0) (qdq Ws b)=false)/\(∀x,Ws[i]?=some x->ownW L Ws x=true->∃b,pickStep L Ws a i=some b/\Op.bytesLess (qdq Ws i) (qdq Ws b)=false):=by
 unfold pickStep
 cases hx:Ws[i]? with
 |none=>exact⟨fun b0 h=>⟨b0,h,qb8 _⟩,fun x h=>by cases h⟩
 |some x =>
  have hp:=qfv hx
  simp only
  cases ho:ownW L Ws x with
  |false =>
   simp only[Bool.false_and,Bool.false_eq_true,if_false]
   exact⟨fun b0 h=>⟨b0,h,qb8 _⟩,fun y h h2=>by cases h;rw[ho]at h2;cases h2⟩
  |true =>
   simp only[Bool.true_and]
   cases a with
   |none =>
    simp only[if_true]
    exact⟨fun b0 h=>(by cases h),fun y h h2=>⟨i,rfl,qb8 _⟩⟩
   |some b0 =>
    simp only
    by_cases hl:Op.bytesLess (joinB x.key) (qdq Ws b0)=true
    ·simp only[hl,if_true]
     exact⟨fun b1 h=>⟨i,rfl,by cases h;rw[hp];exact qf1 _ _ hl⟩,fun y h h2=>⟨i,rfl,qb8 _⟩⟩
    ·simp only[hl,if_false]
     exact⟨fun b1 h=>⟨b1,h,qb8 _⟩,fun y h h2=>⟨b0,rfl,by rw[hp];simpa using hl⟩⟩
theorem qfo(L:List Ent)(Ws:List Wk):∀(l:List Nat) (a:Option Nat),
  (∀b0,a=some b0->∃b,l.foldl (pickStep L Ws) a=some b/\Op.bytesLess (qdq Ws b0) (qdq Ws b)=false)/\(∀i∈l,∀x,Ws[i]?=some x->ownW L Ws x=true->∃b,l.foldl (pickStep L Ws) a=some b/\Op.bytesLess (qdq Ws i) (qdq Ws b)=false)
 | [],a=>⟨fun b0 h=>⟨b0,h,qb8 _⟩,fun i hi=>by cases hi⟩
 |i::l,a=>by
  obtain⟨s1,s2⟩:=qlg L Ws a i;obtain⟨g1,g2⟩:=qfo L Ws l (pickStep L Ws a i);simp only[List.foldl_cons]
  refine⟨fun b0 h=>?_,fun j hj x hx ho=>?_⟩
  ·obtain⟨b1,aa,cQ⟩:=s1 b0 h;obtain⟨b2,af,da⟩:=g1 b1 aa
   exact⟨b2,af,qfe _ _ _ cQ da⟩
  ·rcases List.mem_cons.1 hj with rfl|hj
   ·obtain⟨b1,aa,cQ⟩:=s2 x hx ho;obtain⟨b2,af,da⟩:=g1 b1 aa
    exact⟨b2,af,qfe _ _ _ cQ da⟩
   ·exact g2 j hj x hx ho
theorem qk3(hS:∀x∈Ws,0<=x.st)(h:qa0 Ws x.key=some x):∃i,Ws[i]?=some x/\i∈qcn Ws:=by
 unfold qa0 at h;obtain⟨hp,l1,l2,he,a7⟩:=List.find?_eq_some_iff_append.1 h;simp only[Bool.and_eq_true,beq_iff_eq,decide_eq_true_eq]at hp;have hi:Ws[l1.length]?=some x:=by rw[he];simp
 refine⟨l1.length,hi,?_⟩
 unfold qcn qcw;rw[xrr,List.mem_range]
 refine⟨(xr0.1 hi).1,?_⟩
 unfold headAt;rw[hi]
 show qd7 Ws l1.length x=true
 unfold qd7;rw[he,List.take_left']
 ·simp only[Bool.and_eq_true,beq_iff_eq,List.all_eq_true,Bool.or_eq_true,decide_eq_true_eq]
  refine⟨hp.1,fun y hy=>?_⟩
  have h1:=a7 y hy;have h2:=hS y (by rw[he];simp[hy]);simp only[Bool.not_eq_true',Bool.and_eq_false_iff,beq_eq_false_iff_ne,decide_eq_false_iff_not]at h1
  rcases h1 with h1|h1
  ·left;omega
  ·right;exact h1
 ·rfl
theorem qob(hx:qa0 Ws x.key=some x)(hy:qa0 Ws y.key=some y)(e:x.key=y.key):x=y:=by
 rw[e,hy]at hx;cases hx;rfl
theorem qta(hW:Wks Ws)(hS:∀x∈Ws,0<=x.st)(hh:qa0 Ws x.key=some x)(ho:ownW L Ws x=true)(dR:∀y,qa0 Ws y.key=some y->ownW L Ws y=true->Op.bytesLess (joinB y.key) (joinB x.key)=false):∃b,qlq L Ws=some b/\Ws[b]?=some x:=by
 obtain⟨i,hi,hm⟩:=qk3 hS hh;obtain⟨b,hb,hn⟩:=(qfo L Ws (qcn Ws) none).2 i hm x hi ho;obtain⟨y,hy,vL,kK⟩:=qfc hb;have qH:=qcj hS hy vL;have h1:=dR y qH kK;rw[qfv hi,qfv hy]at hn;have h2:=qe5 (hW.ok y (qak qH).1).1 (hW.ok x (qak hh).1).1 (qk5 _ _ h1 hn)
 have:=qob qH hh h2
 subst this
 exact⟨b,hb,hy⟩
theorem qte(hS:∀x∈Ws,0<=x.st)(h:∀y,qa0 Ws y.key=some y->ownW L Ws y=false):qlq L Ws=none:=by
 cases hp:qlq L Ws with
 |none=>rfl
 |some b =>
  obtain⟨y,hy,vL,kK⟩:=qfc hp;rw[h y (qcj hS hy vL)]at kK;cases kK
theorem qnr{a b:Int×Int}(h:qc2 a b=true):qc2 b a=false:=by
 unfold qc2 at *;simp only[decide_eq_true_eq,decide_eq_false_iff_not]at *
 omega
theorem qlr(a:Int×Int):qc2 a a=false:=by
 unfold qc2
 simp
theorem qey{a b c:Int×Int}(ha:0<a.2)(hb:0<b.2)(hc:0<c.2)(h1:qc2 a b=false)(h2:qc2 b c=false):qc2 a c=false:=by
 unfold qc2 at *;simp only[decide_eq_false_iff_not,Int.not_lt]at *;have g1:b.1*a.2*c.2<=a.1*b.2*c.2:=Int.mul_le_mul_of_nonneg_right h1 (by omega);have g2:c.1*b.2*a.2<=b.1*c.2*a.2:=Int.mul_le_mul_of_nonneg_right h2 (by omega);have e1:b.1*a.2*c.2=b.1*c.2*a.2:=by ac_rfl
 have e2:c.1*b.2*a.2=c.1*a.2*b.2:=by ac_rfl
 have e3:a.1*b.2*c.2=a.1*c.2*b.2:=by ac_rfl
 rw[e1,e3]at g1;rw[e2]at g2
 exact Int.le_of_mul_le_mul_right (Int.le_trans g2 g1) hb
def icb (L:List Ent)(Ws:List Wk)(x y:Wk):Bool:=qc2 (qav L Ws x) (qav L Ws y)||(!qc2 (qav L Ws y) (qav L Ws x)&&decide (x.num<y.num))
theorem qdb(L:List Ent)(Ws:List Wk)(x:Wk):icb L Ws x x=false:=by
 unfold icb;rw[qlr];simp
theorem qh9:icb L Ws x y=false↔(qc2 (qav L Ws x) (qav L Ws y)=false/\(qc2 (qav L Ws y) (qav L Ws x)=true\/y.num<=x.num)):=by
 unfold icb
 cases qc2 (qav L Ws x) (qav L Ws y)<;>cases qc2 (qav L Ws y) (qav L Ws x)<;>simp
theorem qsn(h:icb L Ws x y=true):icb L Ws y x=false:=by
 rw[qh9];unfold icb at h;rw[Bool.or_eq_true,Bool.and_eq_true]at h
 rcases h with h|⟨h1,h2⟩
 ·exact⟨qnr h,.inl h⟩
 ·simp at h1 h2
  exact⟨h1,.inr (by omega)⟩
theorem qsm{n al:Int}(h4:0<=al):0<(shr u d n al).2:=by
 unfold shr
 split<;>simp<;>omega
theorem qjg{a b:Int×Int}(ha:0<a.2)(hb:0<b.2):0<(better a b).2:=by
 unfold better
 split<;>assumption
theorem qgo(E:Ents L)(Ws:List Wk)(x:Wk):0<(qav L Ws x).2:=by
 have:=qeo E []
 exact qjg (qjg (by decide) (qsm this.1.1)) (qsm this.2.1)
theorem qj0(E:Ents L){z:Wk}(h1:icb L Ws x y=false)(h2:icb L Ws y z=false):icb L Ws x z=false:=by
 rw[qh9]at *;have px:=qgo E Ws x;have py:=qgo E Ws y;have pz:=qgo E Ws z
 refine⟨qey px py pz h1.1 h2.1,?_⟩
 cases vT:qc2 (qav L Ws z) (qav L Ws x) with
 |true=>exact .inl rfl
 |false =>
  right
  have a1:qc2 (qav L Ws y) (qav L Ws x)=false:=qey py pz px h2.1 vT;have a2:qc2 (qav L Ws z) (qav L Ws y)=false:=qey pz px py vT h1.1
  rcases h1.2 with h3|h3
  ·rw[a1]at h3;cases h3
  ·rcases h2.2 with h4|h4
   ·rw[a2]at h4;cases h4
   ·omega
def qp2 (L:List Ent)(Ws:List Wk)(a:Option Nat×(Int×Int)):Prop:=∀b0,a.1=some b0->∃y,Ws[b0]?=some y/\a.2=qav L Ws y
def INlt (L:List Ent)(Ws:List Wk)(x:Wk)(r:Option Nat×(Int×Int)):Prop:=∃b y,r.1=some b/\Ws[b]?=some y/\icb L Ws x y=false
theorem qj5(Ws:List Wk){a:Option Nat×(Int×Int)}(ha:qp2 L Ws a)(i:Nat):
  qp2 L Ws (qa3 L Ws a i)/\(∀b0 y,a.1=some b0->Ws[b0]?=some y->INlt L Ws y (qa3 L Ws a i))/\(∀x,Ws[i]?=some x->qbm L Ws x=true->INlt L Ws x (qa3 L Ws a i)):=by
 unfold qa3
 cases hx:Ws[i]? with
 |none=>exact⟨ha,fun b0 y h hy=>⟨b0,y,h,hy,qdb ..⟩,fun x h=>by cases h⟩
 |some x =>
  simp only
  cases hf:qbm L Ws x with
  |false =>
   simp only[Bool.false_eq_true,if_false]
   exact⟨ha,fun b0 y h hy=>⟨b0,y,h,hy,qdb ..⟩,fun y h h2=>by cases h;rw[hf]at h2;cases h2⟩
  |true =>
   simp only[if_true];obtain⟨a1,a2⟩:=a
   cases a1 with
   |none =>
    simp only[if_true]
    refine⟨fun b0 h=>?_,fun b0 y h=>(by cases h),fun y h h2=>?_⟩
    ·cases h;exact⟨x,hx,rfl⟩
    ·cases h;exact⟨i,x,rfl,hx,qdb ..⟩
   |some b0 =>
    obtain⟨y,hy,hs⟩:=ha b0 rfl
    simp only at hs
    subst hs;simp only[qnu hy]
    show qp2 L Ws (if icb L Ws x y=true then _ else _)/\(∀EL y',some b0=some EL->Ws[EL]?=some y'->INlt L Ws y' (if icb L Ws x y=true then _ else _))/\(∀x',some x=some x'->qbm L Ws x'=true->INlt L Ws x' (if icb L Ws x y=true then _ else _))
    cases hc:icb L Ws x y with
    |true =>
     simp only[if_true]
     refine⟨fun b0 h=>?_,fun b1 z h hz=>?_,fun z h h2=>?_⟩
     ·cases h;exact⟨x,hx,rfl⟩
     ·cases h;rw[hy]at hz;cases hz;exact⟨i,x,rfl,hx,qsn hc⟩
     ·cases h;exact⟨i,x,rfl,hx,qdb ..⟩
    |false =>
     simp only[Bool.false_eq_true,if_false]
     refine⟨ha,fun b1 z h hz=>?_,fun z h h2=>?_⟩
     ·cases h;exact⟨b0,z,rfl,hz,qdb ..⟩
     ·cases h;exact⟨b0,y,rfl,hy,hc⟩
theorem qd4(E:Ents L)(Ws:List Wk):∀(l:List Nat) (a:Option Nat×(Int×Int)),qp2 L Ws a ->
  qp2 L Ws (l.foldl (qa3 L Ws) a)/\(∀b0 y,a.1=some b0->Ws[b0]?=some y->INlt L Ws y (l.foldl (qa3 L Ws) a))/\(∀i∈l,∀x,Ws[i]?=some x->qbm L Ws x=true->INlt L Ws x (l.foldl (qa3 L Ws) a))
 | [],a,ha=>⟨ha,fun b0 y h hy=>⟨b0,y,h,hy,qdb ..⟩,fun i hi=>by cases hi⟩
 |i::l,a,ha=>by
  obtain⟨s0,s1,s2⟩:=qj5 Ws ha i;obtain⟨g0,g1,g2⟩:=qd4 E Ws l _ s0;simp only[List.foldl_cons]
  refine⟨g0,fun b0 y h hy=>?_,fun j hj x hx ho=>?_⟩
  ·obtain⟨b1,z,aa,hz,cQ⟩:=s1 b0 y h hy;obtain⟨b2,u,af,hu,da⟩:=g1 b1 z aa hz
   exact⟨b2,u,af,hu,qj0 E cQ da⟩
  ·rcases List.mem_cons.1 hj with rfl|hj
   ·obtain⟨b1,z,aa,hz,cQ⟩:=s2 x hx ho;obtain⟨b2,u,af,hu,da⟩:=g1 b1 z aa hz
    exact⟨b2,u,af,hu,qj0 E cQ da⟩
   ·exact g2 j hj x hx ho
theorem qux(L:List Ent)(Ws:List Wk):qp2 L Ws (none,(0,0)):=fun b0 h=>by cases h
theorem qrw(hn:(Ws.map (·.num)).Nodup)(hx:x∈Ws)(hy:y∈Ws)(e:x.num=y.num):x=y:=by
 obtain⟨i,hi⟩:=xre hx;obtain⟨j,hj⟩:=xre hy
 have:=qhj hn hi hj e
 subst this;rw[hi]at hj;cases hj;rfl
theorem qnh(E:Ents L)(hN:(Ws.map (·.num)).Nodup)(hS:∀x∈Ws,0<=x.st)(hh:qa0 Ws x.key=some x)(ho:qbm L Ws x=true)(dR:∀y,qa0 Ws y.key=some y->qbm L Ws y=true->icb L Ws y x=false):∃b,qd1 L Ws=some b/\Ws[b]?=some x:=by
 obtain⟨i,hi,hm⟩:=qk3 hS hh;obtain⟨b,y,hb,hy,hn⟩:=(qd4 E Ws (qcn Ws) _ (qux L Ws)).2.2 i hm x hi ho;obtain⟨y',wW,vL,kK⟩:=qc7 hb;rw[hy]at wW;cases wW;have qH:=qcj hS hy vL;have h1:=dR y qH kK;rw[qh9]at h1 hn
 have:x=y:=by
  refine qrw hN (qak hh).1 (qak qH).1 ?_
  rcases h1.2 with h2|h2
  ·rw[hn.1]at h2;cases h2
  ·rcases hn.2 with h3|h3
   ·rw[h1.1]at h3;cases h3
   ·omega
 subst this
 exact⟨b,hb,hy⟩
theorem qnt(hS:∀x∈Ws,0<=x.st)(h:∀y,qa0 Ws y.key=some y->qbm L Ws y=false):qd1 L Ws=none:=by
 cases hp:qd1 L Ws with
 |none=>rfl
 |some b =>
  obtain⟨y,hy,vL,kK⟩:=qc7 hp;rw[h y (qcj hS hy vL)]at kK;cases kK
def ql1 (D:Int)(a:Int×Int)(A:Int):Prop:=0<a.2/\a.1*D=A*a.2
theorem qkf(hD:0<D){a b:Int×Int}{B:Int}(ha:ql1 D a A)(hb:ql1 D b B):a.1*b.2<b.1*a.2↔A<B:=by
 obtain⟨CA,ha⟩:=ha;obtain⟨af,hb⟩:=hb;have e1:a.1*b.2*D=A*(a.2*b.2):=by
  rw[show a.1*b.2*D=a.1*D*b.2 by ac_rfl,ha];ac_rfl
 have e2:b.1*a.2*D=B*(a.2*b.2):=by
  rw[show b.1*a.2*D=b.1*D*a.2 by ac_rfl,hb];ac_rfl
 have hq:0<a.2*b.2:=Int.mul_pos CA af
 constructor
 ·intro h
  have:=Int.mul_lt_mul_of_pos_right h hD
  rw[e1,e2]at this
  exact Int.lt_of_mul_lt_mul_right this (by omega)
 ·intro h
  have:=Int.mul_lt_mul_of_pos_right h hq
  rw[<-e1,<- e2]at this
  exact Int.lt_of_mul_lt_mul_right this (by omega)
theorem qg9(hD:0<D){a b:Int×Int}{B:Int}(ha:ql1 D a A)(hb:ql1 D b B):ql1 D (better a b) (max A B):=by
 have h:=qkf hD ha hb;unfold better
 split
 ·rename_i hl
  have:=h.1 hl
  rw[show max A B=B by omega]
  exact hb
 ·rename_i hl
  have:¬A<B:=fun e=>hl (h.2 e)
  rw[show max A B=A by omega]
  exact ha
def shp (L:List Ent)(Ws:List Wk)(x:Wk):Int :=
 max (max 0 (ws0 (qae Ws (joinB x.key))+x.d0-es0 (qaf L (joinB x.key)))*max 1 (es1 (qaf L []))) (max 0 (ws1 (qae Ws (joinB x.key))+x.d1-es1 (qaf L (joinB x.key)))*max 1 (es0 (qaf L [])))
theorem qmd{n al o:Int}(ee:0<=al)(h0:al=0->u+d-n<=0):ql1 (max 1 al*max 1 o) (shr u d n al) (max 0 (u+d-n)*max 1 o):=by
 unfold shr
 split
 ·rename_i h
  refine⟨by decide,?_⟩
  have:max 0 (u+d-n)=0:=by
   rcases h with h|h
   ·have:=h0 h;omega
   ·omega
  rw[this];simp
 ·rename_i h
  have h1:al≠0:=fun e=>h (.inl e)
  have h2:¬(u+d-n<0):=fun e=>h (.inr e)
  refine⟨show 0<al by omega,?_⟩
  rw[show max 0 (u+d-n)=u+d-n by omega,show max 1 al=al by omega]
  simp only
  ac_rfl
def Plain(L:List Ent)(Ws:List Wk)(x:Wk):Prop :=
 (es0 (qaf L [])=0->ws0 (qae Ws (joinB x.key))+x.d0-es0 (qaf L (joinB x.key))<=0)/\(es1 (qaf L [])=0->ws1 (qae Ws (joinB x.key))+x.d1-es1 (qaf L (joinB x.key))<=0)
theorem qef(E:Ents L)(h:Plain L Ws x):ql1 (max 1 (es0 (qaf L []))*max 1 (es1 (qaf L []))) (qav L Ws x) (shp L Ws x):=by
 have hb:=qeo E [];have hD:0<max 1 (es0 (qaf L []))*max 1 (es1 (qaf L [])):=Int.mul_pos (by omega) (by omega);have p0:ql1 (max 1 (es0 (qaf L []))*max 1 (es1 (qaf L []))) (0,1) 0:=⟨by decide,by simp⟩;have p1:=qmd (o:=es1 (qaf L [])) hb.1.1 h.1;have p2:=qmd (o:=es0 (qaf L [])) hb.2.1 h.2;rw[Int.mul_comm (max 1 (es1 (qaf L []))) (max 1 (es0 (qaf L [])))]at p2;have p3:=qg9 hD (qg9 hD p0 p1) p2;have hn:0<=max 0 (ws0 (qae Ws (joinB x.key))+x.d0-es0 (qaf L (joinB x.key)))*max 1 (es1 (qaf L [])):=Int.mul_nonneg (by omega) (by omega);unfold qav shp;rw[show max 0 (max 0 (ws0 (qae Ws (joinB x.key))+x.d0-es0 (qaf L (joinB x.key)))*max 1 (es1 (qaf L [])))=max 0 (ws0 (qae Ws (joinB x.key))+x.d0-es0 (qaf L (joinB x.key)))*max 1 (es1 (qaf L [])) by omega]at p3
 exact p3
theorem qvx(E:Ents L)(hx:Plain L Ws x)(hy:Plain L Ws y):icb L Ws x y=(decide (shp L Ws x<shp L Ws y)||(decide (shp L Ws x=shp L Ws y)&&decide (x.num<y.num))):=by
 have hD:0<max 1 (es0 (qaf L []))*max 1 (es1 (qaf L [])):=Int.mul_pos (by omega) (by omega);have h1:=qkf hD (qef E hx) (qef E hy);have h2:=qkf hD (qef E hy) (qef E hx);unfold icb qc2;have e1:decide ((qav L Ws x).1*(qav L Ws y).2<(qav L Ws y).1*(qav L Ws x).2)=decide (shp L Ws x<shp L Ws y):=decide_eq_decide.2 h1;have e2:decide ((qav L Ws y).1*(qav L Ws x).2<(qav L Ws x).1*(qav L Ws y).2)=decide (shp L Ws y<shp L Ws x):=decide_eq_decide.2 h2;rw[e1,e2]
 rcases Int.lt_trichotomy (shp L Ws x) (shp L Ws y) with h|h|h
 ·simp[h]
 ·simp[h]
 ·simp only[show ¬(shp L Ws x<shp L Ws y) by omega,show ¬(shp L Ws x=shp L Ws y) by omega,h,decide_true,decide_false];simp
theorem qqw(h:Ws[b]?=some x):stAt Ws b=x.st:=by simp[stAt,h]
theorem qet(L:List Ent)(Ws:List Wk)(x:Wk):∀n k u,k<n->Ws[k]?=some u->u.st≠0->way L Ws x u=true->∃b w,qaq L Ws x n=some b/\Ws[b]?=some w/\u.st<=w.st
 |0,k,u,hk,_,_,_=>by omega
 |n+1,k,u,hk,hu,h0,hw=>by
  rw[qda];unfold qpe
  cases hv:Ws[n]? with
  |none =>
   have:k≠n:=fun e=>by subst e;rw[hv]at hu;cases hu
   exact qet L Ws x n k u (by omega) hu h0 hw
  |some v =>
   simp only
   by_cases e:k=n
   ·subst e;rw[hv]at hu;cases hu
    cases hs:skips Ws (qaq L Ws x k) u with
    |false =>
     simp only[Bool.false_eq_true,if_false,hw,if_true]
     exact⟨k,u,rfl,hv,Int.le_refl _⟩
    |true =>
     simp only[if_true];unfold skips at hs;rw[show(u.st == 0)=false by simp[h0],Bool.false_or]at hs
     cases hb:qaq L Ws x k with
     |none=>rw[hb]at hs;cases hs
     |some b =>
      rw[hb]at hs;simp only[decide_eq_true_eq]at hs;obtain⟨w,en,_⟩:=qa5 L Ws x k b hb;rw[qqw en]at hs
      exact⟨b,w,rfl,en,by omega⟩
   ·obtain⟨b,w,hb,cn,dV⟩:=qet L Ws x n k u (by omega) hu h0 hw
    cases hs:skips Ws (qaq L Ws x n) v with
    |true=>simp only[if_true];exact⟨b,w,hb,cn,dV⟩
    |false =>
     simp only[Bool.false_eq_true,if_false]
     cases Gu:way L Ws x v with
     |false=>simp only[Bool.false_eq_true,if_false];exact⟨b,w,hb,cn,dV⟩
     |true =>
      simp only[if_true]
      refine⟨n,v,rfl,hv,?_⟩
      unfold skips at hs;rw[hb]at hs;simp only[Bool.or_eq_false_iff,decide_eq_false_iff_not]at hs
      have:=hs.2
      rw[qqw cn]at this
      omega
theorem qq1(hn:((Ws.filter fun x=>decide (0<x.st)).map (·.st)).Nodup)(hx:x∈Ws)(hy:y∈Ws)(wV:0<x.st)(qh:0<y.st)(e:x.st=y.st):x=y:=by
 have lK:x∈Ws.filter fun x=>decide (0<x.st):=xrr.2 ⟨hx,by simpa using wV⟩
 have wW:y∈Ws.filter fun x=>decide (0<x.st):=xrr.2 ⟨hy,by simpa using qh⟩
 obtain⟨i,hi⟩:=xre lK;obtain⟨j,hj⟩:=xre wW
 have:=qhj hn hi hj e
 subst this;rw[hi]at hj;cases hj;rfl
theorem qqd(hS:WkS Ws st)(x:Wk){v:Wk}(hv:v∈Ws)(h0:0<v.st)(hw:way L Ws x v=true)(d_:∀u∈Ws,0<u.st->way L Ws x u=true->u.st<=v.st):∃i,qch L Ws x=some i/\Ws[i]?=some v:=by
 obtain⟨k,hk⟩:=xre hv;obtain⟨b,w,hb,cn,dV⟩:=qet L Ws x Ws.length k v (xr0.1 hk).1 hk (by omega) hw;obtain⟨w',Gs,qc,Gu⟩:=qa5 L Ws x _ b hb;rw[cn]at Gs;cases Gs;have Ee:=xr2 cn;have Na:=(hS.st w Ee).1
 have:=d_ w Ee (by omega) Gu
 have:=qq1 hS.sts hv Ee h0 (by omega) (by omega)
 subst this
 exact⟨b,hb,cn⟩
theorem qji(h:∀u∈Ws,u.st≠0->way L Ws x u=false):qch L Ws x=none:=by
 cases hv:qch L Ws x with
 |none=>rfl
 |some i =>
  obtain⟨v,hv,h0,hw⟩:=qa5 L Ws x _ i hv;rw[h v (xr2 hv) h0]at hw;cases hw
theorem qtz(h:qbm L Ws x=true)(v:Wk):way L Ws x v=false:=by
 unfold qbm at h;rw[List.all_eq_true]at h;unfold way;rw[List.any_eq_false];intro e he
 have:=h e he
 unfold tight at this;unfold way0 way1
 cases h1:inB (joinB x.key) (joinB e.key)
 ·simp
 ·rw[h1]at this;simp only[Bool.true_and,Bool.not_eq_true',Bool.or_eq_false_iff]at this;rw[this.1,this.2]
  simp
theorem qfr(h:qbm L Ws x=true):qch L Ws x=none:=qji fun u _ _=>qtz h u
theorem qfu{s:MS}:roomStep L x s=none↔qch L s.Ws x=none:=by
 constructor
 ·intro h
  cases hv:qch L s.Ws x with
  |none=>rfl
  |some i =>
   unfold roomStep at h
   split at h
   ·rename_i hf;rw[qfr hf]at hv;cases hv
   ·rw[hv]at h;obtain⟨v,dg,_⟩:=qa5 L s.Ws x _ i hv
    simp only at h
    rw[dg]at h
    cases h
 ·intro h;unfold roomStep
  split
  ·rfl
  ·rw[h]
theorem qe1{s:MS}{v:Wk}(h:qch L s.Ws x=some i)(hv:s.Ws[i]?=some v):roomStep L x s=some ⟨v.adm 0::(s.Ws.take i++s.Ws.drop (i+1)),s.evs++[(2,v.num)]⟩:=by
 unfold roomStep
 split
 ·rename_i hf;rw[qfr hf]at h;cases h
 ·rw[h]
  simp only
  rw[hv]
structure qb2 (L:List Ent) (Ws:List Wk) (hs:List Wk):Prop where
 nd:hs.Nodup
 all:∀y,y∈hs↔(qa0 Ws y.key=some y/\ownW L Ws y=true)
theorem qb2.perm(h:qb2 L Ws hs)(hp:hs.Perm n_):qb2 L Ws n_ :=
 ⟨hp.nodup_iff.1 h.nd,fun y=>hp.mem_iff.symm.trans (h.all y)⟩
theorem qb2.qis(h:qb2 L Ws hs)(hA:Anti Ws)(hW:Wks Ws){v:Wk}(hi:Ws[i]?=some v)(hv:0<v.st)(ho:qq0 L Ws v.key):qb2 L (v.adm 0::(Ws.take i++Ws.drop (i+1))) hs:=by
 refine⟨h.nd,fun y=>(h.all y).trans ?_⟩
 have vC:=xr2 hi;rw[qdn hi hv]
 constructor
 ·rintro⟨h1,h2⟩
  obtain⟨y1,_,_⟩:=qak h1;have hd:=hW.num y y1;have hk:v.key≠y.key:=fun e=>qg7 ⟨hd.1.1,hd.2.1⟩ h2 (e ▸ ho)
  rw[if_neg hk,qce hi hv (hA.not vC y1 hk)]
  exact⟨h1,h2⟩
 ·rintro⟨h1,h2⟩
  by_cases hk:v.key=y.key
  ·rw[if_pos hk]at h1
   cases h1
   rw[qd6 hi hv ho]at h2;cases h2
  ·rw[if_neg hk]at h1;rw[qce hi hv (hA.not vC (qak h1).1 hk)]at h2
   exact⟨h1,h2⟩
theorem qb2.step{s s':MS}(h:qb2 L s.Ws hs)(R:RInv L x st s.Ws)(he:roomStep L x s=some s'):qb2 L s'.Ws hs:=by
 obtain⟨i,v,rW,hf,hv,h0,hw,rfl⟩:=qgb he;have bW:=(R.wks.st v (xr2 hv)).1
 exact h.qis R.anti R.wks.wks hv (by omega) (qoh hw)
theorem qb2.room:∀(n:Nat) (s:MS),RInv L x st s.Ws->qb2 L s.Ws hs->qb2 L (room L x n s).Ws hs
 |0,s,R,h=>h
 |n+1,s,R,h=>by
  simp only[Proofs.YtphclnolomgjoaaGreatDoor.room]
  cases he:roomStep L x s with
  |none=>exact h
  |some s'=>exact qb2.room n s' (R.step he).1 (h.step R he)
def moreOwn(L:List Ent)(Ws:List Wk)(k:List Bs):List Wk:=match qa0 Ws k with
 |some z=>if ownW L Ws z then [z] else []
 |none=>[]
theorem qhp:y∈moreOwn L Ws k↔(qa0 Ws k=some y/\ownW L Ws y=true):=by
 unfold moreOwn
 cases h:qa0 Ws k with
 |none=>simp
 |some z =>
  simp only
  split
  ·rename_i ho;simp;constructor
   ·rintro rfl;exact⟨rfl,ho⟩
   ·rintro⟨e,_⟩;exact e.symm
  ·rename_i ho;simp;rintro rfl;simpa using ho
theorem qo4(L:List Ent)(Ws:List Wk)(k:List Bs):(moreOwn L Ws k).Nodup:=by
 unfold moreOwn
 split
 ·split<;>simp
 ·simp
theorem qb2.admit(h:qb2 L Ws (x::rest))(hA:Anti Ws)(hi:Ws[i]?=some x){t:Int}(ht:0<t):qb2 L (Ws.set i (x.adm t)) (moreOwn L (Ws.set i (x.adm t)) x.key++rest):=by
 obtain⟨hx,ho⟩:=(h.all x).1 (List.mem_cons_self ..);obtain⟨x1,x2,_⟩:=qak hx;have df:=List.nodup_cons.1 h.nd;have jV:∀y∈rest,x.key≠y.key:=fun y hy e=>df.1 (by
  have:=qob hx ((h.all y).1 (xru _ hy)).1 e
  rw[this];exact hy)
 refine⟨?_,fun y=>?_⟩
 ·rw[List.nodup_append]
  refine⟨qo4 ..,df.2,fun a ha b hb e=>?_⟩
  subst e
  exact jV a hb (qak (qhp.1 ha).1).2.2.symm
 ·rw[xri,qhp]
  constructor
  ·rintro(⟨h1,h2⟩|h1)
   ·rw[(qak h1).2.2];exact⟨h1,h2⟩
   ·have hk:=jV y h1;obtain⟨g1,g2⟩:=(h.all y).1 (xru _ h1);rw[qcy hi ht hk,qdl hi x2 ht (hA.not x1 (qak g1).1 hk)]
    exact⟨g1,g2⟩
  ·rintro⟨h1,h2⟩
   by_cases hk:x.key=y.key
   ·left;rw[hk];exact⟨h1,h2⟩
   ·right
    rw[qcy hi ht hk]at h1;rw[qdl hi x2 ht (hA.not x1 (qak h1).1 hk)]at h2
    rcases List.mem_cons.1 ((h.all y).2 ⟨h1,h2⟩) with rfl|h3
    ·exact absurd rfl hk
    ·exact h3
theorem qb2.does(h:qb2 L s.Ws (x::rest))(I:SInv s)(dR:∀y∈rest,Op.bytesLess (joinB y.key) (joinB x.key)=false):
  ownStep L s=some (qcs L x s)/\RInv L x s.st s.Ws/\qb2 L (qcs L x s).Ws (moreOwn L (qcs L x s).Ws x.key++rest):=by
 obtain⟨hx,ho⟩:=(h.all x).1 (List.mem_cons_self ..);have R:RInv L x s.st s.Ws:=⟨I.wks,I.anti,hx,ho⟩;have mN:=I.st0
 refine⟨?_,R,?_⟩
 ·obtain⟨b,hb,dr⟩:=qta I.wks.wks (fun y hy=>(I.wks.st y hy).1) hx ho (fun y h1 h2=>by
   rcases List.mem_cons.1 ((h.all y).2 ⟨h1,h2⟩) with rfl|h3
   ·exact qb8 _
   ·exact dR y h3)
  unfold ownStep;rw[hb]
  simp only
  rw[dr]
 ·have g1:=(RInv.room (admN s.Ws) ⟨s.Ws,s.evs⟩ R).1;have g2:=qb2.room (admN s.Ws) ⟨s.Ws,s.evs⟩ R h;obtain⟨x1,_,_⟩:=qak g1.head;obtain⟨i,hi⟩:=xre x1;unfold qcs
  simp only
  rw[qfa g1.wks.nums hi]
  exact g2.admit g1.anti hi (by omega)
theorem qb2.ends(h:qb2 L s.Ws [])(I:SInv s):ownStep L s=none:=by
 unfold ownStep;rw[qte (fun y hy=>(I.wks.st y hy).1) (fun y hy=>by
  cases ho:ownW L s.Ws y with
  |false=>rfl
  |true=>exact absurd ((h.all y).2 ⟨hy,ho⟩) (by simp))]
theorem qwv{l l':List Wk}(h:l.Sublist l')(h0:∀x∈l',0<=x.d0/\0<=x.d1):ws0 l<=ws0 l'/\ws1 l<=ws1 l':=by
 induction h with
 |slnil=>simp[ws0,ws1]
 |cons a _ ih =>
  have h1:=ih (fun x hx=>h0 x (xru _ hx));have h2:=h0 a (List.mem_cons_self ..)
  simp[ws0,ws1]at h1 ⊢;omega
 |cons_cons a _ ih =>
  have h1:=ih (fun x hx=>h0 x (xru _ hx))
  simp[ws0,ws1]at h1 ⊢;omega
theorem qsp(s:Bs):inB s []=true:=by simp[inB]
theorem qju{α : Type}{p q : α -> Bool}(h:∀x,p x=true->q x=true):∀l:List α,(l.filter p).Sublist (l.filter q)
 | []=>by simp
 |a::l=>by
  rw[xrz,xrz];have ih:=qju h l
  cases hp:p a with
  |true=>rw[h a hp];simpa using ih
  |false =>
   cases hq:q a with
   |true=>simp;exact ih.trans (List.sublist_cons_self ..)
   |false=>simpa using ih
theorem qtb(hW:Wks Ws)(k:Bs):ws0 (qae Ws k)<=ws0 (qae Ws [])/\ws1 (qae Ws k)<=ws1 (qae Ws []):=by
 refine qwv (qju (fun x hx=>?_) Ws) (fun x hx=>?_)
 ·simp only[Bool.and_eq_true]at hx ⊢;exact⟨hx.1,qsp _⟩
 ·have:=hW.num x (xrr.1 hx).1;omega
def qrm (L:List Ent):Prop:=∃r∈L,r.key=[]/\r.b0=0/\r.b1=0
theorem qjn(E:Ents L)(hR:qrm L)(hW:Wks Ws)(h:qbm L Ws x=true):Plain L Ws x:=by
 obtain⟨r,hr,hk,cx,aa⟩:=hR;unfold qbm at h;rw[List.all_eq_true]at h
 have:=h r hr
 unfold tight sh0 sh1 at this;rw[hk,cx,aa]at this;simp only[show joinB []=[] from rfl,qsp,Bool.true_and,Bool.not_eq_true',Bool.or_eq_false_iff,decide_eq_false_iff_not]at this;have hu:=qtb hW (joinB x.key);have he:=qeo E (joinB x.key)
 exact⟨fun e=>by omega,fun e=>by omega⟩
theorem qhw(hi:Ws[i]?=some x)(hx:x.st=0){t:Int}(ht:0<t){k:Bs}(hn:inB (joinB x.key) k=false):ws0 (qae (Ws.set i (x.adm t)) k)=ws0 (qae Ws k)/\ws1 (qae (Ws.set i (x.adm t)) k)=ws1 (qae Ws k):=by
 have:=qie hi hx ht k
 rw[hn]at this
 simpa using this
theorem qex(hi:Ws[i]?=some x)(hx:x.st=0){t:Int}(ht:0<t)(hn:inB (joinB x.key) (joinB y.key)=false):shp L (Ws.set i (x.adm t)) y=shp L Ws y:=by
 have:=qhw hi hx ht hn
 unfold shp;rw[this.1,this.2]
theorem qpb(hW:Wks Ws)(hi:Ws[i]?=some x)(hx:x.st=0){t:Int}(ht:0<t)(h:qbm L (Ws.set i (x.adm t)) y=true):qbm L Ws y=true:=by
 unfold qbm at *;rw[List.all_eq_true]at *;intro e he;have h1:=h e he;have h2:=qie hi hx ht (joinB e.key);have h3:=hW.num x (xr2 hi);unfold tight sh0 sh1 at *
 cases h4:inB (joinB y.key) (joinB e.key)
 ·rfl
 ·rw[h4]at h1;simp only[Bool.true_and,Bool.not_eq_true',Bool.or_eq_false_iff,decide_eq_false_iff_not]at h1 ⊢;rw[h2.1,h2.2]at h1
  constructor
  ·have:=h1.1
   split at this<;>omega
  ·have:=h1.2
   split at this<;>omega
structure qbt (L:List Ent) (Ws:List Wk) (hs:List (Wk×Int)):Prop where
 nd:(hs.map fun p=>p.1.key).Nodup
 hd:∀p∈hs,qa0 Ws p.1.key=some p.1/\p.2=shp L Ws p.1
 all:∀y,qa0 Ws y.key=some y->qbm L Ws y=true->(y,shp L Ws y)∈hs
theorem qbt.perm{hs n_:List (Wk×Int)}(h:qbt L Ws hs)(hp:hs.Perm n_):qbt L Ws n_ :=
 ⟨(hp.map _).nodup_iff.1 h.nd,fun p hm=>h.hd p (hp.mem_iff.2 hm),fun y h1 h2=>hp.mem_iff.1 (h.all y h1 h2)⟩
theorem qbt.drop{p:Wk×Int}{rest:List (Wk×Int)}(h:qbt L Ws (p::rest))(hf:qbm L Ws p.1=false):qbt L Ws rest:=by
 refine⟨(List.nodup_cons.1 h.nd).2,fun q hq=>h.hd q (xru _ hq),fun y h1 h2=>?_⟩
 rcases List.mem_cons.1 (h.all y h1 h2) with e|h3
 ·rw[<-e]at hf;simp only at hf;rw[hf]at h2;cases h2
 ·exact h3
def qb5 (L:List Ent)(Ws:List Wk)(k:List Bs):List (Wk×Int):=match qa0 Ws k with
 |some z=>[(z,shp L Ws z)]
 |none=>[]
def before(a b:Wk×Int):Bool:=if a.2≠b.2 then decide (a.2<b.2) else decide (a.1.num<b.1.num)
theorem qig(a b:Wk×Int):before a b=(decide (a.2<b.2)||(decide (a.2=b.2)&&decide (a.1.num<b.1.num))):=by
 unfold before
 by_cases h:a.2=b.2
 ·simp[h]
 ·simp[h]
theorem qbt.does(E:Ents L)(hR:qrm L){rest:List (Wk×Int)}(h:qbt L s.Ws ((x,sx)::rest))(I:SInv s)(hf:qbm L s.Ws x=true)(dR:∀q∈rest,before q (x,sx)=false):
  ∃b,s.Ws[b]?=some x/\x.st=0/\qas L s=some (qds b x s)/\qbt L (qds b x s).Ws (qb5 L (qds b x s).Ws x.key++rest):=by
 obtain⟨hx,te⟩:=h.hd _ (List.mem_cons_self ..)
 simp only at hx te
 obtain⟨x1,x2,_⟩:=qak hx;have mN:=I.st0;have lU:=qjn E hR I.wks.wks hf;obtain⟨b,hb,dr⟩:=qnh E I.wks.nums (fun y hy=>(I.wks.st y hy).1) hx hf (fun y h1 h2=>by
  rw[qvx E (qjn E hR I.wks.wks h2) lU]
  rcases List.mem_cons.1 (h.all y h1 h2) with e|h3
  ·cases e;simp
  ·have:=dR _ h3
   rw[qig]at this
   simp only at this
   rw[te]at this
   exact this)
 refine⟨b,dr,x2,?_,?_⟩
 ·unfold qas;rw[hb]
  simp only
  rw[dr]
 ·have df:=List.nodup_cons.1 h.nd;have jV:∀q∈rest,x.key≠q.1.key:=fun q hq e=>df.1 (by
   show x.key∈rest.map fun p=>p.1.key
   rw[e];exact xrq.2 ⟨q,hq,rfl⟩)
  have ht:0<s.st+1:=by omega
  unfold qds
  simp only
  obtain⟨vZ,t_⟩:∃vZ,vZ=s.Ws.set b (x.adm (s.st+1)):=⟨_,rfl⟩;rw[<-t_];have sW:∀q∈qb5 L vZ x.key,qa0 vZ x.key=some q.1/\q.1.key=x.key/\q.2=shp L vZ q.1:=by
   intro q hq;unfold qb5 at hq
   cases hz:qa0 vZ x.key with
   |none=>rw[hz]at hq;cases hq
   |some z =>
    rw[hz]at hq
    simp at hq
    subst hq
    exact⟨rfl,(qak hz).2.2,rfl⟩
  refine⟨?_,fun q hq=>?_,fun y h1 h2=>?_⟩
  ·rw[List.map_append,List.nodup_append]
   refine⟨?_,df.2,fun a ha c hc e=>?_⟩
   ·unfold qb5
    split<;>simp
   ·obtain⟨q,hq,rfl⟩:=xrq.1 ha;obtain⟨q',qF,rfl⟩:=xrq.1 hc;rw[(sW q hq).2.1]at e
    exact jV q' qF e
  ·rcases xri.1 hq with hq|hq
   ·obtain⟨g1,g2,g3⟩:=sW q hq;rw[g2];exact⟨g1,g3⟩
   ·obtain⟨g1,g2⟩:=h.hd q (xru _ hq);rw[t_,qcy dr ht (jV q hq),qex dr x2 ht (I.anti.not x1 (qak g1).1 (jV q hq))]
    exact⟨g1,g2⟩
  ·rw[xri]
   by_cases hk:x.key=y.key
   ·left
    rw[hk];unfold qb5;rw[h1]
    simp
   ·right
    rw[t_]at h1 h2 ⊢;rw[qcy dr ht hk]at h1;have hm:=h.all y h1 (qpb I.wks.wks dr x2 ht h2);rw[qex dr x2 ht (I.anti.not x1 (qak h1).1 hk)]
    rcases List.mem_cons.1 hm with e|h3
    ·cases e;exact absurd rfl hk
    ·exact h3
theorem qbt.ends(h:qbt L s.Ws [])(I:SInv s):qas L s=none:=by
 unfold qas;rw[qnt (fun y hy=>(I.wks.st y hy).1) (fun y hy=>by
  cases ho:qbm L s.Ws y with
  |false=>rfl
  |true=>exact absurd (h.all y hy ho) (by simp))]
theorem qle(a b:Wk×Int)(h:before a b=true):before b a=false:=by
 rw[qig]at *
 simp at *
 omega
theorem qkr(a b c:Wk×Int)(h1:before a b=false)(h2:before b c=false):before a c=false:=by
 rw[qig]at *
 simp at *
 omega
end
end Go.Proofs.YtphclnolomgjoaaGreatDoor
