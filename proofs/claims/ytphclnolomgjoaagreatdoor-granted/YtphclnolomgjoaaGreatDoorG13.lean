import Derived.Test.YtphclnolomgjoaaGreatDoorG12
set_option linter.unusedVariables false
set_option linter.unusedSimpArgs false
set_option maxRecDepth 100000
set_option maxHeartbeats 4000000
namespace Go.Proofs.YtphclnolomgjoaaGreatDoor
open Tryz
section
open Go.RowKit Go.Shelf
variable {W W' w:World}{nodes:List Node}{B bt rr:Nat}{m r:Node}{vw:Value}{ws:List Pw}{T T':Nat->Prop}
attribute [local go_sem] Oper.semAt_some
structure Rw (W:World) (nodes:List Node) (bt rr:Nat) (r:Node) (vw:Value) (ws:List Pw):Prop where
 ins:∀n∈nodes,qaf W n
 rt:W.cell? ⟨rr,0,none⟩=some (nptr r.blk)
 bk:W.cell? ⟨rr,1,none⟩=some (.pointer (some ⟨bt,1,none⟩))
 wt:W.cell? ⟨bt,2,none⟩=some vw
 row:WRow W vw ws
 len:ws.length<=100
 leaf:∀p∈ws,∃n∈nodes,n.blk=p.q
structure qiq (nodes:List Node) (bt rr:Nat) (vw:Value) (ws:List Pw) (T:Nat->Prop):Prop where
 ns:∀n∈nodes,¬T n.blk/\∀g,n.sl.ownBlock=some g->¬T g
 rr:¬T rr
 bt:¬T bt
 vw:∀b,vw.ownBlock=some b->¬T b
 ws:∀p∈ws,¬T p.blk
theorem Rw.keep(h:Rw W nodes bt rr r vw ws)(hk:Keep T W W')(ho:qiq nodes bt rr vw ws T):Rw W' nodes bt rr r vw ws :=
 ⟨qe1 ho.ns h.ins hk,(hk.cell (p:=⟨rr,0,none⟩) (xrb _ _ h.rt) ho.rr).trans h.rt,(hk.cell (p:=⟨rr,1,none⟩) (xrb _ _ h.bk) ho.rr).trans h.bk,(hk.cell (p:=⟨bt,2,none⟩) (xrb _ _ h.wt) ho.bt).trans h.wt,⟨qae h.row.row hk ho.vw,fun p hp=>(h.row.works p hp).keep hk (ho.ws p hp)⟩,h.len,h.leaf⟩
theorem Rw.below(h:Rw W nodes bt rr r vw ws)(hb:Below W.heap.size W W'):Rw W' nodes bt rr r vw ws :=
 h.keep (T:=fun _=>False) (Keep.new hb) ⟨fun _ _=>⟨id,fun _ _=>id⟩,id,id,fun _ _=>id,fun _ _=>id⟩
theorem Rw.head(h:Rw W nodes bt rr r vw ws)(hm:m∈nodes):
  Calls prog 174 #[.pointer (some ⟨bt,1,none⟩),nptr m.blk] W fun e w'=>e=.returned (optP (qbw ws m.blk))/\Below W.heap.size W w':=qsn h.ins h.wt h.row h.len h.leaf hm
theorem Rw.lt(h:Rw W nodes bt rr r vw ws)(hB:W.heap.size<=B)(hT:∀b,T b->B<=b):qiq nodes bt rr vw ws T :=
 ⟨fun n hn=>⟨fun e=>by have:=(h.ins n hn).lt;have:=hT _ e;omega,fun g hg e=>by have:=((h.ins n hn).row.lt g hg).2;have:=hT _ e;omega⟩,fun e=>by have:=xrb _ _ h.bk;have:=hT _ e;simp at *;omega,fun e=>by have:=xrb _ _ h.wt;have:=hT _ e;simp at *;omega,fun b hb e=>by have:=qar h.row.row hb;have:=hT _ e;omega,fun p hp e=>by have:=(h.row.works p hp).lt;have:=hT _ e;omega⟩
theorem qiq.or(h:qiq nodes bt rr vw ws T)(h':qiq nodes bt rr vw ws T'):qiq nodes bt rr vw ws (fun b=>T b\/T' b) :=
 ⟨fun n hn=>⟨fun e=>e.elim (h.ns n hn).1 (h'.ns n hn).1,fun g hg e=>e.elim ((h.ns n hn).2 g hg) ((h'.ns n hn).2 g hg)⟩,fun e=>e.elim h.rr h'.rr,fun e=>e.elim h.bt h'.bt,fun b hb e=>e.elim (h.vw b hb) (h'.vw b hb),fun p hp e=>e.elim (h.ws p hp) (h'.ws p hp)⟩
def qau (ws:List Pw)(l:List Node):List Pw:=l.filterMap fun n=>qbw ws n.blk
theorem qn0(ws:List Pw)(l:List Node)(n:Node):qau ws (l++[n])=qau ws l++(qbw ws n.blk).toList:=by
 unfold qau;rw[List.filterMap_append]
 cases h:qbw ws n.blk<;>simp[List.filterMap_cons,h]
theorem qkf{a b:List Node}(h:a <+: b):qau ws a <+: qau ws b:=by
 obtain⟨t,rfl⟩:=h;unfold qau;rw[List.filterMap_append]
 exact xry _ _
theorem qmm(T0:Tree nodes){ch:Node->List Node}(K0:Kids nodes ch)(h:Rw w nodes bt rr r vw ws)(hr:r∈nodes):
  Calls prog 169 #[.pointer (some ⟨rr,0,none⟩)] w fun e w'=>e=.returned (.func (.func 206) #[] #[.pointer (some ⟨w.heap.size,0,none⟩)])/\w'=w.alloc (.cells #[.pointer (some ⟨rr,0,none⟩)] 186) /\
   ∀T:Nat->Prop,(∀b,T b->b<w.heap.size)->qiq nodes bt rr vw ws T ->
    SeqM prog 206 #[.pointer (some ⟨w.heap.size,0,none⟩)] (fun p:Pw=>#[nptr p.blk]) (fun _=>False) 4 T (qau ws (dfs ch 4 r)) w':=by
 have jJ:∀(fn:Fn) (first cap:Array Value) (w:World),(Instr.makeFunc fn first cap).run prog w=.ok (.func fn first cap) w:=fun _ _ _ _=>rfl
 have key:∀T:Nat->Prop,(∀b,T b->b<w.heap.size)->qiq nodes bt rr vw ws T ->
    SeqM prog 206 #[.pointer (some ⟨w.heap.size,0,none⟩)] (fun p:Pw=>#[nptr p.blk]) (fun _=>False) 4 T (qau ws (dfs ch 4 r)) (w.alloc (.cells #[.pointer (some ⟨rr,0,none⟩)] 186)):=by
  intro T oo Bj k ll J Jx W dq hl mX hJ jz hY h0;have bu:∀k:Nat,Fence.wide.depth.isSome=true->1<=k:=fun k h=>by simp[Fence.wide]at h
  have db:Below w.heap.size w W:=qac (show Below w.heap.size w (w.alloc (.cells #[.pointer (some ⟨rr,0,none⟩)] 186)) by exact bel2) dq;have x1:Box W w.heap.size 186 (.pointer (some ⟨rr,0,none⟩)):=(Box.new w 186 _).below dq (by simp);have jv:w.heap.size<W.heap.size:=x1.lt;have xg:rr<w.heap.size:=by have:=xrb w _ h.rt;simpa using this
  have ki:w.heap.size+1<=ll:=by simpa using hl
  have aC:=fun W' (aX:∀n∈nodes,qaf W' n)=>qit T0 K0 hr W' aX
  have yZ:=fun x (hx:x∈dfs ch 4 r)=>qk7 K0 4 r hr x hx
  have vv:=h.below db;have eN:(W.alloc (.cells #[.func (.yield ll) #[] #[]] 232)).cell? ⟨w.heap.size,0,none⟩=some (.pointer (some ⟨rr,0,none⟩)):=(World.cell?_alloc_lt _ _ _ (by simp;omega)).trans x1.cell;have Ax:(W.alloc (.cells #[.func (.yield ll) #[] #[]] 232)).cell? ⟨rr,0,none⟩=some (.pointer (some ⟨r.blk,0,none⟩)):=(World.cell?_alloc_lt _ _ _ (by simp;omega)).trans vv.rt;generalize hX:dfs ch 4 r=X at aC yZ hY ⊢;clear hX
  refine callsIn_of_wp_marks func206 rfl trivial ?_ rfl
  unfold nptr at aC;simp only[ntmps206,List.size_toArray,List.length_cons,List.length_nil,Nat.reduceAdd,Nat.reduceSub,Array.replicate_succ,Array.replicate_zero,List.push_toArray,List.append_toArray,List.nil_append,List.cons_append]
  gi_wp2_with ((first|refine⟨trivial,bu _,?_⟩|refine⟨trivial,?_⟩);gi_at_call 101;refine(xrv.2 (aC _ (fun n hn=>(vv.ins n hn).below (by exact bel1)))).mono ?_;rintro e W3 ⟨rfl,rfl,aB⟩)
  obtain⟨W3,dX⟩:∃W3,W3=(W.alloc (.cells #[.func (.yield ll) #[] #[]] 232)).alloc (.cells #[.pointer (some ⟨r.blk,0,none⟩)] 97):=⟨_,rfl⟩;have zt:W3.heap.size=W.heap.size+2:=by rw[dX];simp
  have z1:Box W3 W.heap.size 232 (.func (.yield ll) #[] #[]):=by rw[dX];exact(Box.new W 232 _).alloc _
  have eH:Below W.heap.size W W3:=by rw[dX];exact bel2
  rw[xrt]at aB;simp only[<-dX]at aB ⊢;have lj:∀l0 B:Nat,w.heap.size<=l0->w.heap.size<=B->qiq nodes bt rr vw ws (fun b=>T b\/(b=l0\/B<=b)):=fun l0 B h1 h2=>Bj.or (h.lt (Nat.le_refl _) (fun b e=>by omega))
  have hq:SeqM prog 149 #[.pointer (some ⟨W.heap.size+1,0,none⟩)] (fun x:Node=>#[.pointer (some ⟨x.blk,0,none⟩)]) (fun _=>False) 0 (fun b=>T b\/b=ll) X W3:=qts (fun B l0 h1 h2=>aB _ (fun n hn=>by
   have o1:=(lj ll w.heap.size (by omega) (Nat.le_refl _)).ns n hn;have o2:=(lj l0 B (by omega) (by omega)).ns n hn
   refine⟨fun e=>?_,fun g hg e=>?_⟩
   ·rcases e with (e|e)|e
    ·exact o1.1 (.inl e)
    ·exact o1.1 (.inr (.inl e))
    ·exact o2.1 (.inr e)
   ·rcases e with (e|e)|e
    ·exact o1.2 g hg (.inl e)
    ·exact o1.2 g hg (.inr (.inl e))
    ·exact o2.2 g hg (.inr e)))
  clear aB aC dX eN Ax;have aF:∀b,False\/(W3.heap.size<=b/\b<W3.heap.size+2+0)->False\/(W.heap.size<=b/\b<W.heap.size+4):=fun b e=>e.imp id (fun e=>by omega)
  have rW:qiq nodes bt rr vw ws (fun b=>False\/(W3.heap.size<=b/\b<W3.heap.size+2+0)):=h.lt (Nat.le_refl _) (fun b e=>by
   rcases e with e|e
   ·exact e.elim
   ·omega)
  refine qhq (T:=fun b=>T b\/b=ll) (S:=fun _=>False) rfl (enters_of func149 (by kernel_rfl) rfl) hq (Below.refl _ _) (fun _=>rfl) (fun b e=>e.elim) (fun b e=>by
    rcases e with e|e
    ·have:=oo _ e;omega
    ·omega)
   (fun (pre:List Node) A=>J (qau ws pre) A/\Box A W.heap.size 232 (.func (.yield ll) #[] #[])/\Box A w.heap.size 186 (.pointer (some ⟨rr,0,none⟩))/\Rw A nodes bt rr r vw ws)
   (fun c (pre:List Node) A=>c=.ret/\Jx (qau ws pre) A)
   (fun pre A B hs hk=>⟨hJ _ _ _ hs.1 (hk.mono aF),hs.2.1.keep hk (fun e=>by rcases e with e|e;exact e;omega),hs.2.2.1.keep hk (fun e=>by rcases e with e|e;exact e;omega),hs.2.2.2.keep hk rW⟩)
   (fun c pre A B hs hk=>⟨hs.1,jz _ _ _ hs.2 (hk.mono aF)⟩)
   ⟨hJ _ _ _ h0 (Keep.new eH),z1,x1.below eH x1.lt,vv.below eH⟩
   (fun x=>{tmps:=#[.func (.yield ll) #[] #[],.pointer (some ⟨w.heap.size,0,none⟩),.pointer (some ⟨W.heap.size,0,none⟩),.pointer (some ⟨x.blk,0,none⟩),undef,.pointer (some ⟨rr,0,none⟩),.pointer (some ⟨rr,0,none⟩),.pointer (some ⟨rr,0,none⟩),.pointer (some ⟨r.blk,0,none⟩),.func (.func 149) #[] #[.pointer (some ⟨W.heap.size+1,0,none⟩)],.pointer (some ⟨x.blk,0,none⟩),undef,undef,undef,undef,undef,undef,undef,undef,undef,undef,undef,undef,undef,undef],defers:=[]}) ?assign ?body ?done ?stop
  case assign =>
   intro l x W K hK
   gi_wp2
   exact hK
  case body =>
   rintro l2 pre x W4 ⟨hj,cr,mI,qL⟩ df ax
   have bZ:=yZ x (ax.subset (by simp));have l_:=qL.head bZ;have nE:=mI.cell;have tG:=qL.bk;have f_:=qn0 ws pre x;have jM:=fun W (p:Pw)=>qhl (W:=W) (x:=p)
   have e9:=fun W=>qet (W:=W)
   cases hH:qbw ws x.blk with
   |none =>
    rw[hH]at l_ f_;have HS:Hid (qau ws (pre++[x])=qau ws pre):=show qau ws (pre++[x])=qau ws pre from by rw[f_];simp
    clear f_ hY hq;unfold optP nptr at l_
    gi_wp2_with ((first|refine⟨trivial,bu _,?_⟩|refine⟨trivial,?_⟩);gi_at_call 174;refine(CallsIn.inRound l2 (xrv.2 l_)).mono ?_;rintro e W5 ⟨rfl,bO⟩)
    refine⟨fun f h=>(by cases h),?_⟩
    gi_wp2
    exact⟨Keep.new bO,by rw[HS.out];exact hJ _ _ _ hj (Keep.new bO),cr.below bO cr.lt,mI.below bO mI.lt,qL.below bO⟩
   |some p =>
    rw[hH]at l_ f_;have HS:Hid (qau ws (pre++[x])=qau ws pre++[p]):=show qau ws (pre++[x])=qau ws pre++[p] from by rw[f_];simp
    have gm:qau ws pre++[p] <+: qau ws X:=by rw[<-HS.out];exact qkf ax
    have mm:∀W5,Below W4.heap.size W4 W5->YieldAt Fence.wide (k-1) prog ll #[nptr p.blk] W5 fun e W'=>(e=.returned (.bool true)/\(J (qau ws (pre++[x])) W'/\Box W' W.heap.size 232 (.func (.yield ll) #[] #[])/\Box W' w.heap.size 186 (.pointer (some ⟨rr,0,none⟩))/\Rw W' nodes bt rr r vw ws)/\Keep (fun b=>(T b\/b=ll)\/W3.heap.size+2+0<=b) W4 W')\/(e=.returned (.bool false)/\Jx (qau ws (pre++[x])) W'/\Keep (fun b=>(T b\/b=ll)\/W3.heap.size+2+0<=b) W4 W'):=fun W5 bO=>by
     refine(hY (k-1) _ p W5 (hJ _ _ _ hj (Keep.new bO)) (by have:=bO.size;omega) gm).mono ?_
     have iy:∀b,(T b\/b=ll\/W.heap.size+4<=b)->((T b\/b=ll)\/W3.heap.size+2+0<=b):=fun b e=>by
      rcases e with e|e|e
      ·exact .inl (.inl e)
      ·exact .inl (.inr e)
      ·exact .inr (by omega)
     rintro e W' (⟨h1,h2,h3⟩|⟨h1,h2,h3⟩)
     ·refine .inl ⟨h1,⟨by rw[HS.out];exact h2,(cr.below bO cr.lt).keep h3 (fun e=>?_),(mI.below bO mI.lt).keep h3 (fun e=>?_),(qL.below bO).keep h3 (lj _ _ (by omega) (by omega))⟩,(Keep.new bO).trans (h3.mono iy)⟩
      ·rcases e with e|e|e
       ·have:=oo _ e;omega
       ·omega
       ·omega
      ·rcases e with e|e|e
       ·have:=oo _ e;omega
       ·omega
       ·omega
     ·exact .inr ⟨h1,by rw[HS.out];exact h2,(Keep.new bO).trans (h3.mono iy)⟩
    clear f_ hY hq;unfold optP nptr at l_;unfold nptr at mm
    gi_wp2_with ((first|refine⟨trivial,bu _,?_⟩|refine⟨trivial,?_⟩);gi_at_call 174;refine(CallsIn.inRound l2 (xrv.2 l_)).mono ?_;rintro e W5 ⟨rfl,bO⟩;obtain⟨fn,tmps,assign,body,hy,cU⟩:=mm W5 bO;have Ez:=(cr.below bO cr.lt).cell;have zk:=jM W5 p)
    refine⟨bu _,?_⟩
    refine cU.mono ?_
    clear cU mm
    rintro e W6 (⟨rfl,AY,wm⟩|⟨rfl,C9,wm⟩)
    ·gi_wp2_with fail
     exact⟨wm,AY⟩
    ·gi_wp2_with fail
     exact⟨wm,rfl,C9⟩
  case done =>
   rintro A ⟨hj,cr,mI,qL⟩ hD
   gi_wp2
   refine⟨by simp,.inl ⟨_,_,rfl,run_takeDeferred hD,?_⟩⟩
   exact⟨.tuple #[],by simp[results,results206,go_sem],⟨_,rfl⟩,.inl (hJ _ _ _ hj ((Keep.refl _ _).putObj (.inr (by omega)) _))⟩
  case stop =>
   rintro c pre A ax ⟨rfl,hx⟩ hD
   gi_wp2
   refine⟨by simp,.inl ⟨_,_,rfl,run_takeDeferred hD,?_⟩⟩
   exact⟨.tuple #[],by simp[results,results206,go_sem],⟨_,rfl⟩,.inr ⟨qau ws pre,qkf ax,jz _ _ _ hx ((Keep.refl _ _).putObj (.inr (by omega)) _)⟩⟩
 unfold nptr at key ⊢
 go_enter func169,ntmps169
 go_wp2
 go_ret
 exact⟨rfl,rfl,key⟩
end
section
open Go.RowKit
variable {D al d o st sx u:Int}{L:List Ent}{Ws hs jT rest:List Wk}{x y:Wk}{i:Nat}{k:List Bs}{s:SS}
def ql2 (D:Int)(a:Int×Int)(A:Int):Prop:=0<a.2/\a.1*D=A*a.2
theorem qlq(hD:0<D){a b:Int×Int}{A B:Int}(ha:ql2 D a A)(hb:ql2 D b B):a.1*b.2<b.1*a.2↔A<B:=by
 obtain⟨vB,ha⟩:=ha;obtain⟨ag,hb⟩:=hb;have e1:a.1*b.2*D=A*(a.2*b.2):=by
  rw[show a.1*b.2*D=a.1*D*b.2 by ac_rfl,ha];ac_rfl
 have e2:b.1*a.2*D=B*(a.2*b.2):=by
  rw[show b.1*a.2*D=b.1*D*a.2 by ac_rfl,hb];ac_rfl
 have hq:0<a.2*b.2:=Int.mul_pos vB ag
 constructor
 ·intro h
  have:=Int.mul_lt_mul_of_pos_right h hD
  rw[e1,e2]at this
  exact Int.lt_of_mul_lt_mul_right this (by omega)
 ·intro h
  have:=Int.mul_lt_mul_of_pos_right h hq
  rw[<-e1,<- e2]at this
  exact Int.lt_of_mul_lt_mul_right this (by omega)
theorem qh9(hD:0<D){a b:Int×Int}{A B:Int}(ha:ql2 D a A)(hb:ql2 D b B):ql2 D (better a b) (max A B):=by
 have h:=qlq hD ha hb;unfold better
 split
 ·rename_i hl
  have:=h.1 hl
  rw[show max A B=B by omega]
  exact hb
 ·rename_i hl
  have:¬A<B:=fun e=>hl (h.2 e)
  rw[show max A B=A by omega]
  exact ha
def shp (L:List Ent)(Ws:List Wk)(x:Wk):Int :=
 max (max 0 (ws0 (qah Ws (qaa x.key))+x.d0-es0 (qai L (qaa x.key)))*max 1 (es1 (qai L []))) (max 0 (ws1 (qah Ws (qaa x.key))+x.d1-es1 (qai L (qaa x.key)))*max 1 (es0 (qai L [])))
theorem qm4{n:Int}(da:0<=al)(h0:al=0->u+d-n<=0):ql2 (max 1 al*max 1 o) (shr u d n al) (max 0 (u+d-n)*max 1 o):=by
 unfold shr
 split
 ·rename_i h
  refine⟨by decide,?_⟩
  have:max 0 (u+d-n)=0:=by
   rcases h with h|h
   ·have:=h0 h;omega
   ·omega
  rw[this];simp
 ·rename_i h
  have h1:al≠0:=fun e=>h (.inl e)
  have h2:¬(u+d-n<0):=fun e=>h (.inr e)
  refine⟨show 0<al by omega,?_⟩
  rw[show max 0 (u+d-n)=u+d-n by omega,show max 1 al=al by omega]
  simp only
  ac_rfl
def Plain(L:List Ent)(Ws:List Wk)(x:Wk):Prop :=
 (es0 (qai L [])=0->ws0 (qah Ws (qaa x.key))+x.d0-es0 (qai L (qaa x.key))<=0)/\(es1 (qai L [])=0->ws1 (qah Ws (qaa x.key))+x.d1-es1 (qai L (qaa x.key))<=0)
theorem qe5(E:Ents L)(h:Plain L Ws x):ql2 (max 1 (es0 (qai L []))*max 1 (es1 (qai L []))) (qbi L Ws x) (shp L Ws x):=by
 have hb:=qiz E [];have hD:0<max 1 (es0 (qai L []))*max 1 (es1 (qai L [])):=Int.mul_pos (by omega) (by omega);have p0:ql2 (max 1 (es0 (qai L []))*max 1 (es1 (qai L []))) (0,1) 0:=⟨by decide,by simp⟩;have p1:=qm4 (o:=es1 (qai L [])) hb.1.1 h.1;have p2:=qm4 (o:=es0 (qai L [])) hb.2.1 h.2;rw[Int.mul_comm (max 1 (es1 (qai L []))) (max 1 (es0 (qai L [])))]at p2;have p3:=qh9 hD (qh9 hD p0 p1) p2;have hn:0<=max 0 (ws0 (qah Ws (qaa x.key))+x.d0-es0 (qai L (qaa x.key)))*max 1 (es1 (qai L [])):=Int.mul_nonneg (by omega) (by omega);unfold qbi shp;rw[show max 0 (max 0 (ws0 (qah Ws (qaa x.key))+x.d0-es0 (qai L (qaa x.key)))*max 1 (es1 (qai L [])))=max 0 (ws0 (qah Ws (qaa x.key))+x.d0-es0 (qai L (qaa x.key)))*max 1 (es1 (qai L [])) by omega]at p3
 exact p3
theorem qxd(E:Ents L)(hx:Plain L Ws x)(hy:Plain L Ws y):icb L Ws x y=(decide (shp L Ws x<shp L Ws y)||(decide (shp L Ws x=shp L Ws y)&&decide (x.num<y.num))):=by
 have hD:0<max 1 (es0 (qai L []))*max 1 (es1 (qai L [])):=Int.mul_pos (by omega) (by omega);have h1:=qlq hD (qe5 E hx) (qe5 E hy);have h2:=qlq hD (qe5 E hy) (qe5 E hx);unfold icb qej;have e1:decide ((qbi L Ws x).1*(qbi L Ws y).2<(qbi L Ws y).1*(qbi L Ws x).2)=decide (shp L Ws x<shp L Ws y):=decide_eq_decide.2 h1;have e2:decide ((qbi L Ws y).1*(qbi L Ws x).2<(qbi L Ws x).1*(qbi L Ws y).2)=decide (shp L Ws y<shp L Ws x):=decide_eq_decide.2 h2;rw[e1,e2]
 rcases Int.lt_trichotomy (shp L Ws x) (shp L Ws y) with h|h|h
 ·simp[h]
 ·simp[h]
 ·simp only[show ¬(shp L Ws x<shp L Ws y) by omega,show ¬(shp L Ws x=shp L Ws y) by omega,h,decide_true,decide_false];simp
structure qcg (L:List Ent) (Ws:List Wk) (hs:List Wk):Prop where
 nd:hs.Nodup
 all:∀y,y∈hs↔(qat Ws y.key=some y/\ownW L Ws y=true)
theorem qcg.perm(h:qcg L Ws hs)(hp:hs.Perm jT):qcg L Ws jT :=
 ⟨hp.nodup_iff.1 h.nd,fun y=>hp.mem_iff.symm.trans (h.all y)⟩
theorem qcg.qie(h:qcg L Ws hs)(hA:Anti Ws)(hW:Wks Ws){v:Wk}(hi:Ws[i]?=some v)(hv:0<v.st)(ho:qm3 L Ws v.key):qcg L (v.adm 0::(Ws.take i++Ws.drop (i+1))) hs:=by
 refine⟨h.nd,fun y=>(h.all y).trans ?_⟩
 have t_:=xr2 hi;rw[qeb hi hv]
 constructor
 ·rintro⟨h1,h2⟩
  obtain⟨y1,_,_⟩:=qaj h1;have hd:=hW.num y y1;have hk:v.key≠y.key:=fun e=>qh8 ⟨hd.1.1,hd.2.1⟩ h2 (e ▸ ho)
  rw[if_neg hk,qc4 hi hv (hA.not t_ y1 hk)]
  exact⟨h1,h2⟩
 ·rintro⟨h1,h2⟩
  by_cases hk:v.key=y.key
  ·rw[if_pos hk]at h1
   cases h1
   rw[qen hi hv ho]at h2;cases h2
  ·rw[if_neg hk]at h1;rw[qc4 hi hv (hA.not t_ (qaj h1).1 hk)]at h2
   exact⟨h1,h2⟩
theorem qcg.step{s s':MS}(h:qcg L s.Ws hs)(R:RInv L x st s.Ws)(he:qa4 L x s=some s'):qcg L s'.Ws hs:=by
 obtain⟨i,v,n_,hf,hv,h0,hw,rfl⟩:=qc6 he;have cH:=(R.wks.st v (xr2 hv)).1
 exact h.qie R.anti R.wks.wks hv (by omega) (qly hw)
theorem qcg.room:∀(n:Nat) (s:MS),RInv L x st s.Ws->qcg L s.Ws hs->qcg L (room L x n s).Ws hs
 |0,s,R,h=>h
 |n+1,s,R,h=>by
  simp only[Proofs.YtphclnolomgjoaaGreatDoor.room]
  cases he:qa4 L x s with
  |none=>exact h
  |some s'=>exact qcg.room n s' (R.step he).1 (h.step R he)
def qd0 (L:List Ent)(Ws:List Wk)(k:List Bs):List Wk:=match qat Ws k with
 |some z=>if ownW L Ws z then [z] else []
 |none=>[]
theorem qi9:y∈qd0 L Ws k↔(qat Ws k=some y/\ownW L Ws y=true):=by
 unfold qd0
 cases h:qat Ws k with
 |none=>simp
 |some z =>
  simp only
  split
  ·rename_i ho;simp;constructor
   ·rintro rfl;exact⟨rfl,ho⟩
   ·rintro⟨e,_⟩;exact e.symm
  ·rename_i ho;simp;rintro rfl;simpa using ho
theorem qqy(L:List Ent)(Ws:List Wk)(k:List Bs):(qd0 L Ws k).Nodup:=by
 unfold qd0
 split
 ·split<;>simp
 ·simp
theorem qcg.admit(h:qcg L Ws (x::rest))(hA:Anti Ws)(hi:Ws[i]?=some x){t:Int}(ht:0<t):qcg L (Ws.set i (x.adm t)) (qd0 L (Ws.set i (x.adm t)) x.key++rest):=by
 obtain⟨hx,ho⟩:=(h.all x).1 (List.mem_cons_self ..);obtain⟨x1,x2,_⟩:=qaj hx;have bQ:=List.nodup_cons.1 h.nd;have gL:∀y∈rest,x.key≠y.key:=fun y hy e=>bQ.1 (by
  have:=qpd hx ((h.all y).1 (xru _ hy)).1 e
  rw[this];exact hy)
 refine⟨?_,fun y=>?_⟩
 ·rw[List.nodup_append]
  refine⟨qqy ..,bQ.2,fun a ha b hb e=>?_⟩
  subst e
  exact gL a hb (qaj (qi9.1 ha).1).2.2.symm
 ·rw[xri,qi9]
  constructor
  ·rintro(⟨h1,h2⟩|h1)
   ·rw[(qaj h1).2.2];exact⟨h1,h2⟩
   ·have hk:=gL y h1;obtain⟨g1,g2⟩:=(h.all y).1 (xru _ h1);rw[qcw hi ht hk,qc3 hi x2 ht (hA.not x1 (qaj g1).1 hk)]
    exact⟨g1,g2⟩
  ·rintro⟨h1,h2⟩
   by_cases hk:x.key=y.key
   ·left;rw[hk];exact⟨h1,h2⟩
   ·right
    rw[qcw hi ht hk]at h1;rw[qc3 hi x2 ht (hA.not x1 (qaj h1).1 hk)]at h2
    rcases List.mem_cons.1 ((h.all y).2 ⟨h1,h2⟩) with rfl|h3
    ·exact absurd rfl hk
    ·exact h3
theorem qcg.does(h:qcg L s.Ws (x::rest))(I:SInv s)(ct:∀y∈rest,Op.bytesLess (qaa y.key) (qaa x.key)=false):
  qaz L s=some (qdj L x s)/\RInv L x s.st s.Ws/\qcg L (qdj L x s).Ws (qd0 L (qdj L x s).Ws x.key++rest):=by
 obtain⟨hx,ho⟩:=(h.all x).1 (List.mem_cons_self ..);have R:RInv L x s.st s.Ws:=⟨I.wks,I.anti,hx,ho⟩;have lB:=I.st0
 refine⟨?_,R,?_⟩
 ·obtain⟨b,hb,cr⟩:=qpm I.wks.wks (fun y hy=>(I.wks.st y hy).1) hx ho (fun y h1 h2=>by
   rcases List.mem_cons.1 ((h.all y).2 ⟨h1,h2⟩) with rfl|h3
   ·exact qcv _
   ·exact ct y h3)
  unfold qaz;rw[hb]
  simp only
  rw[cr]
 ·have g1:=(RInv.room (admN s.Ws) ⟨s.Ws,s.evs⟩ R).1;have g2:=qcg.room (admN s.Ws) ⟨s.Ws,s.evs⟩ R h;obtain⟨x1,_,_⟩:=qaj g1.head;obtain⟨i,hi⟩:=xre x1;unfold qdj
  simp only
  rw[qbn g1.wks.nums hi]
  exact g2.admit g1.anti hi (by omega)
theorem qcg.ends(h:qcg L s.Ws [])(I:SInv s):qaz L s=none:=by
 unfold qaz;rw[qvt (fun y hy=>(I.wks.st y hy).1) (fun y hy=>by
  cases ho:ownW L s.Ws y with
  |false=>rfl
  |true=>exact absurd ((h.all y).2 ⟨hy,ho⟩) (by simp))]
theorem qwz{l l':List Wk}(h:l.Sublist l')(h0:∀x∈l',0<=x.d0/\0<=x.d1):ws0 l<=ws0 l'/\ws1 l<=ws1 l':=by
 induction h with
 |slnil=>simp[ws0,ws1]
 |cons a _ ih =>
  have h1:=ih (fun x hx=>h0 x (xru _ hx));have h2:=h0 a (List.mem_cons_self ..)
  simp[ws0,ws1]at h1 ⊢;omega
 |cons_cons a _ ih =>
  have h1:=ih (fun x hx=>h0 x (xru _ hx))
  simp[ws0,ws1]at h1 ⊢;omega
theorem qsq(s:Bs):inB s []=true:=by simp[inB]
theorem qj8{α : Type}{p q : α -> Bool}(h:∀x,p x=true->q x=true):∀l:List α,(l.filter p).Sublist (l.filter q)
 | []=>by simp
 |a::l=>by
  rw[xrz,xrz];have ih:=qj8 h l
  cases hp:p a with
  |true=>rw[h a hp];simpa using ih
  |false =>
   cases hq:q a with
   |true=>simp;exact ih.trans (List.sublist_cons_self ..)
   |false=>simpa using ih
theorem qv9(hW:Wks Ws)(k:Bs):ws0 (qah Ws k)<=ws0 (qah Ws [])/\ws1 (qah Ws k)<=ws1 (qah Ws []):=by
 refine qwz (qj8 (fun x hx=>?_) Ws) (fun x hx=>?_)
 ·simp only[Bool.and_eq_true]at hx ⊢;exact⟨hx.1,qsq _⟩
 ·have:=hW.num x (xrr.1 hx).1;omega
def qrq (L:List Ent):Prop:=∃r∈L,r.key=[]/\r.b0=0/\r.b1=0
theorem qka(E:Ents L)(hR:qrq L)(hW:Wks Ws)(h:qbv L Ws x=true):Plain L Ws x:=by
 obtain⟨r,hr,hk,db,aa⟩:=hR;unfold qbv at h;rw[List.all_eq_true]at h
 have:=h r hr
 unfold tight sh0 sh1 at this;rw[hk,db,aa]at this;simp only[show qaa []=[] from rfl,qsq,Bool.true_and,Bool.not_eq_true',Bool.or_eq_false_iff,decide_eq_false_iff_not]at this;have hu:=qv9 hW (qaa x.key);have he:=qiz E (qaa x.key)
 exact⟨fun e=>by omega,fun e=>by omega⟩
theorem qjq(hi:Ws[i]?=some x)(hx:x.st=0){t:Int}(ht:0<t){k:Bs}(hn:inB (qaa x.key) k=false):ws0 (qah (Ws.set i (x.adm t)) k)=ws0 (qah Ws k)/\ws1 (qah (Ws.set i (x.adm t)) k)=ws1 (qah Ws k):=by
 have:=qd6 hi hx ht k
 rw[hn]at this
 simpa using this
theorem qfs(hi:Ws[i]?=some x)(hx:x.st=0){t:Int}(ht:0<t)(hn:inB (qaa x.key) (qaa y.key)=false):shp L (Ws.set i (x.adm t)) y=shp L Ws y:=by
 have:=qjq hi hx ht hn
 unfold shp;rw[this.1,this.2]
theorem qqk(hW:Wks Ws)(hi:Ws[i]?=some x)(hx:x.st=0){t:Int}(ht:0<t)(h:qbv L (Ws.set i (x.adm t)) y=true):qbv L Ws y=true:=by
 unfold qbv at *;rw[List.all_eq_true]at *;intro e he;have h1:=h e he;have h2:=qd6 hi hx ht (qaa e.key);have h3:=hW.num x (xr2 hi);unfold tight sh0 sh1 at *
 cases h4:inB (qaa y.key) (qaa e.key)
 ·rfl
 ·rw[h4]at h1;simp only[Bool.true_and,Bool.not_eq_true',Bool.or_eq_false_iff,decide_eq_false_iff_not]at h1 ⊢;rw[h2.1,h2.2]at h1
  constructor
  ·have:=h1.1
   split at this<;>omega
  ·have:=h1.2
   split at this<;>omega
structure qb9 (L:List Ent) (Ws:List Wk) (hs:List (Wk×Int)):Prop where
 nd:(hs.map fun p=>p.1.key).Nodup
 hd:∀p∈hs,qat Ws p.1.key=some p.1/\p.2=shp L Ws p.1
 all:∀y,qat Ws y.key=some y->qbv L Ws y=true->(y,shp L Ws y)∈hs
theorem qb9.perm{hs jT:List (Wk×Int)}(h:qb9 L Ws hs)(hp:hs.Perm jT):qb9 L Ws jT :=
 ⟨(hp.map _).nodup_iff.1 h.nd,fun p hm=>h.hd p (hp.mem_iff.2 hm),fun y h1 h2=>hp.mem_iff.1 (h.all y h1 h2)⟩
theorem qb9.drop{p:Wk×Int}{rest:List (Wk×Int)}(h:qb9 L Ws (p::rest))(hf:qbv L Ws p.1=false):qb9 L Ws rest:=by
 refine⟨(List.nodup_cons.1 h.nd).2,fun q hq=>h.hd q (xru _ hq),fun y h1 h2=>?_⟩
 rcases List.mem_cons.1 (h.all y h1 h2) with e|h3
 ·rw[<-e]at hf;simp only at hf;rw[hf]at h2;cases h2
 ·exact h3
def qct (L:List Ent)(Ws:List Wk)(k:List Bs):List (Wk×Int):=match qat Ws k with
 |some z=>[(z,shp L Ws z)]
 |none=>[]
def before(a b:Wk×Int):Bool:=if a.2≠b.2 then decide (a.2<b.2) else decide (a.1.num<b.1.num)
theorem qiv(a b:Wk×Int):before a b=(decide (a.2<b.2)||(decide (a.2=b.2)&&decide (a.1.num<b.1.num))):=by
 unfold before
 by_cases h:a.2=b.2
 ·simp[h]
 ·simp[h]
theorem qb9.does(E:Ents L)(hR:qrq L){rest:List (Wk×Int)}(h:qb9 L s.Ws ((x,sx)::rest))(I:SInv s)(hf:qbv L s.Ws x=true)(ct:∀q∈rest,before q (x,sx)=false):
  ∃b,s.Ws[b]?=some x/\x.st=0/\qap L s=some (qfg b x s)/\qb9 L (qfg b x s).Ws (qct L (qfg b x s).Ws x.key++rest):=by
 obtain⟨hx,nY⟩:=h.hd _ (List.mem_cons_self ..)
 simp only at hx nY
 obtain⟨x1,x2,_⟩:=qaj hx;have lB:=I.st0;have kl:=qka E hR I.wks.wks hf;obtain⟨b,hb,cr⟩:=qn2 E I.wks.nums (fun y hy=>(I.wks.st y hy).1) hx hf (fun y h1 h2=>by
  rw[qxd E (qka E hR I.wks.wks h2) kl]
  rcases List.mem_cons.1 (h.all y h1 h2) with e|h3
  ·cases e;simp
  ·have:=ct _ h3
   rw[qiv]at this
   simp only at this
   rw[nY]at this
   exact this)
 refine⟨b,cr,x2,?_,?_⟩
 ·unfold qap;rw[hb]
  simp only
  rw[cr]
 ·have bQ:=List.nodup_cons.1 h.nd;have gL:∀q∈rest,x.key≠q.1.key:=fun q hq e=>bQ.1 (by
   show x.key∈rest.map fun p=>p.1.key
   rw[e];exact xrq.2 ⟨q,hq,rfl⟩)
  have ht:0<s.st+1:=by omega
  unfold qfg
  simp only
  obtain⟨pI,oq⟩:∃pI,pI=s.Ws.set b (x.adm (s.st+1)):=⟨_,rfl⟩;rw[<-oq];have nO:∀q∈qct L pI x.key,qat pI x.key=some q.1/\q.1.key=x.key/\q.2=shp L pI q.1:=by
   intro q hq;unfold qct at hq
   cases hz:qat pI x.key with
   |none=>rw[hz]at hq;cases hq
   |some z =>
    rw[hz]at hq
    simp at hq
    subst hq
    exact⟨rfl,(qaj hz).2.2,rfl⟩
  refine⟨?_,fun q hq=>?_,fun y h1 h2=>?_⟩
  ·rw[List.map_append,List.nodup_append]
   refine⟨?_,bQ.2,fun a ha c hc e=>?_⟩
   ·unfold qct
    split<;>simp
   ·obtain⟨q,hq,rfl⟩:=xrq.1 ha;obtain⟨q',jR,rfl⟩:=xrq.1 hc;rw[(nO q hq).2.1]at e
    exact gL q' jR e
  ·rcases xri.1 hq with hq|hq
   ·obtain⟨g1,g2,g3⟩:=nO q hq;rw[g2];exact⟨g1,g3⟩
   ·obtain⟨g1,g2⟩:=h.hd q (xru _ hq);rw[oq,qcw cr ht (gL q hq),qfs cr x2 ht (I.anti.not x1 (qaj g1).1 (gL q hq))]
    exact⟨g1,g2⟩
  ·rw[xri]
   by_cases hk:x.key=y.key
   ·left
    rw[hk];unfold qct;rw[h1]
    simp
   ·right
    rw[oq]at h1 h2 ⊢;rw[qcw cr ht hk]at h1;have hm:=h.all y h1 (qqk I.wks.wks cr x2 ht h2);rw[qfs cr x2 ht (I.anti.not x1 (qaj h1).1 hk)]
    rcases List.mem_cons.1 hm with e|h3
    ·cases e;exact absurd rfl hk
    ·exact h3
theorem qb9.ends(h:qb9 L s.Ws [])(I:SInv s):qap L s=none:=by
 unfold qap;rw[qn3 (fun y hy=>(I.wks.st y hy).1) (fun y hy=>by
  cases ho:qbv L s.Ws y with
  |false=>rfl
  |true=>exact absurd (h.all y hy ho) (by simp))]
theorem ql5(a b:Wk×Int)(h:before a b=true):before b a=false:=by
 rw[qiv]at *
 simp at *
 omega
theorem qk2(a b c:Wk×Int)(h1:before a b=false)(h2:before b c=false):before a c=false:=by
 rw[qiv]at *
 simp at *
 omega
end
section
open Go.RowKit Go.Shelf
variable {nodes:List Node}{w:World}{bt rr:Nat}{va:Value}{l:List Pw}{p:Pw}{n:Node}
attribute [local go_sem] Oper.semAt_some
def shq0 (nodes:List Node)(l:List Pw)(m:Node)(a:Int):Int:=abv (ws0 (pun l m.key)+a) (pn0 nodes m.key+m.b0)
def shq1 (nodes:List Node)(l:List Pw)(m:Node)(a:Int):Int:=abv (ws1 (pun l m.key)+a) (pn1 nodes m.key+m.b1)
def okAt (nodes:List Node)(l:List Pw)(x:Wk)(m:Node):Bool:=(shq0 nodes l m x.d0 == 0)&&(shq1 nodes l m x.d1 == 0)
theorem qsf(T:Tree nodes)(hB:qa2 nodes)(h:Rd w nodes bt rr va l)(hp:PwIn w nodes p)(hn:n∈nodes)(gk:n.blk=p.q):
  Calls prog 180 #[.pointer (some ⟨rr,0,none⟩),nptr p.blk] w fun e w'=>e=.returned (.bool ((ups nodes 4 n).all (okAt nodes l p.x)))/\Below w.heap.size w w':=by
 have bu:∀k:Nat,Fence.wide.depth.isSome=true->1<=k:=fun k h=>by simp[Fence.wide]at h
 have dg:∀W,(∀n∈nodes,qaf W n)->_:=fun W hW=>que T hn W hW
 have af:=qjp T 4 n hn (T.ok n hn).2;have dR:=hp.at_.lt;have lr:=fun W (hW:Below w.heap.size w W)=>(hp.below hW).cells.2
 have fl:=fun W (hW:Below w.heap.size w W) m (hm:m∈nodes)=>qks T hB (h.below hW) hm p.x.d0 p.x.d1 hp.num.1 hp.num.2
 obtain⟨z1,_,_⟩:=lr w (Below.refl _ _);rw[gk]at dg;generalize hX:ups nodes 4 n=X at dg af ⊢
 refine(xrv (n:=3)).1 ?_
 refine callsIn_of_wp_marks func180 rfl trivial ?_ rfl
 unfold nptr at dg ⊢;have e1:¬(p.blk=w.heap.size):=by omega
 have e2:¬(p.blk=w.heap.size+1):=by omega
 have e3:¬(p.blk=w.heap.size+1+1):=by omega
 simp only[ntmps180,List.size_toArray,List.length_cons,List.length_nil,Nat.reduceAdd,Nat.reduceSub,Array.replicate_succ,Array.replicate_zero,List.push_toArray,List.append_toArray,List.nil_append,List.cons_append];have bh:Below w.heap.size w (((w.alloc (.cells #[.pointer (some ⟨rr,0,none⟩)] 186)).alloc (.cells #[.pointer (some ⟨p.blk,0,none⟩)] 95)).alloc (.cells #[.bool false] 4)):=by exact bel1
 have x2:Box (((w.alloc (.cells #[.pointer (some ⟨rr,0,none⟩)] 186)).alloc (.cells #[.pointer (some ⟨p.blk,0,none⟩)] 95)).alloc (.cells #[.bool false] 4)) w.heap.size 186 (.pointer (some ⟨rr,0,none⟩)):=((Box.new w 186 _).alloc _).alloc _;have x3:Box (((w.alloc (.cells #[.pointer (some ⟨rr,0,none⟩)] 186)).alloc (.cells #[.pointer (some ⟨p.blk,0,none⟩)] 95)).alloc (.cells #[.bool false] 4)) (w.heap.size+1) 95 (.pointer (some ⟨p.blk,0,none⟩)):=by
  have:=(Box.new (w.alloc (.cells #[.pointer (some ⟨rr,0,none⟩)] 186)) 95 (.pointer (some ⟨p.blk,0,none⟩))).alloc (.cells #[.bool false] 4)
  rwa[xrt]at this
 have x4:Box (((w.alloc (.cells #[.pointer (some ⟨rr,0,none⟩)] 186)).alloc (.cells #[.pointer (some ⟨p.blk,0,none⟩)] 95)).alloc (.cells #[.bool false] 4)) (w.heap.size+1+1) 4 (.bool false):=by
  have:=Box.new ((w.alloc (.cells #[.pointer (some ⟨rr,0,none⟩)] 186)).alloc (.cells #[.pointer (some ⟨p.blk,0,none⟩)] 95)) 4 (.bool false)
  rwa[xrt,xrt]at this
 have dt:(((w.alloc (.cells #[.pointer (some ⟨rr,0,none⟩)] 186)).alloc (.cells #[.pointer (some ⟨p.blk,0,none⟩)] 95)).alloc (.cells #[.bool false] 4)).heap.size=w.heap.size+3:=by simp
 gi_upto_region 1 with fail
 generalize (((w.alloc (.cells #[.pointer (some ⟨rr,0,none⟩)] 186)).alloc (.cells #[.pointer (some ⟨p.blk,0,none⟩)] 95)).alloc (.cells #[.bool false] 4))=W0 at bh x2 x3 x4 dt ⊢;obtain⟨y1,_,_⟩:=lr _ bh;have c3:=x3.cell;clear z1
 gi_wp2_with ((first|refine⟨trivial,bu _,?_⟩|refine⟨trivial,?_⟩);gi_at_call 191;refine(xrv.2 (dg _ (fun n hn=>(h.ins n hn).below bh))).mono ?_;rintro e W ⟨rfl,rfl,aB⟩)
 obtain⟨W,hW⟩:∃W,W=W0.alloc (.cells #[.pointer (some ⟨p.q,0,none⟩)] 97):=⟨_,rfl⟩;have df:W.heap.size=w.heap.size+4:=by rw[hW];simp[dt]
 have ag:Box W w.heap.size 186 (.pointer (some ⟨rr,0,none⟩)):=by rw[hW];exact x2.alloc _
 have aM:Box W (w.heap.size+1) 95 (.pointer (some ⟨p.blk,0,none⟩)):=by rw[hW];exact x3.alloc _
 have bm:Box W (w.heap.size+1+1) 4 (.bool false):=by rw[hW];exact x4.alloc _
 have b_:Below w.heap.size w W:=by rw[hW];exact bh.alloc bh.size _
 rw[dt]at aB;simp only[<-hW]at aB ⊢;have hq:=aB (fun b=>b=w.heap.size+1+1\/W.heap.size<=b) (fun k hk=>⟨fun e=>by have:=(h.ins k hk).lt;omega,fun g hg e=>by have:=((h.ins k hk).row.lt g hg).2;omega⟩);clear aB dg hW x2 x3 x4 c3 y1;have aA:∀b,b<W.heap.size->¬(False\/W.heap.size<=b):=fun b hb e=>by rcases e with e|e;exact e;omega
 refine qfp (T:=fun b=>b=w.heap.size+1+1) (S:=fun _=>False) rfl (enters_of func223 (by kernel_rfl) rfl) hq (Below.refl _ _) rfl (fun b e=>e.elim) (fun b e=>by omega)
  (fun pre A=>pre.all (okAt nodes l p.x)=true/\Box A w.heap.size 186 (.pointer (some ⟨rr,0,none⟩))/\Box A (w.heap.size+1) 95 (.pointer (some ⟨p.blk,0,none⟩))/\Box A (w.heap.size+1+1) 4 (.bool false)/\Below w.heap.size w A)
  (fun c pre A=>c=.ret/\pre.all (okAt nodes l p.x)=false/\Box A (w.heap.size+1+1) 4 (.bool false)/\Below w.heap.size w A)
  (fun pre A B hs hk=>⟨hs.1,hs.2.1.keep hk (aA _ (by omega)),hs.2.2.1.keep hk (aA _ (by omega)),hs.2.2.2.1.keep hk (aA _ (by omega)),hs.2.2.2.2.trans (hk.toBelow hs.2.2.2.2.size (fun b bg=>aA b (by omega)))⟩)
  (fun c pre A B hs hk=>⟨hs.1,hs.2.1,hs.2.2.1.keep hk (aA _ (by omega)),hs.2.2.2.trans (hk.toBelow hs.2.2.2.size (fun b bg=>aA b (by omega)))⟩)
  ⟨rfl,ag,aM,bm,b_⟩
  (fun x=>{tmps:=#[.pointer (some ⟨rr,0,none⟩),.pointer (some ⟨p.blk,0,none⟩),.pointer (some ⟨w.heap.size,0,none⟩),.pointer (some ⟨w.heap.size+1,0,none⟩),.pointer (some ⟨w.heap.size+1+1,0,none⟩),.pointer (some ⟨x.blk,0,none⟩),.pointer (some ⟨p.blk,0,none⟩),.pointer (some ⟨p.blk,0,none⟩),.pointer (some ⟨p.blk,1,none⟩),.pointer (some ⟨p.q,0,none⟩),
   .func (.func 223) #[] #[.pointer (some ⟨w.heap.size+3,0,none⟩)],.pointer (some ⟨x.blk,0,none⟩),undef,undef,undef,undef,undef,undef,undef,undef,undef],defers:=[]}) ?assign ?body ?done ?stop
 case assign =>
  intro l x W K hK
  gi_wp2
  exact hK
 case body =>
  rintro l2 pre x W2 ⟨aC,ey,bX,aU,ah⟩ eL ax
  have bZ:=((af x).1 (ax.subset (by simp))).1;have c2:=ey.cell;have c3:=bX.cell;have hc:=aU.cell;have hf:=aU.frozen;obtain⟨y1,y2,y3⟩:=lr _ ah;have nY:=fun W hW=>fl W hW x bZ
  have cf:okAt nodes l p.x x=((shq0 nodes l x p.x.d0 == 0)&&(shq1 nodes l x p.x.d1 == 0)):=rfl;have eZ:=fun W=>qvk (shq0 nodes l x p.x.d0) (shq1 nodes l x p.x.d1) 0 0 W
  have gd:∀W,Below w.heap.size w W->Calls prog 216 #[.pointer (some ⟨rr,0,none⟩),.pointer (some ⟨x.blk,0,none⟩),.agg #[.int .i64 p.x.d0,.int .i64 p.x.d1]] W fun e w'=>e=.returned (.agg #[.int .i64 (shq0 nodes l x p.x.d0),.int .i64 (shq1 nodes l x p.x.d1)])/\Below W.heap.size W w':=nY
  generalize shq0 nodes l x p.x.d0=s0 at cf eZ gd;generalize shq1 nodes l x p.x.d1=s1 at cf eZ gd;have et:Hid (pre.all (okAt nodes l p.x)=true):=aC;have jm:Hid (okAt nodes l p.x x=((s0 == 0)&&(s1 == 0))):=cf;have rN:prog.follows .mixedOrders=true:=by kernel_rfl
  clear aC cf nY fl hq
  gi_upto_region 3 with fail
  refine qdb (fun W'=>W'.cell? ⟨w.heap.size,0,none⟩=some (.pointer (some ⟨rr,0,none⟩))/\W'.cell? ⟨w.heap.size+1,0,none⟩=some (.pointer (some ⟨p.blk,0,none⟩))/\W'.cell? ⟨p.blk,2,none⟩=some (.int .i64 p.x.d0)/\W'.cell? ⟨p.blk,3,none⟩=some (.int .i64 p.x.d1)/\Below W2.heap.size W2 W') (by kernel_rfl) (by kernel_rfl) ⟨c2,c3,y2,y3,by exact bel2⟩ (fun hS=>?_)
  refine wpAnyH_take (i:=0) (v:=.pointer (some ⟨rr,0,none⟩)) rfl (by kernel_rfl) (by kernel_rfl) (by kernel_rfl) (fun _ _ _ h=>absurd h.1 (by intro e;cases e)) (Or.inl ⟨by rfl,?_⟩) hS ?_
  ·intro w' bz;obtain⟨s2,s3,s4,s5,_⟩:=bz
   go_simp
  simp only[xr5,xr3,xr4,Act.put,xr6,xr8,xr7]
  refine wpAnyH_take (i:=1) (v:=.pointer (some ⟨x.blk,0,none⟩)) rfl (by kernel_rfl) (by kernel_rfl) (by kernel_rfl) (fun _ _ _ h=>absurd h.1 (by intro e;cases e)) (Or.inl ⟨by rfl,?_⟩) hS ?_
  ·intro w' bz;obtain⟨s2,s3,s4,s5,_⟩:=bz
   go_simp
  simp only[xr5,xr3,xr4,Act.put,xr6,xr8,xr7]
  refine wpAnyH_take (i:=2) (v:=.pointer (some ⟨p.blk,0,none⟩)) rfl (by kernel_rfl) (by kernel_rfl) (by kernel_rfl) (fun _ _ _ h=>absurd h.1 (by intro e;cases e)) (Or.inl ⟨by rfl,?_⟩) hS ?_
  ·intro w' bz;obtain⟨s2,s3,s4,s5,_⟩:=bz
   go_simp
  simp only[xr5,xr3,xr4,Act.put,xr6,xr8,xr7]
  refine wpAnyH_take (i:=3) (v:=.pointer (some ⟨p.blk,0,none⟩)) rfl (by kernel_rfl) (by kernel_rfl) (by kernel_rfl) (fun _ _ _ h=>absurd h.1 (by intro e;cases e)) (Or.inl ⟨by rfl,?_⟩) hS ?_
  ·intro w' bz;obtain⟨s2,s3,s4,s5,_⟩:=bz
   go_simp
  simp only[xr5,xr3,xr4,Act.put,xr6,xr8,xr7]
  refine wpAnyH_take (i:=4) (v:=.pointer (some ⟨p.blk,2,none⟩)) rfl (by kernel_rfl) (by kernel_rfl) (by kernel_rfl) (fun _ _ _ h=>absurd h.1 (by intro e;cases e)) (Or.inl ⟨by rfl,?_⟩) hS ?_
  ·intro w' bz;obtain⟨s2,s3,s4,s5,_⟩:=bz
   go_simp
  simp only[xr5,xr3,xr4,Act.put,xr6,xr8,xr7]
  refine wpAnyH_take (i:=5) (v:=.agg #[.int .i64 p.x.d0,.int .i64 p.x.d1]) rfl (by kernel_rfl) (by kernel_rfl) (by kernel_rfl) (fun _ _ _ h=>absurd h.1 (by intro e;cases e)) (Or.inl ⟨by rfl,?_⟩) hS ?_
  ·intro w' bz;obtain⟨s2,s3,s4,s5,_⟩:=bz
   go_simp
  simp only[xr5,xr3,xr4,Act.put,xr6,xr8,xr7]
  refine wpAnyH_take (i:=7) (v:=.agg #[.int .i64 0,.int .i64 0]) rfl (by kernel_rfl) (by kernel_rfl) (by kernel_rfl) (fun _ _ _ h=>absurd h.1 (by intro e;cases e)) (Or.inl ⟨by rfl,?_⟩) hS ?_
  ·intro w' bz;obtain⟨s2,s3,s4,s5,_⟩:=bz
   go_simp
  simp only[xr5,xr3,xr4,Act.put,xr6,xr8,xr7]
  refine wpAnyH_ready (rs:=[6]) (by kernel_rfl) (by simp) ?_
  refine AllReadyH.cons rfl (fun K hK=>?_) AllReadyH.nil
  rw[if_pos (by rfl)]
  try simp only[xr5,xr3,xr4]
  go_simp
  refine(gd _ (qac ah (by exact bel2))).mono ?_
  rintro e W3 ⟨rfl,eD⟩
  have cB:Below W2.heap.size W2 W3:=qac (show Below W2.heap.size W2 W2.drew by exact bel2) eD;have eX:=ey.lt;have rK:=bX.lt;have rM:=(hp.below ah).at_.lt
  refine hK.out _ _ ⟨(cB.cell (p:=⟨w.heap.size,0,none⟩) eX).trans c2,(cB.cell (p:=⟨w.heap.size+1,0,none⟩) rK).trans c3,(cB.cell (p:=⟨p.blk,2,none⟩) rM).trans y2,(cB.cell (p:=⟨p.blk,3,none⟩) rM).trans y3,cB⟩ (fun hS=>?_)
  clear hK
  try simp only[xr5,xr3,xr4,Act.put,xr6,xr8,xr7]
  refine wpAnyH_take (i:=8) (v:=.bool (!(s0 == 0&&s1 == 0))) rfl (by kernel_rfl) (by kernel_rfl) (by kernel_rfl) (fun _ _ _ h=>absurd h.1 (by intro e;cases e)) (Or.inl ⟨by rfl,?_⟩) hS ?_
  ·intro w' bz
   go_simp
  try simp only[xr5,xr3,xr4,Act.put,xr6,xr8,xr7]
  refine wpAnyH_done (by kernel_rfl) ⟨rfl,?_⟩ _
  have bE:Below w.heap.size w W3:=qac ah cB;have k2:=ey.below cB eX;have k3:=bX.below cB rK;have k4:=aU.below cB aU.lt;have kc:=k4.cell;have kf:=k4.frozen;clear hc hf c2 c3 y1 y2 y3 hS eZ gd;generalize ik:(s0 == 0&&s1 == 0)=bv at jm;clear ik
  cases bv
  ·gi_wp2_with fail
   refine⟨((Keep.new (T:=fun b=>b=w.heap.size+1+1) cB).setCell (p:=⟨w.heap.size+1+1,0,none⟩) rfl _),rfl,?_,k4.set _,bE.setCell (by simp;omega) _⟩
   rw[List.all_append,et.out]
   simp[jm.out]
  ·gi_wp2_with fail
   refine⟨Keep.new cB,?_,k2,k3,k4,bE⟩
   rw[List.all_append,et.out]
   simp[jm.out]
 case done =>
  rintro A ⟨aC,ey,bX,aU,ah⟩ hD
  have hc:=aU.cell;have hf:=aU.frozen
  gi_wp2
  have fV:(A.setCell ⟨w.heap.size+1+1,0,none⟩ (.bool true)).heap[W.heap.size]?=some (.deferred (some [])):=(Below.heap_setCell _ _ _ _ (by simp;omega)).trans hD;have ag:=((aU.set (.bool true)).put W.heap.size (.deferred none) (by omega)).cell
  refine⟨by simp,.inl ⟨_,_,rfl,run_takeDeferred fV,?_⟩⟩
  exact⟨.bool true,by simp[results,results180,go_sem,ag],qbt aC.symm,qa0 (ah.setCell (by simp;omega) _) _ _ (by omega)⟩
 case stop =>
  rintro c pre A ax ⟨rfl,hv,aU,ah⟩ hD
  gi_wp2
  have ag:=(aU.put W.heap.size (.deferred none) (by omega)).cell
  refine⟨by simp,.inl ⟨_,_,rfl,run_takeDeferred hD,?_⟩⟩
  refine⟨.bool false,by simp[results,results180,go_sem,ag],qbt ?_,qa0 ah _ _ (by omega)⟩
  symm
  rw[List.all_eq_false]at hv ⊢;obtain⟨y,hy,jW⟩:=hv
  exact⟨y,ax.subset hy,jW⟩
end
section
open Go.RowKit
variable {k:List Bs}{nodes:List Node}{Ws:List Wk}{as_ ws:List Pw}{x:Wk}{m n:Node}{a c:Int}{p:Pw}
theorem qfh{a:List Bs}(hk:qbx k=true)(ha:qbx a=true):inB (qaa k) (qaa a)=a.isPrefixOf k:=by
 rw[Bool.eq_iff_iff,qe0 hk ha,xrw]
theorem qkv(k:List Bs)(hk:qbx k=true):∀l:List Node,(∀n∈l,qbx n.key=true/\(n.leaf=false->n.n0=0/\n.n1=0)) ->
  es0 (qai (l.map Node.ent) (qaa k))=sum0 (under l k)/\es1 (qai (l.map Node.ent) (qaa k))=sum1 (under l k)
 | [],_=>⟨rfl,rfl⟩
 |n::l,h=>by
  obtain⟨i0,i1⟩:=qkv k hk l (fun m hm=>h m (by simp[hm]));obtain⟨h1,h2⟩:=h n (by simp);have hp:=qfh h1 hk;unfold qai under es0 es1 sum0 sum1 at *;rw[List.map_cons,xrz,xrz];have e1:(Node.ent n).leaf=n.leaf:=rfl;have e2:(Node.ent n).key=n.key:=rfl;rw[e1,e2,hp]
  cases hl:n.leaf
  ·obtain⟨z0,z1⟩:=h2 hl
   cases k.isPrefixOf n.key
   ·simpa using ⟨i0,i1⟩
   ·simp only[Bool.false_and,Bool.false_eq_true,if_false,if_true,List.map_cons,List.sum_cons,z0,z1,Int.zero_add];exact⟨i0,i1⟩
  ·cases k.isPrefixOf n.key
   ·simpa using ⟨i0,i1⟩
   ·simp only[Bool.and_self,if_true,List.map_cons,List.sum_cons]
    exact⟨by rw[i0];rfl,by rw[i1];rfl⟩
theorem Tree.ents(T:Tree nodes):Ents (nodes.map Node.ent):=by
 refine⟨fun e he=>?_,fun e he=>?_,by simpa using T.len,?_⟩
 ·obtain⟨n,hn,rfl⟩:=xrq.1 he;exact T.ok n hn
 ·obtain⟨n,hn,rfl⟩:=xrq.1 he;exact⟨(T.num n hn).1,(T.num n hn).2.1⟩
 ·obtain⟨r,h0,_⟩:=T.root
  have:=(xr0.1 h0).1
  simpa using this
structure Rel (nodes:List Node) (Ws:List Wk) (ws as_:List Pw):Prop where
 w:ws.map (·.x)=Ws.filter (fun x=>x.st == 0)
 a:∃az:List Wk,as_.map (·.x)=az.map (·.adm 0)/\az.Perm (Ws.filter fun x=>decide (0<x.st))/\az.Pairwise (fun x y=>x.st<y.st)
 leaf:∀p∈ws++as_,∃n∈nodes,n.blk=p.q/\n.key=p.x.key
theorem qx5(l:List Wk):ws0 (l.map (·.adm 0))=ws0 l:=by
 unfold ws0;rw[List.map_map];rfl
theorem qx6(l:List Wk):ws1 (l.map (·.adm 0))=ws1 l:=by
 unfold ws1;rw[List.map_map];rfl
theorem Rel.qvv(R:Rel nodes Ws ws as_)(hW:Wks Ws)(hk:qbx k=true):∃l:List Wk,pun as_ k=l.map (·.adm 0)/\l.Perm (qah Ws (qaa k)):=by
 obtain⟨az,h1,h2,_⟩:=R.a
 refine⟨az.filter fun x=>k.isPrefixOf x.key,?_,?_⟩
 ·unfold pun;rw[h1,List.filter_map]
  rfl
 ·refine(h2.filter _).trans ?_
  rw[List.filter_filter];unfold qah
  refine List.Perm.of_eq (List.filter_congr fun x hx=>?_)
  rw[qfh (hW.ok x hx).1 hk,Bool.and_comm]
theorem Rel.use(R:Rel nodes Ws ws as_)(hW:Wks Ws)(hk:qbx k=true):ws0 (pun as_ k)=ws0 (qah Ws (qaa k))/\ws1 (pun as_ k)=ws1 (qah Ws (qaa k)):=by
 obtain⟨l,h1,h2⟩:=R.qvv hW hk;rw[h1,qx5,qx6]
 exact⟨qfy h2,qfz h2⟩
theorem qb6(T:Tree nodes)(hk:qbx k=true):pn0 nodes k=es0 (qai (nodes.map Node.ent) (qaa k))/\pn1 nodes k=es1 (qai (nodes.map Node.ent) (qaa k)):=by
 obtain⟨h0,h1⟩:=qkv k hk nodes (fun m hm=>⟨(T.ok m hm).1,(T.num m hm).2.2.2.2⟩)
 exact⟨h0.symm,h1.symm⟩
def ownP (nodes:List Node)(l:List Pw)(x:Wk):Bool:=(abv (ws0 (pun l x.key)+x.d0) (pn0 nodes x.key) == 0)&&(abv (ws1 (pun l x.key)+x.d1) (pn1 nodes x.key) == 0)
theorem qgk(a c:Int):(abv a c == 0)=decide (a<=c):=by
 unfold abv
 by_cases h:a<=c
 ·rw[decide_eq_true h,beq_iff_eq];omega
 ·rw[decide_eq_false h,beq_eq_false_iff_ne];omega
theorem Rel.own(R:Rel nodes Ws ws as_)(T:Tree nodes)(hW:Wks Ws)(hx:qbx x.key=true):ownP nodes as_ x=ownW (nodes.map Node.ent) Ws x:=by
 unfold ownP ownW;rw[qgk,qgk,(R.use hW hx).1,(R.use hW hx).2,(qb6 T hx).1,(qb6 T hx).2]
theorem Rel.short(R:Rel nodes Ws ws as_)(T:Tree nodes)(hW:Wks Ws)(hm:m∈nodes)(d0 d1:Int):
  sh0 (nodes.map Node.ent) Ws m.ent d0=!(shq0 nodes as_ m d0 == 0)/\sh1 (nodes.map Node.ent) Ws m.ent d1=!(shq1 nodes as_ m d1 == 0):=by
 have hk:=(T.ok m hm).1;have e1:m.ent.key=m.key:=rfl;have e2:m.ent.b0=m.b0:=rfl;have e3:m.ent.b1=m.b1:=rfl;unfold sh0 sh1 shq0 shq1;rw[qgk,qgk,(R.use hW hk).1,(R.use hW hk).2,(qb6 T hk).1,(qb6 T hk).2,e1,e2,e3]
 constructor
 ·rw[<-decide_not];exact decide_eq_decide.2 (by omega)
 ·rw[<-decide_not];exact decide_eq_decide.2 (by omega)
theorem Rel.fits(R:Rel nodes Ws ws as_)(T:Tree nodes)(hW:Wks Ws)(hn:n∈nodes)(hk:n.key=x.key):
  (ups nodes 4 n).all (okAt nodes as_ x)=qbv (nodes.map Node.ent) Ws x:=by
 have af:=qjp T 4 n hn (T.ok n hn).2;have hx:=(T.ok n hn).1;rw[hk]at hx;rw[Bool.eq_iff_iff];unfold qbv;rw[List.all_eq_true,List.all_eq_true];have key:∀m∈nodes,(tight (nodes.map Node.ent) Ws x m.ent=(m.key.isPrefixOf x.key&&!okAt nodes as_ x m)):=fun m hm=>by
  unfold tight okAt;rw[(R.short T hW hm x.d0 x.d1).1,(R.short T hW hm x.d0 x.d1).2,show m.ent.key=m.key from rfl,qfh hx (T.ok m hm).1,Bool.not_and]
 constructor
 ·intro h e he;obtain⟨m,hm,rfl⟩:=xrq.1 he;rw[key m hm]
  cases hp:m.key.isPrefixOf x.key with
  |false=>rfl
  |true =>
   have:=h m ((af m).2 ⟨hm,by rw[hk];exact xrw.1 hp⟩)
   simp[this]
 ·intro h m hm;obtain⟨h1,h2⟩:=(af m).1 hm
  have:=h m.ent (xrq.2 ⟨m,h1,rfl⟩)
  rw[key m h1,xrw.2 (by rw[<-hk];exact h2)]at this
  simpa using this
def qhx (nodes:List Node)(l:List Pw)(x v:Wk)(m:Node):Bool :=
 m.key.isPrefixOf v.key&&!((min (min (shq0 nodes l m x.d0) (abv (ws0 (pun l v.key)) (pn0 nodes v.key))) v.d0 == 0)&&(min (min (shq1 nodes l m x.d1) (abv (ws1 (pun l v.key)) (pn1 nodes v.key))) v.d1 == 0))
theorem qmy{b:Int}(ha:0<=a)(hb:0<=b)(hc:0<=c):(!(min (min a b) c == 0))=(!(a == 0)&&(!(b == 0)&&decide (c>0))):=by
 rw[Bool.eq_iff_iff];simp only[Bool.not_eq_true',Bool.and_eq_true,beq_eq_false_iff_ne,decide_eq_true_eq]
 omega
theorem qoy(a c:Int):0<=abv a c:=by unfold abv;omega
theorem qwf(a c:Int):(!(abv a c == 0))=decide (a>c):=by
 rw[qgk,<- decide_not];exact decide_eq_decide.2 (by omega)
theorem Rel.way(R:Rel nodes Ws ws as_)(T:Tree nodes)(hW:Wks Ws){v:Wk}(hn:n∈nodes)(hk:n.key=x.key)(hv:qbx v.key=true)(hd:0<=v.d0/\0<=v.d1):
  (ups nodes 4 n).any (qhx nodes as_ x v)=way (nodes.map Node.ent) Ws x v:=by
 have af:=qjp T 4 n hn (T.ok n hn).2;have hx:=(T.ok n hn).1;rw[hk]at hx;have key:∀m∈nodes,(way0 (nodes.map Node.ent) Ws x v m.ent||way1 (nodes.map Node.ent) Ws x v m.ent)=(m.key.isPrefixOf x.key&&qhx nodes as_ x v m):=fun m hm=>by
  unfold way0 way1 qhx;rw[(R.short T hW hm x.d0 x.d1).1,(R.short T hW hm x.d0 x.d1).2,show m.ent.key=m.key from rfl,qfh hx (T.ok m hm).1,qfh hv (T.ok m hm).1];rw[Bool.not_and,qmy (show 0<=shq0 nodes as_ m x.d0 from qoy _ _) (qoy _ _) hd.1,qmy (show 0<=shq1 nodes as_ m x.d1 from qoy _ _) (qoy _ _) hd.2,qwf,qwf,(R.use hW hv).1,(R.use hW hv).2,(qb6 T hv).1,(qb6 T hv).2]
  cases m.key.isPrefixOf x.key<;>cases m.key.isPrefixOf v.key<;>simp
 rw[Bool.eq_iff_iff];unfold Proofs.YtphclnolomgjoaaGreatDoor.way;rw[xs0,xs0]
 constructor
 ·rintro⟨m,hm,h⟩
  obtain⟨h1,h2⟩:=(af m).1 hm
  refine⟨m.ent,xrq.2 ⟨m,h1,rfl⟩,?_⟩
  rw[key m h1,h,xrw.2 (by rw[<-hk];exact h2)]
  rfl
 ·rintro⟨e,he,h⟩
  obtain⟨m,hm,rfl⟩:=xrq.1 he;rw[key m hm,Bool.and_eq_true]at h
  exact⟨m,(af m).2 ⟨hm,by rw[hk];exact xrw.1 h.1⟩,h.2⟩
theorem qqd(l:List Pw)(f:Wk->Bool):(l.find? fun p=>f p.x).map (·.x)=(l.map (·.x)).find? f:=by
 induction l with
 |nil=>rfl
 |cons p l ih =>
  simp only[List.map_cons,List.find?_cons]
  cases f p.x<;>simp[ih]
theorem Rel.qtk(R:Rel nodes Ws ws as_)(T:Tree nodes)(hB:qa2 nodes)(hn:n∈nodes)(hp:p∈ws++as_):(p.q == n.blk)=decide (p.x.key=n.key):=by
 obtain⟨m,hm,h1,h2⟩:=R.leaf p hp;rw[<-h1,<- h2]
 by_cases h:m.blk=n.blk
 ·have:=hB m hm n hn h
  subst this
  simp
 ·rw[beq_eq_false_iff_ne.2 h,eq_comm,decide_eq_false_iff_not]
  exact fun e=>h (by rw[T.inj m hm n hn e])
theorem find_congr{α : Type}{f g : α -> Bool}:∀ {l:List α},(∀x∈l,f x=g x)->l.find? f=l.find? g
 | [],_=>rfl
 |a::l,h=>by
  simp only[List.find?_cons];rw[h a (by simp),find_congr (fun x hx=>h x (by simp[hx]))]
theorem Rel.head(R:Rel nodes Ws ws as_)(T:Tree nodes)(hB:qa2 nodes)(hn:n∈nodes):(ws.find? fun p=>p.q == n.blk).map (·.x)=qat Ws n.key:=by
 rw[find_congr (g:=fun p=>decide (p.x.key=n.key)) (fun p hp=>R.qtk T hB hn (xr9 _ hp)),qqd ws (fun x=>decide (x.key=n.key)),R.w,List.find?_filter];unfold qat
 refine find_congr fun y _=>?_
 cases hs:y.st == 0<;>simp
end
end Go.Proofs.YtphclnolomgjoaaGreatDoor
