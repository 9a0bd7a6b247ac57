import Derived.Test.YtphclnolomgjoaaGreatDoorB12
set_option linter.unusedVariables false
set_option linter.unusedSimpArgs false
set_option maxRecDepth 100000
set_option maxHeartbeats 4000000
namespace Go.Proofs.YtphclnolomgjoaaGreatDoor
open Tryz
section
open Go.RowKit Go.Shelf
variable {W W' w:World}{nodes:List Node}{B bt rr:Nat}{m r:Node}{vw:Value}{ws:List Pw}{T T':Nat->Prop}
attribute [local go_sem] Oper.semAt_some
structure Rw (W:World) (nodes:List Node) (bt rr:Nat) (r:Node) (vw:Value) (ws:List Pw):Prop where
 ins:∀n∈nodes,qag W n
 rt:W.cell? ⟨rr,0,none⟩=some (nptr r.blk)
 bk:W.cell? ⟨rr,1,none⟩=some (.pointer (some ⟨bt,1,none⟩))
 wt:W.cell? ⟨bt,2,none⟩=some vw
 row:WRow W vw ws
 len:ws.length<=100
 leaf:∀p∈ws,∃n∈nodes,n.blk=p.q
structure qil (nodes:List Node) (bt rr:Nat) (vw:Value) (ws:List Pw) (T:Nat->Prop):Prop where
 ns:∀n∈nodes,¬T n.blk/\∀g,n.sl.ownBlock=some g->¬T g
 rr:¬T rr
 bt:¬T bt
 vw:∀b,vw.ownBlock=some b->¬T b
 ws:∀p∈ws,¬T p.blk
theorem Rw.keep(h:Rw W nodes bt rr r vw ws)(hk:Keep T W W')(ho:qil nodes bt rr vw ws T):Rw W' nodes bt rr r vw ws :=
 ⟨qe2 ho.ns h.ins hk,(hk.cell (p:=⟨rr,0,none⟩) (xrb _ _ h.rt) ho.rr).trans h.rt,(hk.cell (p:=⟨rr,1,none⟩) (xrb _ _ h.bk) ho.rr).trans h.bk,(hk.cell (p:=⟨bt,2,none⟩) (xrb _ _ h.wt) ho.bt).trans h.wt,⟨qaf h.row.row hk ho.vw,fun p hp=>(h.row.works p hp).keep hk (ho.ws p hp)⟩,h.len,h.leaf⟩
theorem Rw.below(h:Rw W nodes bt rr r vw ws)(hb:Below W.heap.size W W'):Rw W' nodes bt rr r vw ws :=
 h.keep (T:=fun _=>False) (Keep.new hb) ⟨fun _ _=>⟨id,fun _ _=>id⟩,id,id,fun _ _=>id,fun _ _=>id⟩
theorem Rw.head(h:Rw W nodes bt rr r vw ws)(hm:m∈nodes):
  Calls prog 174 #[.pointer (some ⟨bt,1,none⟩),nptr m.blk] W fun e w'=>e=.returned (optP (qbw ws m.blk))/\Below W.heap.size W w':=qsw h.ins h.wt h.row h.len h.leaf hm
theorem Rw.lt(h:Rw W nodes bt rr r vw ws)(hB:W.heap.size<=B)(hT:∀b,T b->B<=b):qil nodes bt rr vw ws T :=
 ⟨fun n hn=>⟨fun e=>by have:=(h.ins n hn).lt;have:=hT _ e;omega,fun g hg e=>by have:=((h.ins n hn).row.lt g hg).2;have:=hT _ e;omega⟩,fun e=>by have:=xrb _ _ h.bk;have:=hT _ e;simp at *;omega,fun e=>by have:=xrb _ _ h.wt;have:=hT _ e;simp at *;omega,fun b hb e=>by have:=qap h.row.row hb;have:=hT _ e;omega,fun p hp e=>by have:=(h.row.works p hp).lt;have:=hT _ e;omega⟩
theorem qil.or(h:qil nodes bt rr vw ws T)(h':qil nodes bt rr vw ws T'):qil nodes bt rr vw ws (fun b=>T b\/T' b) :=
 ⟨fun n hn=>⟨fun e=>e.elim (h.ns n hn).1 (h'.ns n hn).1,fun g hg e=>e.elim ((h.ns n hn).2 g hg) ((h'.ns n hn).2 g hg)⟩,fun e=>e.elim h.rr h'.rr,fun e=>e.elim h.bt h'.bt,fun b hb e=>e.elim (h.vw b hb) (h'.vw b hb),fun p hp e=>e.elim (h.ws p hp) (h'.ws p hp)⟩
def qas (ws:List Pw)(l:List Node):List Pw:=l.filterMap fun n=>qbw ws n.blk
theorem qnw(ws:List Pw)(l:List Node)(n:Node):qas ws (l++[n])=qas ws l++(qbw ws n.blk).toList:=by
 unfold qas;rw[List.filterMap_append]
 cases h:qbw ws n.blk<;>simp[List.filterMap_cons,h]
theorem qkd{a b:List Node}(h:a <+: b):qas ws a <+: qas ws b:=by
 obtain⟨t,rfl⟩:=h;unfold qas;rw[List.filterMap_append]
 exact xry _ _
theorem qmk(T0:Tree nodes){ch:Node->List Node}(K0:Kids nodes ch)(h:Rw w nodes bt rr r vw ws)(hr:r∈nodes):
  Calls prog 169 #[.pointer (some ⟨rr,0,none⟩)] w fun e w'=>e=.returned (.func (.func 206) #[] #[.pointer (some ⟨w.heap.size,0,none⟩)])/\w'=w.alloc (.cells #[.pointer (some ⟨rr,0,none⟩)] 186) /\
   ∀T:Nat->Prop,(∀b,T b->b<w.heap.size)->qil nodes bt rr vw ws T ->
    SeqM prog 206 #[.pointer (some ⟨w.heap.size,0,none⟩)] (fun p:Pw=>#[nptr p.blk]) (fun _=>False) 4 T (qas ws (dfs ch 4 r)) w':=by
 have jL:∀(fn:Fn) (first cap:Array Value) (w:World),(Instr.makeFunc fn first cap).run prog w=.ok (.func fn first cap) w:=fun _ _ _ _=>rfl
 have key:∀T:Nat->Prop,(∀b,T b->b<w.heap.size)->qil nodes bt rr vw ws T ->
    SeqM prog 206 #[.pointer (some ⟨w.heap.size,0,none⟩)] (fun p:Pw=>#[nptr p.blk]) (fun _=>False) 4 T (qas ws (dfs ch 4 r)) (w.alloc (.cells #[.pointer (some ⟨rr,0,none⟩)] 186)):=by
  intro T oq Bg k ll J Jx W du hl mZ hJ jz hY h0;have bz:∀k:Nat,Fence.wide.depth.isSome=true->1<=k:=fun k h=>by simp[Fence.wide]at h
  have cN:Below w.heap.size w W:=qab (show Below w.heap.size w (w.alloc (.cells #[.pointer (some ⟨rr,0,none⟩)] 186)) by exact bel2) du;have x1:Box W w.heap.size 186 (.pointer (some ⟨rr,0,none⟩)):=(Box.new w 186 _).below du (by simp);have jv:w.heap.size<W.heap.size:=x1.lt;have xj:rr<w.heap.size:=by have:=xrb w _ h.rt;simpa using this
  have jI:w.heap.size+1<=ll:=by simpa using hl
  have aC:=fun W' (aX:∀n∈nodes,qag W' n)=>qio T0 K0 hr W' aX
  have zc:=fun x (hx:x∈dfs ch 4 r)=>qk7 K0 4 r hr x hx
  have v8:=h.below cN;have dr:(W.alloc (.cells #[.func (.yield ll) #[] #[]] 232)).cell? ⟨w.heap.size,0,none⟩=some (.pointer (some ⟨rr,0,none⟩)):=(World.cell?_alloc_lt _ _ _ (by simp;omega)).trans x1.cell;have Az:(W.alloc (.cells #[.func (.yield ll) #[] #[]] 232)).cell? ⟨rr,0,none⟩=some (.pointer (some ⟨r.blk,0,none⟩)):=(World.cell?_alloc_lt _ _ _ (by simp;omega)).trans v8.rt;generalize hX:dfs ch 4 r=X at aC zc hY ⊢;clear hX
  refine callsIn_of_wp_marks func206 rfl trivial ?_ rfl
  unfold nptr at aC;simp only[ntmps206,List.size_toArray,List.length_cons,List.length_nil,Nat.reduceAdd,Nat.reduceSub,Array.replicate_succ,Array.replicate_zero,List.push_toArray,List.append_toArray,List.nil_append,List.cons_append]
  gi_wp2_with ((first|refine⟨trivial,bz _,?_⟩|refine⟨trivial,?_⟩);gi_at_call 101;refine(xrv.2 (aC _ (fun n hn=>(v8.ins n hn).below (by exact bel1)))).mono ?_;rintro e W3 ⟨rfl,rfl,aB⟩)
  obtain⟨W3,dZ⟩:∃W3,W3=(W.alloc (.cells #[.func (.yield ll) #[] #[]] 232)).alloc (.cells #[.pointer (some ⟨r.blk,0,none⟩)] 97):=⟨_,rfl⟩;have zx:W3.heap.size=W.heap.size+2:=by rw[dZ];simp
  have z1:Box W3 W.heap.size 232 (.func (.yield ll) #[] #[]):=by rw[dZ];exact(Box.new W 232 _).alloc _
  have eH:Below W.heap.size W W3:=by rw[dZ];exact bel2
  rw[xrt]at aB;simp only[<-dZ]at aB ⊢;have lz:∀l0 B:Nat,w.heap.size<=l0->w.heap.size<=B->qil nodes bt rr vw ws (fun b=>T b\/(b=l0\/B<=b)):=fun l0 B h1 h2=>Bg.or (h.lt (Nat.le_refl _) (fun b e=>by omega))
  have hq:SeqM prog 149 #[.pointer (some ⟨W.heap.size+1,0,none⟩)] (fun x:Node=>#[.pointer (some ⟨x.blk,0,none⟩)]) (fun _=>False) 0 (fun b=>T b\/b=ll) X W3:=qt0 (fun B l0 h1 h2=>aB _ (fun n hn=>by
   have o1:=(lz ll w.heap.size (by omega) (Nat.le_refl _)).ns n hn;have o2:=(lz l0 B (by omega) (by omega)).ns n hn
   refine⟨fun e=>?_,fun g hg e=>?_⟩
   ·rcases e with (e|e)|e
    ·exact o1.1 (.inl e)
    ·exact o1.1 (.inr (.inl e))
    ·exact o2.1 (.inr e)
   ·rcases e with (e|e)|e
    ·exact o1.2 g hg (.inl e)
    ·exact o1.2 g hg (.inr (.inl e))
    ·exact o2.2 g hg (.inr e)))
  clear aB aC dZ dr Az;have aG:∀b,False\/(W3.heap.size<=b/\b<W3.heap.size+2+0)->False\/(W.heap.size<=b/\b<W.heap.size+4):=fun b e=>e.imp id (fun e=>by omega)
  have rS:qil nodes bt rr vw ws (fun b=>False\/(W3.heap.size<=b/\b<W3.heap.size+2+0)):=h.lt (Nat.le_refl _) (fun b e=>by
   rcases e with e|e
   ·exact e.elim
   ·omega)
  refine qhm (T:=fun b=>T b\/b=ll) (S:=fun _=>False) rfl (enters_of func149 (by kernel_rfl) rfl) hq (Below.refl _ _) (fun _=>rfl) (fun b e=>e.elim) (fun b e=>by
    rcases e with e|e
    ·have:=oq _ e;omega
    ·omega)
   (fun (pre:List Node) A=>J (qas ws pre) A/\Box A W.heap.size 232 (.func (.yield ll) #[] #[])/\Box A w.heap.size 186 (.pointer (some ⟨rr,0,none⟩))/\Rw A nodes bt rr r vw ws)
   (fun c (pre:List Node) A=>c=.ret/\Jx (qas ws pre) A)
   (fun pre A B hs hk=>⟨hJ _ _ _ hs.1 (hk.mono aG),hs.2.1.keep hk (fun e=>by rcases e with e|e;exact e;omega),hs.2.2.1.keep hk (fun e=>by rcases e with e|e;exact e;omega),hs.2.2.2.keep hk rS⟩)
   (fun c pre A B hs hk=>⟨hs.1,jz _ _ _ hs.2 (hk.mono aG)⟩)
   ⟨hJ _ _ _ h0 (Keep.new eH),z1,x1.below eH x1.lt,v8.below eH⟩
   (fun x=>{tmps:=#[.func (.yield ll) #[] #[],.pointer (some ⟨w.heap.size,0,none⟩),.pointer (some ⟨W.heap.size,0,none⟩),.pointer (some ⟨x.blk,0,none⟩),undef,.pointer (some ⟨rr,0,none⟩),.pointer (some ⟨rr,0,none⟩),.pointer (some ⟨rr,0,none⟩),.pointer (some ⟨r.blk,0,none⟩),.func (.func 149) #[] #[.pointer (some ⟨W.heap.size+1,0,none⟩)],.pointer (some ⟨x.blk,0,none⟩),undef,undef,undef,undef,undef,undef,undef,undef,undef,undef,undef,undef,undef,undef],defers:=[]}) ?assign ?body ?done ?stop
  case assign =>
   intro l x W K hK
   gi_wp2
   exact hK
  case body =>
   rintro l2 pre x W4 ⟨hj,ct,mN,qJ⟩ cY ax
   have cm:=zc x (ax.subset (by simp));have mf:=qJ.head cm;have nK:=mN.cell;have tL:=qJ.bk;have gg:=qnw ws pre x;have kr:=fun W (p:Pw)=>qhh (W:=W) (x:=p)
   have eZ:=fun W=>qet (W:=W)
   cases hH:qbw ws x.blk with
   |none =>
    rw[hH]at mf gg;have HS:Hid (qas ws (pre++[x])=qas ws pre):=show qas ws (pre++[x])=qas ws pre from by rw[gg];simp
    clear gg hY hq;unfold optP nptr at mf
    gi_wp2_with ((first|refine⟨trivial,bz _,?_⟩|refine⟨trivial,?_⟩);gi_at_call 174;refine(CallsIn.inRound l2 (xrv.2 mf)).mono ?_;rintro e W5 ⟨rfl,bE⟩)
    refine⟨fun f h=>(by cases h),?_⟩
    gi_wp2
    exact⟨Keep.new bE,by rw[HS.out];exact hJ _ _ _ hj (Keep.new bE),ct.below bE ct.lt,mN.below bE mN.lt,qJ.below bE⟩
   |some p =>
    rw[hH]at mf gg;have HS:Hid (qas ws (pre++[x])=qas ws pre++[p]):=show qas ws (pre++[x])=qas ws pre++[p] from by rw[gg];simp
    have gy:qas ws pre++[p] <+: qas ws X:=by rw[<-HS.out];exact qkd ax
    have mv:∀W5,Below W4.heap.size W4 W5->YieldAt Fence.wide (k-1) prog ll #[nptr p.blk] W5 fun e W'=>(e=.returned (.bool true)/\(J (qas ws (pre++[x])) W'/\Box W' W.heap.size 232 (.func (.yield ll) #[] #[])/\Box W' w.heap.size 186 (.pointer (some ⟨rr,0,none⟩))/\Rw W' nodes bt rr r vw ws)/\Keep (fun b=>(T b\/b=ll)\/W3.heap.size+2+0<=b) W4 W')\/(e=.returned (.bool false)/\Jx (qas ws (pre++[x])) W'/\Keep (fun b=>(T b\/b=ll)\/W3.heap.size+2+0<=b) W4 W'):=fun W5 bE=>by
     refine(hY (k-1) _ p W5 (hJ _ _ _ hj (Keep.new bE)) (by have:=bE.size;omega) gy).mono ?_
     have iB:∀b,(T b\/b=ll\/W.heap.size+4<=b)->((T b\/b=ll)\/W3.heap.size+2+0<=b):=fun b e=>by
      rcases e with e|e|e
      ·exact .inl (.inl e)
      ·exact .inl (.inr e)
      ·exact .inr (by omega)
     rintro e W' (⟨h1,h2,h3⟩|⟨h1,h2,h3⟩)
     ·refine .inl ⟨h1,⟨by rw[HS.out];exact h2,(ct.below bE ct.lt).keep h3 (fun e=>?_),(mN.below bE mN.lt).keep h3 (fun e=>?_),(qJ.below bE).keep h3 (lz _ _ (by omega) (by omega))⟩,(Keep.new bE).trans (h3.mono iB)⟩
      ·rcases e with e|e|e
       ·have:=oq _ e;omega
       ·omega
       ·omega
      ·rcases e with e|e|e
       ·have:=oq _ e;omega
       ·omega
       ·omega
     ·exact .inr ⟨h1,by rw[HS.out];exact h2,(Keep.new bE).trans (h3.mono iB)⟩
    clear gg hY hq;unfold optP nptr at mf;unfold nptr at mv
    gi_wp2_with ((first|refine⟨trivial,bz _,?_⟩|refine⟨trivial,?_⟩);gi_at_call 174;refine(CallsIn.inRound l2 (xrv.2 mf)).mono ?_;rintro e W5 ⟨rfl,bE⟩;obtain⟨fn,tmps,assign,body,hy,cX⟩:=mv W5 bE;have Ep:=(ct.below bE ct.lt).cell;have zp:=kr W5 p)
    refine⟨bz _,?_⟩
    refine cX.mono ?_
    clear cX mv
    rintro e W6 (⟨rfl,AW,wE⟩|⟨rfl,C5,wE⟩)
    ·gi_wp2_with fail
     exact⟨wE,AW⟩
    ·gi_wp2_with fail
     exact⟨wE,rfl,C5⟩
  case done =>
   rintro A ⟨hj,ct,mN,qJ⟩ hD
   gi_wp2
   refine⟨by simp,.inl ⟨_,_,rfl,run_takeDeferred hD,?_⟩⟩
   exact⟨.tuple #[],by simp[results,results206,go_sem],⟨_,rfl⟩,.inl (hJ _ _ _ hj ((Keep.refl _ _).putObj (.inr (by omega)) _))⟩
  case stop =>
   rintro c pre A ax ⟨rfl,hx⟩ hD
   gi_wp2
   refine⟨by simp,.inl ⟨_,_,rfl,run_takeDeferred hD,?_⟩⟩
   exact⟨.tuple #[],by simp[results,results206,go_sem],⟨_,rfl⟩,.inr ⟨qas ws pre,qkd ax,jz _ _ _ hx ((Keep.refl _ _).putObj (.inr (by omega)) _)⟩⟩
 unfold nptr at key ⊢
 go_enter func169,ntmps169
 go_wp2
 go_ret
 exact⟨rfl,rfl,key⟩
end
section
open Go.RowKit
variable {D al d o st sx u:Int}{L:List Ent}{Ws hs jW rest:List Wk}{x y:Wk}{i:Nat}{s:SS}
def ql0 (D:Int)(a:Int×Int)(A:Int):Prop:=0<a.2/\a.1*D=A*a.2
theorem qlq(hD:0<D){a b:Int×Int}{A B:Int}(ha:ql0 D a A)(hb:ql0 D b B):a.1*b.2<b.1*a.2↔A<B:=by
 obtain⟨vE,ha⟩:=ha;obtain⟨ag,hb⟩:=hb;have e1:a.1*b.2*D=A*(a.2*b.2):=by
  rw[show a.1*b.2*D=a.1*D*b.2 by ac_rfl,ha];ac_rfl
 have e2:b.1*a.2*D=B*(a.2*b.2):=by
  rw[show b.1*a.2*D=b.1*D*a.2 by ac_rfl,hb];ac_rfl
 have hq:0<a.2*b.2:=Int.mul_pos vE ag
 constructor
 ·intro h
  have:=Int.mul_lt_mul_of_pos_right h hD
  rw[e1,e2]at this
  exact Int.lt_of_mul_lt_mul_right this (by omega)
 ·intro h
  have:=Int.mul_lt_mul_of_pos_right h hq
  rw[<-e1,<- e2]at this
  exact Int.lt_of_mul_lt_mul_right this (by omega)
theorem qh3(hD:0<D){a b:Int×Int}{A B:Int}(ha:ql0 D a A)(hb:ql0 D b B):ql0 D (better a b) (max A B):=by
 have h:=qlq hD ha hb;unfold better
 split
 ·rename_i hl
  have:=h.1 hl
  rw[show max A B=B by omega]
  exact hb
 ·rename_i hl
  have:¬A<B:=fun e=>hl (h.2 e)
  rw[show max A B=A by omega]
  exact ha
def shp (L:List Ent)(Ws:List Wk)(x:Wk):Int :=
 max (max 0 (ws0 (qae Ws (qaa x.key))+x.d0-es0 (qai L (qaa x.key)))*max 1 (es1 (qai L []))) (max 0 (ws1 (qae Ws (qaa x.key))+x.d1-es1 (qai L (qaa x.key)))*max 1 (es0 (qai L [])))
theorem qm0{n:Int}(de:0<=al)(h0:al=0->u+d-n<=0):ql0 (max 1 al*max 1 o) (shr u d n al) (max 0 (u+d-n)*max 1 o):=by
 unfold shr
 split
 ·rename_i h
  refine⟨by decide,?_⟩
  have:max 0 (u+d-n)=0:=by
   rcases h with h|h
   ·have:=h0 h;omega
   ·omega
  rw[this];simp
 ·rename_i h
  have h1:al≠0:=fun e=>h (.inl e)
  have h2:¬(u+d-n<0):=fun e=>h (.inr e)
  refine⟨show 0<al by omega,?_⟩
  rw[show max 0 (u+d-n)=u+d-n by omega,show max 1 al=al by omega]
  simp only
  ac_rfl
def Plain(L:List Ent)(Ws:List Wk)(x:Wk):Prop :=
 (es0 (qai L [])=0->ws0 (qae Ws (qaa x.key))+x.d0-es0 (qai L (qaa x.key))<=0)/\(es1 (qai L [])=0->ws1 (qae Ws (qaa x.key))+x.d1-es1 (qai L (qaa x.key))<=0)
theorem qe5(E:Ents L)(h:Plain L Ws x):ql0 (max 1 (es0 (qai L []))*max 1 (es1 (qai L []))) (qbg L Ws x) (shp L Ws x):=by
 have hb:=qiu E [];have hD:0<max 1 (es0 (qai L []))*max 1 (es1 (qai L [])):=Int.mul_pos (by omega) (by omega);have p0:ql0 (max 1 (es0 (qai L []))*max 1 (es1 (qai L []))) (0,1) 0:=⟨by decide,by simp⟩;have p1:=qm0 (o:=es1 (qai L [])) hb.1.1 h.1;have p2:=qm0 (o:=es0 (qai L [])) hb.2.1 h.2;rw[Int.mul_comm (max 1 (es1 (qai L []))) (max 1 (es0 (qai L [])))]at p2;have p3:=qh3 hD (qh3 hD p0 p1) p2;have hn:0<=max 0 (ws0 (qae Ws (qaa x.key))+x.d0-es0 (qai L (qaa x.key)))*max 1 (es1 (qai L [])):=Int.mul_nonneg (by omega) (by omega);unfold qbg shp;rw[show max 0 (max 0 (ws0 (qae Ws (qaa x.key))+x.d0-es0 (qai L (qaa x.key)))*max 1 (es1 (qai L [])))=max 0 (ws0 (qae Ws (qaa x.key))+x.d0-es0 (qai L (qaa x.key)))*max 1 (es1 (qai L [])) by omega]at p3
 exact p3
theorem qxk(E:Ents L)(hx:Plain L Ws x)(hy:Plain L Ws y):icb L Ws x y=(decide (shp L Ws x<shp L Ws y)||(decide (shp L Ws x=shp L Ws y)&&decide (x.num<y.num))):=by
 have hD:0<max 1 (es0 (qai L []))*max 1 (es1 (qai L [])):=Int.mul_pos (by omega) (by omega);have h1:=qlq hD (qe5 E hx) (qe5 E hy);have h2:=qlq hD (qe5 E hy) (qe5 E hx);unfold icb qej;have e1:decide ((qbg L Ws x).1*(qbg L Ws y).2<(qbg L Ws y).1*(qbg L Ws x).2)=decide (shp L Ws x<shp L Ws y):=decide_eq_decide.2 h1;have e2:decide ((qbg L Ws y).1*(qbg L Ws x).2<(qbg L Ws x).1*(qbg L Ws y).2)=decide (shp L Ws y<shp L Ws x):=decide_eq_decide.2 h2;rw[e1,e2]
 rcases Int.lt_trichotomy (shp L Ws x) (shp L Ws y) with h|h|h
 ·simp[h]
 ·simp[h]
 ·simp only[show ¬(shp L Ws x<shp L Ws y) by omega,show ¬(shp L Ws x=shp L Ws y) by omega,h,decide_true,decide_false];simp
structure qcf (L:List Ent) (Ws:List Wk) (hs:List Wk):Prop where
 nd:hs.Nodup
 all:∀y,y∈hs↔(qaz Ws y.key=some y/\ownW L Ws y=true)
theorem qcf.perm(h:qcf L Ws hs)(hp:hs.Perm jW):qcf L Ws jW :=
 ⟨hp.nodup_iff.1 h.nd,fun y=>hp.mem_iff.symm.trans (h.all y)⟩
theorem qcf.qjs(h:qcf L Ws hs)(hA:Anti Ws)(hW:Wks Ws){v:Wk}(hi:Ws[i]?=some v)(hv:0<v.st)(ho:qtl L Ws v.key):qcf L (v.adm 0::(Ws.take i++Ws.drop (i+1))) hs:=by
 refine⟨h.nd,fun y=>(h.all y).trans ?_⟩
 have ud:=xr2 hi;rw[qd9 hi hv]
 constructor
 ·rintro⟨h1,h2⟩
  obtain⟨y1,_,_⟩:=qaj h1;have hd:=hW.num y y1;have hk:v.key≠y.key:=fun e=>qh2 ⟨hd.1.1,hd.2.1⟩ h2 (e ▸ ho)
  rw[if_neg hk,qc2 hi hv (hA.not ud y1 hk)]
  exact⟨h1,h2⟩
 ·rintro⟨h1,h2⟩
  by_cases hk:v.key=y.key
  ·rw[if_pos hk]at h1
   cases h1
   rw[qem hi hv ho]at h2;cases h2
  ·rw[if_neg hk]at h1;rw[qc2 hi hv (hA.not ud (qaj h1).1 hk)]at h2
   exact⟨h1,h2⟩
theorem qcf.step{s s':MS}(h:qcf L s.Ws hs)(R:RInv L x st s.Ws)(he:qa3 L x s=some s'):qcf L s'.Ws hs:=by
 obtain⟨i,v,su,hf,hv,h0,hw,rfl⟩:=qdo he;have cJ:=(R.wks.st v (xr2 hv)).1
 exact h.qjs R.anti R.wks.wks hv (by omega) (qpv hw)
theorem qcf.room:∀(n:Nat) (s:MS),RInv L x st s.Ws->qcf L s.Ws hs->qcf L (room L x n s).Ws hs
 |0,s,R,h=>h
 |n+1,s,R,h=>by
  simp only[Proofs.YtphclnolomgjoaaGreatDoor.room]
  cases he:qa3 L x s with
  |none=>exact h
  |some s'=>exact qcf.room n s' (R.step he).1 (h.step R he)
def qdx (L:List Ent)(Ws:List Wk)(k:List Bs):List Wk:=match qaz Ws k with
 |some z=>if ownW L Ws z then [z] else []
 |none=>[]
theorem qi5{k:List Bs}:y∈qdx L Ws k↔(qaz Ws k=some y/\ownW L Ws y=true):=by
 unfold qdx
 cases h:qaz Ws k with
 |none=>simp
 |some z =>
  simp only
  split
  ·rename_i ho;simp;constructor
   ·rintro rfl;exact⟨rfl,ho⟩
   ·rintro⟨e,_⟩;exact e.symm
  ·rename_i ho;simp;rintro rfl;simpa using ho
theorem qq3(L:List Ent)(Ws:List Wk)(k:List Bs):(qdx L Ws k).Nodup:=by
 unfold qdx
 split
 ·split<;>simp
 ·simp
theorem qcf.admit(h:qcf L Ws (x::rest))(hA:Anti Ws)(hi:Ws[i]?=some x){t:Int}(ht:0<t):qcf L (Ws.set i (x.adm t)) (qdx L (Ws.set i (x.adm t)) x.key++rest):=by
 obtain⟨hx,ho⟩:=(h.all x).1 (List.mem_cons_self ..);obtain⟨x1,x2,_⟩:=qaj hx;have bT:=List.nodup_cons.1 h.nd;have gO:∀y∈rest,x.key≠y.key:=fun y hy e=>bT.1 (by
  have:=qpd hx ((h.all y).1 (xru _ hy)).1 e
  rw[this];exact hy)
 refine⟨?_,fun y=>?_⟩
 ·rw[List.nodup_append]
  refine⟨qq3 ..,bT.2,fun a ha b hb e=>?_⟩
  subst e
  exact gO a hb (qaj (qi5.1 ha).1).2.2.symm
 ·rw[xri,qi5]
  constructor
  ·rintro(⟨h1,h2⟩|h1)
   ·rw[(qaj h1).2.2];exact⟨h1,h2⟩
   ·have hk:=gO y h1;obtain⟨g1,g2⟩:=(h.all y).1 (xru _ h1);rw[qcv hi ht hk,qc1 hi x2 ht (hA.not x1 (qaj g1).1 hk)]
    exact⟨g1,g2⟩
  ·rintro⟨h1,h2⟩
   by_cases hk:x.key=y.key
   ·left;rw[hk];exact⟨h1,h2⟩
   ·right
    rw[qcv hi ht hk]at h1;rw[qc1 hi x2 ht (hA.not x1 (qaj h1).1 hk)]at h2
    rcases List.mem_cons.1 ((h.all y).2 ⟨h1,h2⟩) with rfl|h3
    ·exact absurd rfl hk
    ·exact h3
theorem qcf.does(h:qcf L s.Ws (x::rest))(I:SInv s)(cP:∀y∈rest,Op.bytesLess (qaa y.key) (qaa x.key)=false):
  qbc L s=some (qdz L x s)/\RInv L x s.st s.Ws/\qcf L (qdz L x s).Ws (qdx L (qdz L x s).Ws x.key++rest):=by
 obtain⟨hx,ho⟩:=(h.all x).1 (List.mem_cons_self ..);have R:RInv L x s.st s.Ws:=⟨I.wks,I.anti,hx,ho⟩;have lH:=I.st0
 refine⟨?_,R,?_⟩
 ·obtain⟨b,hb,ct⟩:=qv3 I.wks.wks (fun y hy=>(I.wks.st y hy).1) hx ho (fun y h1 h2=>by
   rcases List.mem_cons.1 ((h.all y).2 ⟨h1,h2⟩) with rfl|h3
   ·exact qcu _
   ·exact cP y h3)
  unfold qbc;rw[hb]
  simp only
  rw[ct]
 ·have g1:=(RInv.room (admN s.Ws) ⟨s.Ws,s.evs⟩ R).1;have g2:=qcf.room (admN s.Ws) ⟨s.Ws,s.evs⟩ R h;obtain⟨x1,_,_⟩:=qaj g1.head;obtain⟨i,hi⟩:=xre x1;unfold qdz
  simp only
  rw[qcg g1.wks.nums hi]
  exact g2.admit g1.anti hi (by omega)
theorem qcf.ends(h:qcf L s.Ws [])(I:SInv s):qbc L s=none:=by
 unfold qbc;rw[qv4 (fun y hy=>(I.wks.st y hy).1) (fun y hy=>by
  cases ho:ownW L s.Ws y with
  |false=>rfl
  |true=>exact absurd ((h.all y).2 ⟨hy,ho⟩) (by simp))]
theorem qw6{l l':List Wk}(h:l.Sublist l')(h0:∀x∈l',0<=x.d0/\0<=x.d1):ws0 l<=ws0 l'/\ws1 l<=ws1 l':=by
 induction h with
 |slnil=>simp[ws0,ws1]
 |cons a _ ih =>
  have h1:=ih (fun x hx=>h0 x (xru _ hx));have h2:=h0 a (List.mem_cons_self ..)
  simp[ws0,ws1]at h1 ⊢;omega
 |cons_cons a _ ih =>
  have h1:=ih (fun x hx=>h0 x (xru _ hx))
  simp[ws0,ws1]at h1 ⊢;omega
theorem qsz(s:Bs):inB s []=true:=by simp[inB]
theorem qj6{α : Type}{p q : α -> Bool}(h:∀x,p x=true->q x=true):∀l:List α,(l.filter p).Sublist (l.filter q)
 | []=>by simp
 |a::l=>by
  rw[xrz,xrz];have ih:=qj6 h l
  cases hp:p a with
  |true=>rw[h a hp];simpa using ih
  |false =>
   cases hq:q a with
   |true=>simp;exact ih.trans (List.sublist_cons_self ..)
   |false=>simpa using ih
theorem qwk(hW:Wks Ws)(k:Bs):ws0 (qae Ws k)<=ws0 (qae Ws [])/\ws1 (qae Ws k)<=ws1 (qae Ws []):=by
 refine qw6 (qj6 (fun x hx=>?_) Ws) (fun x hx=>?_)
 ·simp only[Bool.and_eq_true]at hx ⊢;exact⟨hx.1,qsz _⟩
 ·have:=hW.num x (xrr.1 hx).1;omega
def qrw (L:List Ent):Prop:=∃r∈L,r.key=[]/\r.b0=0/\r.b1=0
theorem qj8(E:Ents L)(hR:qrw L)(hW:Wks Ws)(h:qbv L Ws x=true):Plain L Ws x:=by
 obtain⟨r,hr,hk,cN,aa⟩:=hR;unfold qbv at h;rw[List.all_eq_true]at h
 have:=h r hr
 unfold tight sh0 sh1 at this;rw[hk,cN,aa]at this;simp only[show qaa []=[] from rfl,qsz,Bool.true_and,Bool.not_eq_true',Bool.or_eq_false_iff,decide_eq_false_iff_not]at this;have hu:=qwk hW (qaa x.key);have he:=qiu E (qaa x.key)
 exact⟨fun e=>by omega,fun e=>by omega⟩
theorem qjm(hi:Ws[i]?=some x)(hx:x.st=0){t:Int}(ht:0<t){k:Bs}(hn:inB (qaa x.key) k=false):ws0 (qae (Ws.set i (x.adm t)) k)=ws0 (qae Ws k)/\ws1 (qae (Ws.set i (x.adm t)) k)=ws1 (qae Ws k):=by
 have:=qfu hi hx ht k
 rw[hn]at this
 simpa using this
theorem qfs(hi:Ws[i]?=some x)(hx:x.st=0){t:Int}(ht:0<t)(hn:inB (qaa x.key) (qaa y.key)=false):shp L (Ws.set i (x.adm t)) y=shp L Ws y:=by
 have:=qjm hi hx ht hn
 unfold shp;rw[this.1,this.2]
theorem qqq(hW:Wks Ws)(hi:Ws[i]?=some x)(hx:x.st=0){t:Int}(ht:0<t)(h:qbv L (Ws.set i (x.adm t)) y=true):qbv L Ws y=true:=by
 unfold qbv at *;rw[List.all_eq_true]at *;intro e he;have h1:=h e he;have h2:=qfu hi hx ht (qaa e.key);have h3:=hW.num x (xr2 hi);unfold tight sh0 sh1 at *
 cases h4:inB (qaa y.key) (qaa e.key)
 ·rfl
 ·rw[h4]at h1;simp only[Bool.true_and,Bool.not_eq_true',Bool.or_eq_false_iff,decide_eq_false_iff_not]at h1 ⊢;rw[h2.1,h2.2]at h1
  constructor
  ·have:=h1.1
   split at this<;>omega
  ·have:=h1.2
   split at this<;>omega
structure qca (L:List Ent) (Ws:List Wk) (hs:List (Wk×Int)):Prop where
 nd:(hs.map fun p=>p.1.key).Nodup
 hd:∀p∈hs,qaz Ws p.1.key=some p.1/\p.2=shp L Ws p.1
 all:∀y,qaz Ws y.key=some y->qbv L Ws y=true->(y,shp L Ws y)∈hs
theorem qca.perm{hs jW:List (Wk×Int)}(h:qca L Ws hs)(hp:hs.Perm jW):qca L Ws jW :=
 ⟨(hp.map _).nodup_iff.1 h.nd,fun p hm=>h.hd p (hp.mem_iff.2 hm),fun y h1 h2=>hp.mem_iff.1 (h.all y h1 h2)⟩
theorem qca.drop{p:Wk×Int}{rest:List (Wk×Int)}(h:qca L Ws (p::rest))(hf:qbv L Ws p.1=false):qca L Ws rest:=by
 refine⟨(List.nodup_cons.1 h.nd).2,fun q hq=>h.hd q (xru _ hq),fun y h1 h2=>?_⟩
 rcases List.mem_cons.1 (h.all y h1 h2) with e|h3
 ·rw[<-e]at hf;simp only at hf;rw[hf]at h2;cases h2
 ·exact h3
def qcs (L:List Ent)(Ws:List Wk)(k:List Bs):List (Wk×Int):=match qaz Ws k with
 |some z=>[(z,shp L Ws z)]
 |none=>[]
def before(a b:Wk×Int):Bool:=if a.2≠b.2 then decide (a.2<b.2) else decide (a.1.num<b.1.num)
theorem qiq(a b:Wk×Int):before a b=(decide (a.2<b.2)||(decide (a.2=b.2)&&decide (a.1.num<b.1.num))):=by
 unfold before
 by_cases h:a.2=b.2
 ·simp[h]
 ·simp[h]
theorem qca.does(E:Ents L)(hR:qrw L){rest:List (Wk×Int)}(h:qca L s.Ws ((x,sx)::rest))(I:SInv s)(hf:qbv L s.Ws x=true)(cP:∀q∈rest,before q (x,sx)=false):
  ∃b,s.Ws[b]?=some x/\x.st=0/\qat L s=some (qf5 b x s)/\qca L (qf5 b x s).Ws (qcs L (qf5 b x s).Ws x.key++rest):=by
 obtain⟨hx,n_⟩:=h.hd _ (List.mem_cons_self ..)
 simp only at hx n_
 obtain⟨x1,x2,_⟩:=qaj hx;have lH:=I.st0;have ku:=qj8 E hR I.wks.wks hf;obtain⟨b,hb,ct⟩:=qny E I.wks.nums (fun y hy=>(I.wks.st y hy).1) hx hf (fun y h1 h2=>by
  rw[qxk E (qj8 E hR I.wks.wks h2) ku]
  rcases List.mem_cons.1 (h.all y h1 h2) with e|h3
  ·cases e;simp
  ·have:=cP _ h3
   rw[qiq]at this
   simp only at this
   rw[n_]at this
   exact this)
 refine⟨b,ct,x2,?_,?_⟩
 ·unfold qat;rw[hb]
  simp only
  rw[ct]
 ·have bT:=List.nodup_cons.1 h.nd;have gO:∀q∈rest,x.key≠q.1.key:=fun q hq e=>bT.1 (by
   show x.key∈rest.map fun p=>p.1.key
   rw[e];exact xrq.2 ⟨q,hq,rfl⟩)
  have ht:0<s.st+1:=by omega
  unfold qf5
  simp only
  obtain⟨pC,ot⟩:∃pC,pC=s.Ws.set b (x.adm (s.st+1)):=⟨_,rfl⟩;rw[<-ot];have nU:∀q∈qcs L pC x.key,qaz pC x.key=some q.1/\q.1.key=x.key/\q.2=shp L pC q.1:=by
   intro q hq;unfold qcs at hq
   cases hz:qaz pC x.key with
   |none=>rw[hz]at hq;cases hq
   |some z =>
    rw[hz]at hq
    simp at hq
    subst hq
    exact⟨rfl,(qaj hz).2.2,rfl⟩
  refine⟨?_,fun q hq=>?_,fun y h1 h2=>?_⟩
  ·rw[List.map_append,List.nodup_append]
   refine⟨?_,bT.2,fun a ha c hc e=>?_⟩
   ·unfold qcs
    split<;>simp
   ·obtain⟨q,hq,rfl⟩:=xrq.1 ha;obtain⟨q',jT,rfl⟩:=xrq.1 hc;rw[(nU q hq).2.1]at e
    exact gO q' jT e
  ·rcases xri.1 hq with hq|hq
   ·obtain⟨g1,g2,g3⟩:=nU q hq;rw[g2];exact⟨g1,g3⟩
   ·obtain⟨g1,g2⟩:=h.hd q (xru _ hq);rw[ot,qcv ct ht (gO q hq),qfs ct x2 ht (I.anti.not x1 (qaj g1).1 (gO q hq))]
    exact⟨g1,g2⟩
  ·rw[xri]
   by_cases hk:x.key=y.key
   ·left
    rw[hk];unfold qcs;rw[h1]
    simp
   ·right
    rw[ot]at h1 h2 ⊢;rw[qcv ct ht hk]at h1;have hm:=h.all y h1 (qqq I.wks.wks ct x2 ht h2);rw[qfs ct x2 ht (I.anti.not x1 (qaj h1).1 hk)]
    rcases List.mem_cons.1 hm with e|h3
    ·cases e;exact absurd rfl hk
    ·exact h3
theorem qca.ends(h:qca L s.Ws [])(I:SInv s):qat L s=none:=by
 unfold qat;rw[qnz (fun y hy=>(I.wks.st y hy).1) (fun y hy=>by
  cases ho:qbv L s.Ws y with
  |false=>rfl
  |true=>exact absurd (h.all y hy ho) (by simp))]
theorem ql3(a b:Wk×Int)(h:before a b=true):before b a=false:=by
 rw[qiq]at *
 simp at *
 omega
theorem qk2(a b c:Wk×Int)(h1:before a b=false)(h2:before b c=false):before a c=false:=by
 rw[qiq]at *
 simp at *
 omega
end
section
open Go.RowKit Go.Shelf
variable {nodes:List Node}{w:World}{bt rr:Nat}{va:Value}{l:List Pw}{p:Pw}{n:Node}
attribute [local go_sem] Oper.semAt_some
def shq0 (nodes:List Node)(l:List Pw)(m:Node)(a:Int):Int:=abv (ws0 (pun l m.key)+a) (pn0 nodes m.key+m.b0)
def shq1 (nodes:List Node)(l:List Pw)(m:Node)(a:Int):Int:=abv (ws1 (pun l m.key)+a) (pn1 nodes m.key+m.b1)
def okAt (nodes:List Node)(l:List Pw)(x:Wk)(m:Node):Bool:=(shq0 nodes l m x.d0 == 0)&&(shq1 nodes l m x.d1 == 0)
theorem qsp(T:Tree nodes)(hB:qa1 nodes)(h:Rd w nodes bt rr va l)(hp:PwIn w nodes p)(hn:n∈nodes)(gv:n.blk=p.q):
  Calls prog 180 #[.pointer (some ⟨rr,0,none⟩),nptr p.blk] w fun e w'=>e=.returned (.bool ((ups nodes 4 n).all (okAt nodes l p.x)))/\Below w.heap.size w w':=by
 have bz:∀k:Nat,Fence.wide.depth.isSome=true->1<=k:=fun k h=>by simp[Fence.wide]at h
 have di:∀W,(∀n∈nodes,qag W n)->_:=fun W hW=>qum T hn W hW
 have af:=qjl T 4 n hn (T.ok n hn).2;have dU:=hp.at_.lt;have lB:=fun W (hW:Below w.heap.size w W)=>(hp.below hW).cells.2
 have fp:=fun W (hW:Below w.heap.size w W) m (hm:m∈nodes)=>qks T hB (h.below hW) hm p.x.d0 p.x.d1 hp.num.1 hp.num.2
 obtain⟨z1,_,_⟩:=lB w (Below.refl _ _);rw[gv]at di;generalize hX:ups nodes 4 n=X at di af ⊢
 refine(xrv (n:=3)).1 ?_
 refine callsIn_of_wp_marks func180 rfl trivial ?_ rfl
 unfold nptr at di ⊢;have e1:¬(p.blk=w.heap.size):=by omega
 have e2:¬(p.blk=w.heap.size+1):=by omega
 have e3:¬(p.blk=w.heap.size+1+1):=by omega
 simp only[ntmps180,List.size_toArray,List.length_cons,List.length_nil,Nat.reduceAdd,Nat.reduceSub,Array.replicate_succ,Array.replicate_zero,List.push_toArray,List.append_toArray,List.nil_append,List.cons_append];have bj:Below w.heap.size w (((w.alloc (.cells #[.pointer (some ⟨rr,0,none⟩)] 186)).alloc (.cells #[.pointer (some ⟨p.blk,0,none⟩)] 95)).alloc (.cells #[.bool false] 4)):=by exact bel1
 have x2:Box (((w.alloc (.cells #[.pointer (some ⟨rr,0,none⟩)] 186)).alloc (.cells #[.pointer (some ⟨p.blk,0,none⟩)] 95)).alloc (.cells #[.bool false] 4)) w.heap.size 186 (.pointer (some ⟨rr,0,none⟩)):=((Box.new w 186 _).alloc _).alloc _;have x3:Box (((w.alloc (.cells #[.pointer (some ⟨rr,0,none⟩)] 186)).alloc (.cells #[.pointer (some ⟨p.blk,0,none⟩)] 95)).alloc (.cells #[.bool false] 4)) (w.heap.size+1) 95 (.pointer (some ⟨p.blk,0,none⟩)):=by
  have:=(Box.new (w.alloc (.cells #[.pointer (some ⟨rr,0,none⟩)] 186)) 95 (.pointer (some ⟨p.blk,0,none⟩))).alloc (.cells #[.bool false] 4)
  rwa[xrt]at this
 have x4:Box (((w.alloc (.cells #[.pointer (some ⟨rr,0,none⟩)] 186)).alloc (.cells #[.pointer (some ⟨p.blk,0,none⟩)] 95)).alloc (.cells #[.bool false] 4)) (w.heap.size+1+1) 4 (.bool false):=by
  have:=Box.new ((w.alloc (.cells #[.pointer (some ⟨rr,0,none⟩)] 186)).alloc (.cells #[.pointer (some ⟨p.blk,0,none⟩)] 95)) 4 (.bool false)
  rwa[xrt,xrt]at this
 have dw:(((w.alloc (.cells #[.pointer (some ⟨rr,0,none⟩)] 186)).alloc (.cells #[.pointer (some ⟨p.blk,0,none⟩)] 95)).alloc (.cells #[.bool false] 4)).heap.size=w.heap.size+3:=by simp
 gi_upto_region 1 with fail
 generalize (((w.alloc (.cells #[.pointer (some ⟨rr,0,none⟩)] 186)).alloc (.cells #[.pointer (some ⟨p.blk,0,none⟩)] 95)).alloc (.cells #[.bool false] 4))=W0 at bj x2 x3 x4 dw ⊢;obtain⟨y1,_,_⟩:=lB _ bj;have c3:=x3.cell;clear z1
 gi_wp2_with ((first|refine⟨trivial,bz _,?_⟩|refine⟨trivial,?_⟩);gi_at_call 191;refine(xrv.2 (di _ (fun n hn=>(h.ins n hn).below bj))).mono ?_;rintro e W ⟨rfl,rfl,aB⟩)
 obtain⟨W,hW⟩:∃W,W=W0.alloc (.cells #[.pointer (some ⟨p.q,0,none⟩)] 97):=⟨_,rfl⟩;have cY:W.heap.size=w.heap.size+4:=by rw[hW];simp[dw]
 have ag:Box W w.heap.size 186 (.pointer (some ⟨rr,0,none⟩)):=by rw[hW];exact x2.alloc _
 have aM:Box W (w.heap.size+1) 95 (.pointer (some ⟨p.blk,0,none⟩)):=by rw[hW];exact x3.alloc _
 have bf:Box W (w.heap.size+1+1) 4 (.bool false):=by rw[hW];exact x4.alloc _
 have bZ:Below w.heap.size w W:=by rw[hW];exact bj.alloc bj.size _
 rw[dw]at aB;simp only[<-hW]at aB ⊢;have hq:=aB (fun b=>b=w.heap.size+1+1\/W.heap.size<=b) (fun k hk=>⟨fun e=>by have:=(h.ins k hk).lt;omega,fun g hg e=>by have:=((h.ins k hk).row.lt g hg).2;omega⟩);clear aB di hW x2 x3 x4 c3 y1;have ay:∀b,b<W.heap.size->¬(False\/W.heap.size<=b):=fun b hb e=>by rcases e with e|e;exact e;omega
 refine qfo (T:=fun b=>b=w.heap.size+1+1) (S:=fun _=>False) rfl (enters_of func223 (by kernel_rfl) rfl) hq (Below.refl _ _) rfl (fun b e=>e.elim) (fun b e=>by omega)
  (fun pre A=>pre.all (okAt nodes l p.x)=true/\Box A w.heap.size 186 (.pointer (some ⟨rr,0,none⟩))/\Box A (w.heap.size+1) 95 (.pointer (some ⟨p.blk,0,none⟩))/\Box A (w.heap.size+1+1) 4 (.bool false)/\Below w.heap.size w A)
  (fun c pre A=>c=.ret/\pre.all (okAt nodes l p.x)=false/\Box A (w.heap.size+1+1) 4 (.bool false)/\Below w.heap.size w A)
  (fun pre A B hs hk=>⟨hs.1,hs.2.1.keep hk (ay _ (by omega)),hs.2.2.1.keep hk (ay _ (by omega)),hs.2.2.2.1.keep hk (ay _ (by omega)),hs.2.2.2.2.trans (hk.toBelow hs.2.2.2.2.size (fun b bh=>ay b (by omega)))⟩)
  (fun c pre A B hs hk=>⟨hs.1,hs.2.1,hs.2.2.1.keep hk (ay _ (by omega)),hs.2.2.2.trans (hk.toBelow hs.2.2.2.size (fun b bh=>ay b (by omega)))⟩)
  ⟨rfl,ag,aM,bf,bZ⟩
  (fun x=>{tmps:=#[.pointer (some ⟨rr,0,none⟩),.pointer (some ⟨p.blk,0,none⟩),.pointer (some ⟨w.heap.size,0,none⟩),.pointer (some ⟨w.heap.size+1,0,none⟩),.pointer (some ⟨w.heap.size+1+1,0,none⟩),.pointer (some ⟨x.blk,0,none⟩),.pointer (some ⟨p.blk,0,none⟩),.pointer (some ⟨p.blk,0,none⟩),.pointer (some ⟨p.blk,1,none⟩),.pointer (some ⟨p.q,0,none⟩),
   .func (.func 223) #[] #[.pointer (some ⟨w.heap.size+3,0,none⟩)],.pointer (some ⟨x.blk,0,none⟩),undef,undef,undef,undef,undef,undef,undef,undef,undef],defers:=[]}) ?assign ?body ?done ?stop
 case assign =>
  intro l x W K hK
  gi_wp2
  exact hK
 case body =>
  rintro l2 pre x W2 ⟨aC,e8,bY,aU,ah⟩ eO ax
  have cm:=((af x).1 (ax.subset (by simp))).1;have c2:=e8.cell;have c3:=bY.cell;have hc:=aU.cell;have hf:=aU.frozen;obtain⟨y1,y2,y3⟩:=lB _ ah;have n_:=fun W hW=>fp W hW x cm
  have cg:okAt nodes l p.x x=((shq0 nodes l x p.x.d0 == 0)&&(shq1 nodes l x p.x.d1 == 0)):=rfl;have eY:=fun W=>qvt (shq0 nodes l x p.x.d0) (shq1 nodes l x p.x.d1) 0 0 W
  have gh:∀W,Below w.heap.size w W->Calls prog 216 #[.pointer (some ⟨rr,0,none⟩),.pointer (some ⟨x.blk,0,none⟩),.agg #[.int .i64 p.x.d0,.int .i64 p.x.d1]] W fun e w'=>e=.returned (.agg #[.int .i64 (shq0 nodes l x p.x.d0),.int .i64 (shq1 nodes l x p.x.d1)])/\Below W.heap.size W w':=n_
  generalize shq0 nodes l x p.x.d0=s0 at cg eY gh;generalize shq1 nodes l x p.x.d1=s1 at cg eY gh;have ey:Hid (pre.all (okAt nodes l p.x)=true):=aC;have jk:Hid (okAt nodes l p.x x=((s0 == 0)&&(s1 == 0))):=cg;have rJ:prog.follows .mixedOrders=true:=by kernel_rfl
  clear aC cg n_ fp hq
  gi_upto_region 3 with fail
  refine qc8 (fun W'=>W'.cell? ⟨w.heap.size,0,none⟩=some (.pointer (some ⟨rr,0,none⟩))/\W'.cell? ⟨w.heap.size+1,0,none⟩=some (.pointer (some ⟨p.blk,0,none⟩))/\W'.cell? ⟨p.blk,2,none⟩=some (.int .i64 p.x.d0)/\W'.cell? ⟨p.blk,3,none⟩=some (.int .i64 p.x.d1)/\Below W2.heap.size W2 W') (by kernel_rfl) (by kernel_rfl) ⟨c2,c3,y2,y3,by exact bel2⟩ (fun hS=>?_)
  refine wpAnyH_take (i:=0) (v:=.pointer (some ⟨rr,0,none⟩)) rfl (by kernel_rfl) (by kernel_rfl) (by kernel_rfl) (fun _ _ _ h=>absurd h.1 (by intro e;cases e)) (Or.inl ⟨by rfl,?_⟩) hS ?_
  ·intro w' b8;obtain⟨s2,s3,s4,s5,_⟩:=b8
   go_simp
  simp only[xr5,xr3,xr4,Act.put,xr6,xr8,xr7]
  refine wpAnyH_take (i:=1) (v:=.pointer (some ⟨x.blk,0,none⟩)) rfl (by kernel_rfl) (by kernel_rfl) (by kernel_rfl) (fun _ _ _ h=>absurd h.1 (by intro e;cases e)) (Or.inl ⟨by rfl,?_⟩) hS ?_
  ·intro w' b8;obtain⟨s2,s3,s4,s5,_⟩:=b8
   go_simp
  simp only[xr5,xr3,xr4,Act.put,xr6,xr8,xr7]
  refine wpAnyH_take (i:=2) (v:=.pointer (some ⟨p.blk,0,none⟩)) rfl (by kernel_rfl) (by kernel_rfl) (by kernel_rfl) (fun _ _ _ h=>absurd h.1 (by intro e;cases e)) (Or.inl ⟨by rfl,?_⟩) hS ?_
  ·intro w' b8;obtain⟨s2,s3,s4,s5,_⟩:=b8
   go_simp
  simp only[xr5,xr3,xr4,Act.put,xr6,xr8,xr7]
  refine wpAnyH_take (i:=3) (v:=.pointer (some ⟨p.blk,0,none⟩)) rfl (by kernel_rfl) (by kernel_rfl) (by kernel_rfl) (fun _ _ _ h=>absurd h.1 (by intro e;cases e)) (Or.inl ⟨by rfl,?_⟩) hS ?_
  ·intro w' b8;obtain⟨s2,s3,s4,s5,_⟩:=b8
   go_simp
  simp only[xr5,xr3,xr4,Act.put,xr6,xr8,xr7]
  refine wpAnyH_take (i:=4) (v:=.pointer (some ⟨p.blk,2,none⟩)) rfl (by kernel_rfl) (by kernel_rfl) (by kernel_rfl) (fun _ _ _ h=>absurd h.1 (by intro e;cases e)) (Or.inl ⟨by rfl,?_⟩) hS ?_
  ·intro w' b8;obtain⟨s2,s3,s4,s5,_⟩:=b8
   go_simp
  simp only[xr5,xr3,xr4,Act.put,xr6,xr8,xr7]
  refine wpAnyH_take (i:=5) (v:=.agg #[.int .i64 p.x.d0,.int .i64 p.x.d1]) rfl (by kernel_rfl) (by kernel_rfl) (by kernel_rfl) (fun _ _ _ h=>absurd h.1 (by intro e;cases e)) (Or.inl ⟨by rfl,?_⟩) hS ?_
  ·intro w' b8;obtain⟨s2,s3,s4,s5,_⟩:=b8
   go_simp
  simp only[xr5,xr3,xr4,Act.put,xr6,xr8,xr7]
  refine wpAnyH_take (i:=7) (v:=.agg #[.int .i64 0,.int .i64 0]) rfl (by kernel_rfl) (by kernel_rfl) (by kernel_rfl) (fun _ _ _ h=>absurd h.1 (by intro e;cases e)) (Or.inl ⟨by rfl,?_⟩) hS ?_
  ·intro w' b8;obtain⟨s2,s3,s4,s5,_⟩:=b8
   go_simp
  simp only[xr5,xr3,xr4,Act.put,xr6,xr8,xr7]
  refine wpAnyH_ready (rs:=[6]) (by kernel_rfl) (by simp) ?_
  refine AllReadyH.cons rfl (fun K hK=>?_) AllReadyH.nil
  rw[if_pos (by rfl)]
  try simp only[xr5,xr3,xr4]
  go_simp
  refine(gh _ (qab ah (by exact bel2))).mono ?_
  rintro e W3 ⟨rfl,eD⟩
  have cC:Below W2.heap.size W2 W3:=qab (show Below W2.heap.size W2 W2.drew by exact bel2) eD;have eW:=e8.lt;have rG:=bY.lt;have rI:=(hp.below ah).at_.lt
  refine hK.out _ _ ⟨(cC.cell (p:=⟨w.heap.size,0,none⟩) eW).trans c2,(cC.cell (p:=⟨w.heap.size+1,0,none⟩) rG).trans c3,(cC.cell (p:=⟨p.blk,2,none⟩) rI).trans y2,(cC.cell (p:=⟨p.blk,3,none⟩) rI).trans y3,cC⟩ (fun hS=>?_)
  clear hK
  try simp only[xr5,xr3,xr4,Act.put,xr6,xr8,xr7]
  refine wpAnyH_take (i:=8) (v:=.bool (!(s0 == 0&&s1 == 0))) rfl (by kernel_rfl) (by kernel_rfl) (by kernel_rfl) (fun _ _ _ h=>absurd h.1 (by intro e;cases e)) (Or.inl ⟨by rfl,?_⟩) hS ?_
  ·intro w' b8
   go_simp
  try simp only[xr5,xr3,xr4,Act.put,xr6,xr8,xr7]
  refine wpAnyH_done (by kernel_rfl) ⟨rfl,?_⟩ _
  have bH:Below w.heap.size w W3:=qab ah cC;have k2:=e8.below cC eW;have k3:=bY.below cC rG;have k4:=aU.below cC aU.lt;have kc:=k4.cell;have kf:=k4.frozen;clear hc hf c2 c3 y1 y2 y3 hS eY gh;generalize iq:(s0 == 0&&s1 == 0)=bv at jk;clear iq
  cases bv
  ·gi_wp2_with fail
   refine⟨((Keep.new (T:=fun b=>b=w.heap.size+1+1) cC).setCell (p:=⟨w.heap.size+1+1,0,none⟩) rfl _),rfl,?_,k4.set _,bH.setCell (by simp;omega) _⟩
   rw[List.all_append,ey.out]
   simp[jk.out]
  ·gi_wp2_with fail
   refine⟨Keep.new cC,?_,k2,k3,k4,bH⟩
   rw[List.all_append,ey.out]
   simp[jk.out]
 case done =>
  rintro A ⟨aC,e8,bY,aU,ah⟩ hD
  have hc:=aU.cell;have hf:=aU.frozen
  gi_wp2
  have fU:(A.setCell ⟨w.heap.size+1+1,0,none⟩ (.bool true)).heap[W.heap.size]?=some (.deferred (some [])):=(Below.heap_setCell _ _ _ _ (by simp;omega)).trans hD;have ag:=((aU.set (.bool true)).put W.heap.size (.deferred none) (by omega)).cell
  refine⟨by simp,.inl ⟨_,_,rfl,run_takeDeferred fU,?_⟩⟩
  exact⟨.bool true,by simp[results,results180,go_sem,ag],qbt aC.symm,qay (ah.setCell (by simp;omega) _) _ _ (by omega)⟩
 case stop =>
  rintro c pre A ax ⟨rfl,hv,aU,ah⟩ hD
  gi_wp2
  have ag:=(aU.put W.heap.size (.deferred none) (by omega)).cell
  refine⟨by simp,.inl ⟨_,_,rfl,run_takeDeferred hD,?_⟩⟩
  refine⟨.bool false,by simp[results,results180,go_sem,ag],qbt ?_,qay ah _ _ (by omega)⟩
  symm
  rw[List.all_eq_false]at hv ⊢;obtain⟨y,hy,j_⟩:=hv
  exact⟨y,ax.subset hy,j_⟩
end
section
open Go.RowKit
variable {nodes:List Node}{Ws:List Wk}{as_ ws:List Pw}{x:Wk}{m n:Node}{a c:Int}{p:Pw}
theorem qfg{k a:List Bs}(hk:qbx k=true)(ha:qbx a=true):inB (qaa k) (qaa a)=a.isPrefixOf k:=by
 rw[Bool.eq_iff_iff,qe1 hk ha,xrw]
theorem qkv(k:List Bs)(hk:qbx k=true):∀l:List Node,(∀n∈l,qbx n.key=true/\(n.leaf=false->n.n0=0/\n.n1=0)) ->
  es0 (qai (l.map Node.ent) (qaa k))=sum0 (under l k)/\es1 (qai (l.map Node.ent) (qaa k))=sum1 (under l k)
 | [],_=>⟨rfl,rfl⟩
 |n::l,h=>by
  obtain⟨i0,i1⟩:=qkv k hk l (fun m hm=>h m (by simp[hm]));obtain⟨h1,h2⟩:=h n (by simp);have hp:=qfg h1 hk;unfold qai under es0 es1 sum0 sum1 at *;rw[List.map_cons,xrz,xrz];have e1:(Node.ent n).leaf=n.leaf:=rfl;have e2:(Node.ent n).key=n.key:=rfl;rw[e1,e2,hp]
  cases hl:n.leaf
  ·obtain⟨z0,z1⟩:=h2 hl
   cases k.isPrefixOf n.key
   ·simpa using ⟨i0,i1⟩
   ·simp only[Bool.false_and,Bool.false_eq_true,if_false,if_true,List.map_cons,List.sum_cons,z0,z1,Int.zero_add];exact⟨i0,i1⟩
  ·cases k.isPrefixOf n.key
   ·simpa using ⟨i0,i1⟩
   ·simp only[Bool.and_self,if_true,List.map_cons,List.sum_cons]
    exact⟨by rw[i0];rfl,by rw[i1];rfl⟩
theorem Tree.ents(T:Tree nodes):Ents (nodes.map Node.ent):=by
 refine⟨fun e he=>?_,fun e he=>?_,by simpa using T.len,?_⟩
 ·obtain⟨n,hn,rfl⟩:=xrq.1 he;exact T.ok n hn
 ·obtain⟨n,hn,rfl⟩:=xrq.1 he;exact⟨(T.num n hn).1,(T.num n hn).2.1⟩
 ·obtain⟨r,h0,_⟩:=T.root
  have:=(xr0.1 h0).1
  simpa using this
structure Rel (nodes:List Node) (Ws:List Wk) (ws as_:List Pw):Prop where
 w:ws.map (·.x)=Ws.filter (fun x=>x.st == 0)
 a:∃az:List Wk,as_.map (·.x)=az.map (·.adm 0)/\az.Perm (Ws.filter fun x=>decide (0<x.st))/\az.Pairwise (fun x y=>x.st<y.st)
 leaf:∀p∈ws++as_,∃n∈nodes,n.blk=p.q/\n.key=p.x.key
theorem qyd(l:List Wk):ws0 (l.map (·.adm 0))=ws0 l:=by
 unfold ws0;rw[List.map_map];rfl
theorem qye(l:List Wk):ws1 (l.map (·.adm 0))=ws1 l:=by
 unfold ws1;rw[List.map_map];rfl
theorem Rel.qv6(R:Rel nodes Ws ws as_)(hW:Wks Ws){k:List Bs}(hk:qbx k=true):∃l:List Wk,pun as_ k=l.map (·.adm 0)/\l.Perm (qae Ws (qaa k)):=by
 obtain⟨az,h1,h2,_⟩:=R.a
 refine⟨az.filter fun x=>k.isPrefixOf x.key,?_,?_⟩
 ·unfold pun;rw[h1,List.filter_map]
  rfl
 ·refine(h2.filter _).trans ?_
  rw[List.filter_filter];unfold qae
  refine List.Perm.of_eq (List.filter_congr fun x hx=>?_)
  rw[qfg (hW.ok x hx).1 hk,Bool.and_comm]
theorem Rel.use(R:Rel nodes Ws ws as_)(hW:Wks Ws){k:List Bs}(hk:qbx k=true):ws0 (pun as_ k)=ws0 (qae Ws (qaa k))/\ws1 (pun as_ k)=ws1 (qae Ws (qaa k)):=by
 obtain⟨l,h1,h2⟩:=R.qv6 hW hk;rw[h1,qyd,qye]
 exact⟨qe8 h2,qe9 h2⟩
theorem qb7(T:Tree nodes){k:List Bs}(hk:qbx k=true):pn0 nodes k=es0 (qai (nodes.map Node.ent) (qaa k))/\pn1 nodes k=es1 (qai (nodes.map Node.ent) (qaa k)):=by
 obtain⟨h0,h1⟩:=qkv k hk nodes (fun m hm=>⟨(T.ok m hm).1,(T.num m hm).2.2.2.2⟩)
 exact⟨h0.symm,h1.symm⟩
def ownP (nodes:List Node)(l:List Pw)(x:Wk):Bool:=(abv (ws0 (pun l x.key)+x.d0) (pn0 nodes x.key) == 0)&&(abv (ws1 (pun l x.key)+x.d1) (pn1 nodes x.key) == 0)
theorem qgk(a c:Int):(abv a c == 0)=decide (a<=c):=by
 unfold abv
 by_cases h:a<=c
 ·rw[decide_eq_true h,beq_iff_eq];omega
 ·rw[decide_eq_false h,beq_eq_false_iff_ne];omega
theorem Rel.own(R:Rel nodes Ws ws as_)(T:Tree nodes)(hW:Wks Ws)(hx:qbx x.key=true):ownP nodes as_ x=ownW (nodes.map Node.ent) Ws x:=by
 unfold ownP ownW;rw[qgk,qgk,(R.use hW hx).1,(R.use hW hx).2,(qb7 T hx).1,(qb7 T hx).2]
theorem Rel.short(R:Rel nodes Ws ws as_)(T:Tree nodes)(hW:Wks Ws)(hm:m∈nodes)(d0 d1:Int):
  sh0 (nodes.map Node.ent) Ws m.ent d0=!(shq0 nodes as_ m d0 == 0)/\sh1 (nodes.map Node.ent) Ws m.ent d1=!(shq1 nodes as_ m d1 == 0):=by
 have hk:=(T.ok m hm).1;have e1:m.ent.key=m.key:=rfl;have e2:m.ent.b0=m.b0:=rfl;have e3:m.ent.b1=m.b1:=rfl;unfold sh0 sh1 shq0 shq1;rw[qgk,qgk,(R.use hW hk).1,(R.use hW hk).2,(qb7 T hk).1,(qb7 T hk).2,e1,e2,e3]
 constructor
 ·rw[<-decide_not];exact decide_eq_decide.2 (by omega)
 ·rw[<-decide_not];exact decide_eq_decide.2 (by omega)
theorem Rel.fits(R:Rel nodes Ws ws as_)(T:Tree nodes)(hW:Wks Ws)(hn:n∈nodes)(hk:n.key=x.key):
  (ups nodes 4 n).all (okAt nodes as_ x)=qbv (nodes.map Node.ent) Ws x:=by
 have af:=qjl T 4 n hn (T.ok n hn).2;have hx:=(T.ok n hn).1;rw[hk]at hx;rw[Bool.eq_iff_iff];unfold qbv;rw[List.all_eq_true,List.all_eq_true];have key:∀m∈nodes,(tight (nodes.map Node.ent) Ws x m.ent=(m.key.isPrefixOf x.key&&!okAt nodes as_ x m)):=fun m hm=>by
  unfold tight okAt;rw[(R.short T hW hm x.d0 x.d1).1,(R.short T hW hm x.d0 x.d1).2,show m.ent.key=m.key from rfl,qfg hx (T.ok m hm).1,Bool.not_and]
 constructor
 ·intro h e he;obtain⟨m,hm,rfl⟩:=xrq.1 he;rw[key m hm]
  cases hp:m.key.isPrefixOf x.key with
  |false=>rfl
  |true =>
   have:=h m ((af m).2 ⟨hm,by rw[hk];exact xrw.1 hp⟩)
   simp[this]
 ·intro h m hm;obtain⟨h1,h2⟩:=(af m).1 hm
  have:=h m.ent (xrq.2 ⟨m,h1,rfl⟩)
  rw[key m h1,xrw.2 (by rw[<-hk];exact h2)]at this
  simpa using this
def qhr (nodes:List Node)(l:List Pw)(x v:Wk)(m:Node):Bool :=
 m.key.isPrefixOf v.key&&!((min (min (shq0 nodes l m x.d0) (abv (ws0 (pun l v.key)) (pn0 nodes v.key))) v.d0 == 0)&&(min (min (shq1 nodes l m x.d1) (abv (ws1 (pun l v.key)) (pn1 nodes v.key))) v.d1 == 0))
theorem qmw{b:Int}(ha:0<=a)(hb:0<=b)(hc:0<=c):(!(min (min a b) c == 0))=(!(a == 0)&&(!(b == 0)&&decide (c>0))):=by
 rw[Bool.eq_iff_iff];simp only[Bool.not_eq_true',Bool.and_eq_true,beq_eq_false_iff_ne,decide_eq_true_eq]
 omega
theorem qoz(a c:Int):0<=abv a c:=by unfold abv;omega
theorem qwq(a c:Int):(!(abv a c == 0))=decide (a>c):=by
 rw[qgk,<- decide_not];exact decide_eq_decide.2 (by omega)
theorem Rel.way(R:Rel nodes Ws ws as_)(T:Tree nodes)(hW:Wks Ws){v:Wk}(hn:n∈nodes)(hk:n.key=x.key)(hv:qbx v.key=true)(hd:0<=v.d0/\0<=v.d1):
  (ups nodes 4 n).any (qhr nodes as_ x v)=way (nodes.map Node.ent) Ws x v:=by
 have af:=qjl T 4 n hn (T.ok n hn).2;have hx:=(T.ok n hn).1;rw[hk]at hx;have key:∀m∈nodes,(way0 (nodes.map Node.ent) Ws x v m.ent||way1 (nodes.map Node.ent) Ws x v m.ent)=(m.key.isPrefixOf x.key&&qhr nodes as_ x v m):=fun m hm=>by
  unfold way0 way1 qhr;rw[(R.short T hW hm x.d0 x.d1).1,(R.short T hW hm x.d0 x.d1).2,show m.ent.key=m.key from rfl,qfg hx (T.ok m hm).1,qfg hv (T.ok m hm).1];rw[Bool.not_and,qmw (show 0<=shq0 nodes as_ m x.d0 from qoz _ _) (qoz _ _) hd.1,qmw (show 0<=shq1 nodes as_ m x.d1 from qoz _ _) (qoz _ _) hd.2,qwq,qwq,(R.use hW hv).1,(R.use hW hv).2,(qb7 T hv).1,(qb7 T hv).2]
  cases m.key.isPrefixOf x.key<;>cases m.key.isPrefixOf v.key<;>simp
 rw[Bool.eq_iff_iff];unfold Proofs.YtphclnolomgjoaaGreatDoor.way;rw[xs0,xs0]
 constructor
 ·rintro⟨m,hm,h⟩
  obtain⟨h1,h2⟩:=(af m).1 hm
  refine⟨m.ent,xrq.2 ⟨m,h1,rfl⟩,?_⟩
  rw[key m h1,h,xrw.2 (by rw[<-hk];exact h2)]
  rfl
 ·rintro⟨e,he,h⟩
  obtain⟨m,hm,rfl⟩:=xrq.1 he;rw[key m hm,Bool.and_eq_true]at h
  exact⟨m,(af m).2 ⟨hm,by rw[hk];exact xrw.1 h.1⟩,h.2⟩
theorem qqj(l:List Pw)(f:Wk->Bool):(l.find? fun p=>f p.x).map (·.x)=(l.map (·.x)).find? f:=by
 induction l with
 |nil=>rfl
 |cons p l ih =>
  simp only[List.map_cons,List.find?_cons]
  cases f p.x<;>simp[ih]
theorem Rel.qts(R:Rel nodes Ws ws as_)(T:Tree nodes)(hB:qa1 nodes)(hn:n∈nodes)(hp:p∈ws++as_):(p.q == n.blk)=decide (p.x.key=n.key):=by
 obtain⟨m,hm,h1,h2⟩:=R.leaf p hp;rw[<-h1,<- h2]
 by_cases h:m.blk=n.blk
 ·have:=hB m hm n hn h
  subst this
  simp
 ·rw[beq_eq_false_iff_ne.2 h,eq_comm,decide_eq_false_iff_not]
  exact fun e=>h (by rw[T.inj m hm n hn e])
theorem find_congr{α : Type}{f g : α -> Bool}:∀ {l:List α},(∀x∈l,f x=g x)->l.find? f=l.find? g
 | [],_=>rfl
 |a::l,h=>by
  simp only[List.find?_cons];rw[h a (by simp),find_congr (fun x hx=>h x (by simp[hx]))]
theorem Rel.head(R:Rel nodes Ws ws as_)(T:Tree nodes)(hB:qa1 nodes)(hn:n∈nodes):(ws.find? fun p=>p.q == n.blk).map (·.x)=qaz Ws n.key:=by
 rw[find_congr (g:=fun p=>decide (p.x.key=n.key)) (fun p hp=>R.qts T hB hn (xr9 _ hp)),qqj ws (fun x=>decide (x.key=n.key)),R.w,List.find?_filter];unfold qaz
 refine find_congr fun y _=>?_
 cases hs:y.st == 0<;>simp
end
end Go.Proofs.YtphclnolomgjoaaGreatDoor
