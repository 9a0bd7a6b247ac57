import Derived.Test.YtphclnolomgjoaaGreatDoorB02
import Derived.Deep.RegionLaw
import Derived.Lib.AppendZerosOnto
import Derived.Lib.Overlaps
import Derived.Laws.NewBlocks
set_option linter.unusedVariables false
set_option linter.unusedSimpArgs false
set_option maxRecDepth 100000
set_option maxHeartbeats 4000000
namespace Go.Proofs.YtphclnolomgjoaaGreatDoor
open Tryz
section
open Go.RowKit Go.Shelf
variable {nodes:List Node}{n r:Node}{W2 w w':World}
attribute [local go_sem] Oper.semAt_some
def sum0 (l:List Node):Int:=(l.map (·.n0)).sum
def sum1 (l:List Node):Int:=(l.map (·.n1)).sum
theorem qt9(l:List Node)(x:Node):sum0 (l++[x])=sum0 l+x.n0:=by simp[sum0]
theorem qub(l:List Node)(x:Node):sum1 (l++[x])=sum1 l+x.n1:=by simp[sum1]
theorem qt8(l:List Node)(h:∀n∈l,0<=n.n0/\n.n0<=1000):0<=sum0 l/\sum0 l<=1000*l.length:=by
 induction l with
 |nil=>simp[sum0]
 |cons a l ih =>
  have h1:=ih (fun n hn=>h n (by simp[hn]));have h2:=h a (by simp)
  simp[sum0]at h1 ⊢;omega
theorem qua(l:List Node)(h:∀n∈l,0<=n.n1/\n.n1<=1000):0<=sum1 l/\sum1 l<=1000*l.length:=by
 induction l with
 |nil=>simp[sum1]
 |cons a l ih =>
  have h1:=ih (fun n hn=>h n (by simp[hn]));have h2:=h a (by simp)
  simp[sum1]at h1 ⊢;omega
theorem qk7{ch:Node->List Node}(K:Kids nodes ch):∀(f:Nat) (n:Node),n∈nodes->∀k∈dfs ch f n,k∈nodes:=by
 intro f
 induction f with
 |zero=>intro n hn k hk;simp[dfs]at hk;subst hk;exact hn
 |succ f ih =>
  intro n hn k hk;simp only[dfs,List.mem_cons,List.mem_flatMap]at hk
  rcases hk with rfl|⟨c,hc,hk⟩
  ·exact hn
  ·exact ih c ((K.mem n hn c).1 hc).1 k hk
theorem qvb(T:Tree nodes){ch:Node->List Node}(K:Kids nodes ch)(hr:r∈nodes)(a9:(dfs ch 4 r).length<=100)(bt:Nat)(w:World)(hN:∀n∈nodes,qag w n)(ht:w.cell? ⟨bt,0,none⟩=some (nptr r.blk)):
  Calls prog 182 #[.pointer (some ⟨bt,0,none⟩)] w fun e w'=>e=.returned (.bool (decide (20<=(dfs ch 4 r).length)))/\Below w.heap.size w w':=by
 have bz:∀k:Nat,Fence.wide.depth.isSome=true->1<=k:=fun k h=>by simp[Fence.wide]at h
 have ak:=xrb w _ ht;have aC:∀W,(∀n∈nodes,qag W n)->_:=fun W hW=>qio T K hr W hW
 generalize hX:dfs ch 4 r=X at aC a9 ⊢
 refine(xrv (n:=3)).1 ?_
 refine callsIn_of_wp_marks func182 rfl trivial ?_ rfl
 unfold nptr at ht;simp only[ntmps182,List.size_toArray,List.length_cons,List.length_nil,Nat.reduceAdd,Nat.reduceSub,Array.replicate_succ,Array.replicate_zero,List.push_toArray,List.append_toArray,List.nil_append,List.cons_append];unfold nptr at aC
 gi_wp2_with ((first|refine⟨trivial,bz _,?_⟩|refine⟨trivial,?_⟩);gi_at_call 101;refine(xrv.2 (aC _ (fun n hn=>(hN n hn).below (by(repeat (first|exact Below.refl _ _|refine qab ?_ (by assumption)|refine Below.setCell ?_ (by first|omega|(simp<;>omega)) _|refine Below.alloc ?_ (by first|omega|(simp<;>omega)) _|refine Below.drew ?_|refine xrm ?_ _)))))).mono ?_;rintro e W ⟨rfl,rfl,aB⟩)
 obtain⟨W,hW⟩:∃W,W=(w.alloc (.cells #[.int .i64 0] 3)).alloc (.cells #[.pointer (some ⟨r.blk,0,none⟩)] 97):=⟨_,rfl⟩;have cY:W.heap.size=w.heap.size+2:=by rw[hW];simp
 have e2:(w.alloc (.cells #[.int .i64 0] 3)).heap.size=w.heap.size+1:=by simp
 have ag:Box W w.heap.size 3 (.int .i64 0):=by rw[hW];exact(Box.new w 3 _).alloc _
 have bZ:Below w.heap.size w W:=by rw[hW];(repeat (first|exact Below.refl _ _|refine qab ?_ (by assumption)|refine Below.setCell ?_ (by first|omega|(simp<;>omega)) _|refine Below.alloc ?_ (by first|omega|(simp<;>omega)) _|refine Below.drew ?_|refine xrm ?_ _))
 rw[e2]at aB;simp only[<-hW]at aB ⊢;have hq:=aB (fun b=>b=w.heap.size\/W.heap.size<=b) (fun k hk=>⟨fun h=>by have:=(hN k hk).lt;omega,fun g hg h=>by have:=((hN k hk).row.lt g hg).2;omega⟩);clear aB aC e2 hW
 refine qfo (T:=fun b=>b=w.heap.size) (S:=fun _=>False) rfl (enters_of func149 (by kernel_rfl) rfl) hq (Below.refl _ _) rfl (fun b h=>h.elim) (fun b h=>by omega)
  (fun pre A=>Box A w.heap.size 3 (.int .i64 pre.length)/\Below w.heap.size w A)
  (fun c pre A=>False)
  (fun pre A B hs hk=>⟨hs.1.keep hk (fun h=>by rcases h with h|h;exact h;omega),hs.2.trans (hk.toBelow hs.2.size (fun b bh h=>by rcases h with h|h;exact h;omega))⟩)
  (fun c pre A B hs hk=>hs)
  ⟨ag,bZ⟩
  (fun x=>{tmps:=#[.pointer (some ⟨bt,0,none⟩),undef,.bool false,.pointer (some ⟨w.heap.size,0,none⟩),.pointer (some ⟨bt,0,none⟩),.pointer (some ⟨bt,0,none⟩),.pointer (some ⟨bt,0,none⟩),.pointer (some ⟨r.blk,0,none⟩),
   .func (.func 149) #[] #[.pointer (some ⟨w.heap.size+1,0,none⟩)],.pointer (some ⟨x.blk,0,none⟩),undef,undef,undef,undef],defers:=[]}) ?assign ?body ?done ?stop
 case assign =>
  intro l x W K hK
  gi_wp2
  simpa using hK
 case body =>
  rintro l pre x W2 ⟨aU,ah⟩ eO ax
  have hc:=aU.cell;have hf:=aU.frozen;have dU:pre.length<X.length:=by have:=ax.length_le;simp at this;omega
  gi_wp2
  refine⟨(Keep.refl (fun b=>b=w.heap.size) _).setCell (p:=⟨w.heap.size,0,none⟩) rfl _,?_,ah.setCell (Nat.le_refl _) _⟩
  have:=aU.set (.int .i64 ((pre.length:Int)+1))
  simpa using this
 case done =>
  rintro A ⟨aU,ah⟩ hD
  have hc:=aU.cell
  gi_wp2
  refine⟨by simp,.inl ⟨_,_,rfl,run_takeDeferred hD,?_⟩⟩
  refine⟨.bool (decide (20<=(X.length:Int))),results_tmp (t:=2) rfl _ _ _,qbt (by simp only[decide_eq_decide];omega),qay ah _ _ (by omega)⟩
 case stop =>
  rintro c pre A _ h _
  exact h.elim
theorem qyl(h:Below w.heap.size w W2)(hb:Below W2.drew.heap.size W2.drew w'):Below w.heap.size w w':=qab h.drew hb
theorem qoh(T:Tree nodes){ch:Node->List Node}(K:Kids nodes ch)(hn:n∈nodes)(a9:(dfs ch 4 n).length<=90)(w:World)(hN:∀n∈nodes,qag w n):
  Calls prog 85 #[nptr n.blk] w fun e w'=>e=.returned (.agg #[.int .i64 (sum0 (dfs ch 4 n)),.int .i64 (sum1 (dfs ch 4 n))])/\Below w.heap.size w w':=by
 have bz:∀k:Nat,Fence.wide.depth.isSome=true->1<=k:=fun k h=>by simp[Fence.wide]at h
 have aC:∀W,(∀n∈nodes,qag W n)->_:=fun W hW=>qio T K hn W hW
 have af:=qk7 K 4 n hn;generalize hX:dfs ch 4 n=X at aC a9 af ⊢
 refine(xrv (n:=3)).1 ?_
 refine callsIn_of_wp_marks func85 rfl trivial ?_ rfl
 unfold nptr at aC ⊢;simp only[ntmps85,List.size_toArray,List.length_cons,List.length_nil,Nat.reduceAdd,Nat.reduceSub,Array.replicate_succ,Array.replicate_zero,List.push_toArray,List.append_toArray,List.nil_append,List.cons_append]
 gi_wp2_with ((first|refine⟨trivial,bz _,?_⟩|refine⟨trivial,?_⟩);gi_at_call 101;refine(xrv.2 (aC _ (fun n hn=>(hN n hn).below (by(repeat (first|exact Below.refl _ _|refine qab ?_ (by assumption)|refine Below.setCell ?_ (by first|omega|(simp<;>omega)) _|refine Below.alloc ?_ (by first|omega|(simp<;>omega)) _|refine Below.drew ?_|refine xrm ?_ _)))))).mono ?_;rintro e W ⟨rfl,rfl,aB⟩)
 obtain⟨W,hW⟩:∃W,W=((w.alloc (.cells #[.int .i64 0,.int .i64 0] 35)).alloc (.cells #[.int .i64 0,.int .i64 0] 35)).alloc (.cells #[.pointer (some ⟨n.blk,0,none⟩)] 97):=⟨_,rfl⟩;have cY:W.heap.size=w.heap.size+3:=by rw[hW];simp
 have e2:((w.alloc (.cells #[.int .i64 0,.int .i64 0] 35)).alloc (.cells #[.int .i64 0,.int .i64 0] 35)).heap.size=w.heap.size+2:=by simp
 have ag:Blk W w.heap.size 35 #[.int .i64 0,.int .i64 0]:=by rw[hW];exact((Blk.new w 35 _).alloc _).alloc _
 have aM:Blk W (w.heap.size+1) 35 #[.int .i64 0,.int .i64 0]:=by
  rw[hW];have:=Blk.new (w.alloc (.cells #[.int .i64 0,.int .i64 0] 35)) 35 #[.int .i64 0,.int .i64 0];rw[xrt]at this;exact this.alloc _
 have bZ:Below w.heap.size w W:=by rw[hW];(repeat (first|exact Below.refl _ _|refine qab ?_ (by assumption)|refine Below.setCell ?_ (by first|omega|(simp<;>omega)) _|refine Below.alloc ?_ (by first|omega|(simp<;>omega)) _|refine Below.drew ?_|refine xrm ?_ _))
 rw[e2]at aB;simp only[<-hW]at aB ⊢;have hq:=aB (fun b=>b=w.heap.size+1\/W.heap.size<=b) (fun k hk=>⟨fun h=>by have:=(hN k hk).lt;omega,fun g hg h=>by have:=((hN k hk).row.lt g hg).2;omega⟩);clear aB aC e2 hW
 refine qfo (T:=fun b=>b=w.heap.size+1) (S:=fun _=>False) rfl (enters_of func149 (by kernel_rfl) rfl) hq (Below.refl _ _) rfl (fun b h=>h.elim) (fun b h=>by omega)
  (fun pre A=>Blk A (w.heap.size+1) 35 #[.int .i64 (sum0 pre),.int .i64 (sum1 pre)]/\Blk A w.heap.size 35 #[.int .i64 0,.int .i64 0]/\Below w.heap.size w A)
  (fun c pre A=>False)
  (fun pre A B hs hk=>⟨hs.1.keep hk (fun h=>by rcases h with h|h;exact h;omega),hs.2.1.keep hk (fun h=>by rcases h with h|h;exact h;omega),hs.2.2.trans (hk.toBelow hs.2.2.size (fun b bh h=>by rcases h with h|h;exact h;omega))⟩)
  (fun c pre A B hs hk=>hs)
  ⟨aM,ag,bZ⟩
  (fun x=>{tmps:=#[.pointer (some ⟨n.blk,0,none⟩),undef,.pointer (some ⟨w.heap.size,0,none⟩),.pointer (some ⟨w.heap.size+1,0,none⟩),.pointer (some ⟨x.blk,0,none⟩),.pointer (some ⟨n.blk,0,none⟩),
   .func (.func 149) #[] #[.pointer (some ⟨w.heap.size+2,0,none⟩)],.pointer (some ⟨x.blk,0,none⟩),undef,undef,undef,undef,undef,undef,undef],defers:=[]}) ?assign ?body ?done ?stop
 case assign =>
  intro l x W K hK
  gi_wp2
  exact hK
 case body =>
  rintro l pre x W2 ⟨aM,ag,ah⟩ eO ax
  have cm:x∈nodes:=af x (ax.subset (by simp));have cI:∀k∈pre,k∈nodes:=fun k hk=>af k (ax.subset (by simp[hk]))
  have dU:pre.length<90:=by have:=ax.length_le;simp at this;omega
  have s0:=qt8 pre (fun k hk=>(T.num k (cI k hk)).1);have s1:=qua pre (fun k hk=>(T.num k (cI k hk)).2.1);have x0:=(T.num x cm).1;have x1:=(T.num x cm).2.1;have yO:=(hN x cm).below ah;have c2:W2.cell? ⟨x.blk,2,none⟩=some (.int .i64 x.n0):=yO.cell rfl;have c3:W2.cell? ⟨x.blk,3,none⟩=some (.int .i64 x.n1):=yO.cell rfl;have d0:=aM.cell 0;have d1:=aM.cell 1;have f0:=aM.frozen 0;have f1:=aM.frozen 1;simp only[xq0,xq1,xq2]at d0 d1;have ft:=fun W=>qim (sum0 pre) (sum1 pre) x.n0 x.n1 W (by omega) (by omega) (by omega) (by omega) (by omega) (by omega) (by omega) (by omega)
  have rJ:prog.follows .mixedOrders=true:=by kernel_rfl
  gi_wp2
  gi_region_with_o ((first|refine⟨trivial,bz _,?_⟩|refine⟨trivial,?_⟩|skip);gi_at_call 139;refine(CallsIn.inRound l (xrv.2 (ft _))).mono ?_;rintro e w' ⟨rfl,eD⟩;have g0:=(eD.cell (p:=⟨w.heap.size+1,0,none⟩) aM.lt).trans d0;have g1:=(eD.cell (p:=⟨w.heap.size+1,1,none⟩) aM.lt).trans d1;have q0:=(eD.frozen (p:=⟨w.heap.size+1,0,none⟩) aM.lt).trans f0;have q1:=(eD.frozen (p:=⟨w.heap.size+1,1,none⟩) aM.lt).trans f1)
  all_goals gi_wp2
  all_goals
   have hK:Keep (fun b=>b=w.heap.size+1) W2 w':=(Keep.refl _ W2).drew.trans (Keep.new eD)
   refine⟨(hK.setCell (p:=⟨w.heap.size+1,0,none⟩) rfl _).setCell (p:=⟨w.heap.size+1,1,none⟩) rfl _,?_,?_,?_⟩
   ·have:=((aM.drew.below eD aM.lt).set 0 (.int .i64 (sum0 pre+x.n0))).set 1 (.int .i64 (sum1 pre+x.n1))
    rw[qt9,qub]
    simpa using this
   ·exact(((ag.drew.below eD ag.lt).other _ _ (by simp)).other _ _ (by simp))
   ·exact((qyl ah eD).setCell (by simp) _).setCell (by simp) _
 case done =>
  rintro A ⟨aM,ag,ah⟩ hD
  have d0:=aM.cell 0;have d1:=aM.cell 1;have e0:=ag.cell 0;have e1:=ag.cell 1;have f0:=ag.frozen 0;have f1:=ag.frozen 1;simp only[xq0,xq1,xq2]at d0 d1 e0 e1
  gi_wp2
  have bf:Blk ((A.setCell ⟨w.heap.size,0,none⟩ (.int .i64 (sum0 X))).setCell ⟨w.heap.size,1,none⟩ (.int .i64 (sum1 X))) w.heap.size 35 #[.int .i64 (sum0 X),.int .i64 (sum1 X)]:=by
   simpa using (ag.set 0 (.int .i64 (sum0 X))).set 1 (.int .i64 (sum1 X))
  have fU:((A.setCell ⟨w.heap.size,0,none⟩ (.int .i64 (sum0 X))).setCell ⟨w.heap.size,1,none⟩ (.int .i64 (sum1 X))).heap[W.heap.size]?=some (.deferred (some [])):=by
   rw[Below.heap_setCell _ _ _ _ (by simp;omega),Below.heap_setCell _ _ _ _ (by simp;omega)];exact hD
  have c0:=(bf.put W.heap.size (.deferred none) (by omega)).cell 0;have c1:=(bf.put W.heap.size (.deferred none) (by omega)).cell 1;simp only[xq0,xq1,xq2]at c0 c1
  refine⟨by simp,.inl ⟨_,_,rfl,run_takeDeferred fU,?_⟩⟩
  refine⟨.agg #[.int .i64 (sum0 X),.int .i64 (sum1 X)],by simp[results,results104,go_sem,c0,c1],rfl,qay ((ah.setCell (Nat.le_refl _) _).setCell (Nat.le_refl _) _) _ _ (by omega)⟩
 case stop =>
  rintro c pre A _ h _
  exact h.elim
end
section
open Go.RowKit
variable {nodes:List Node}{n r:Node}{l':List Int}{P:Program}{v':Value}{w w':World}
theorem qg1{α : Type}:∀ {l l':List α},l.Nodup->l'.Nodup->(∀x,x∈l↔x∈l')->l.Perm l':=by
 intro l
 induction l with
 |nil =>
  intro l' _ _ h
  have:l'=[]:=List.eq_nil_iff_forall_not_mem.2 (fun x hx=>by simpa using (h x).2 hx)
  subst this;exact List.Perm.refl _
 |cons a l ih =>
  intro l' h1 h2 h;obtain⟨h3,h4⟩:=List.nodup_cons.1 h1;obtain⟨s,t,rfl⟩:=List.append_of_mem ((h a).1 (by simp));have hp:(s++a::t).Perm (a::(s++t)):=List.perm_middle;have h5:=hp.nodup_iff.1 h2;obtain⟨h6,h7⟩:=List.nodup_cons.1 h5
  refine List.Perm.trans (List.Perm.cons a (ih h4 h7 (fun x=>?_))) hp.symm
  constructor
  ·intro hx
   have:=(h x).1 (by simp[hx])
   simp only[xri,List.mem_cons]at this ⊢
   rcases this with h8|rfl|h8
   ·exact .inl h8
   ·exact absurd hx h3
   ·exact .inr h8
  ·intro hx
   have:=(h x).2 (by simp only[xri,List.mem_cons]at hx ⊢;rcases hx with h8|h8;exact .inl h8;exact .inr (.inr h8))
   rcases List.mem_cons.1 this with rfl|h8
   ·exact absurd hx h6
   ·exact h8
theorem qk6(T:Tree nodes){ch:Node->List Node}(K:Kids nodes ch):∀(f:Nat) (n:Node),n∈nodes->4<=n.key.length+f->∀m,m∈dfs ch f n↔(m∈nodes/\n.key <+: m.key):=by
 intro f
 induction f with
 |zero =>
  intro n hn hk m;simp only[dfs,List.mem_singleton]
  constructor
  ·rintro rfl;exact⟨hn,List.prefix_refl _⟩
  ·rintro⟨hm,hp⟩
   have h1:=(T.ok m hm).2;have h2:=hp.length_le
   exact T.inj m hm n hn (hp.eq_of_length (by omega)).symm
 |succ f ih =>
  intro n hn hk m;simp only[dfs,List.mem_cons,List.mem_flatMap]
  constructor
  ·rintro(rfl|⟨c,hc,hm⟩)
   ·exact⟨hn,List.prefix_refl _⟩
   ·obtain⟨ko,x,hx⟩:=(K.mem n hn c).1 hc;obtain⟨eE,jb⟩:=(ih c ko (by rw[hx];simp;omega) m).1 hm
    exact⟨eE,List.IsPrefix.trans ⟨[x],hx.symm⟩ jb⟩
  ·rintro⟨hm,r,hr⟩
   cases r with
   |nil=>exact .inl (T.inj m hm n hn (by simpa using hr.symm))
   |cons x r =>
    right
    obtain⟨c,hc,vR⟩:=T.pre r (n.key++[x]) m hm (by rw[<-hr];simp)
    exact⟨c,(K.mem n hn c).2 ⟨hc,x,vR⟩,(ih c hc (by rw[vR];simp;omega) m).2 ⟨hm,r,by rw[vR,<- hr];simp⟩⟩
theorem qsh(T:Tree nodes){ch:Node->List Node}(K:Kids nodes ch):∀(f:Nat) (n:Node),n∈nodes->4<=n.key.length+f->(dfs ch f n).Nodup:=by
 intro f
 induction f with
 |zero=>intro n hn hk;simp[dfs]
 |succ f ih =>
  intro n hn hk;have oB:∀c∈ch n,c∈nodes/\∃x,c.key=n.key++[x]:=fun c hc=>(K.mem n hn c).1 hc
  simp only[dfs]
  refine List.nodup_cons.2 ⟨?_,?_⟩
  ·intro h;obtain⟨c,hc,hm⟩:=List.mem_flatMap.1 h;obtain⟨ko,x,hx⟩:=oB c hc;obtain⟨_,hp⟩:=(qk6 T K f c ko (by rw[hx];simp;omega) n).1 hm
   have:=hp.length_le
   rw[hx]at this;simp at this;omega
  ·have hs:=K.sort n hn;rw[List.pairwise_map]at hs;have cv:∀c∈ch n,c∈nodes/\4<=c.key.length+f/\∃x,c.key=n.key++[x]:=fun c hc=>by
    obtain⟨h1,x,hx⟩:=oB c hc
    exact⟨h1,by rw[hx];simp;omega,x,hx⟩
   generalize ch n=cs at hs cv
   induction cs with
   |nil=>simp
   |cons c cs ih2 =>
    obtain⟨h1,h2⟩:=List.pairwise_cons.1 hs;obtain⟨ko,nK,x,hx⟩:=cv c (by simp);rw[List.flatMap_cons]
    refine List.nodup_append.2 ⟨ih c ko nK,ih2 h2 (fun k cx=>cv k (by simp[cx])),?_⟩
    intro a ha b hb e;subst e;obtain⟨c',kR,nS⟩:=List.mem_flatMap.1 hb;obtain⟨vU,vO,y,hy⟩:=cv c' (by simp[kR]);have p1:=((qk6 T K f c ko nK a).1 ha).2;have p2:=((qk6 T K f c' vU vO a).1 nS).2;have hl:c.key.length=c'.key.length:=by rw[hx,hy];simp
    have:c.key=c'.key:=by
     obtain⟨r1,e1⟩:=p1;obtain⟨r2,e2⟩:=p2
     exact(List.append_inj (e1.trans e2.symm) hl).1
    have h3:=h1 c' kR;rw[this,show cmpB (qad c'.key) (qad c'.key)=0 from qdc _]at h3
    omega
theorem qe0(T:Tree nodes){ch:Node->List Node}(K:Kids nodes ch)(bT:nodes.Nodup)(hn:n∈nodes):
  (dfs ch 4 n).Perm (nodes.filter fun m=>n.key.isPrefixOf m.key):=by
 refine qg1 (qsh T K 4 n hn (by omega)) (bT.filter _) (fun x=>?_)
 rw[qk6 T K 4 n hn (by omega),xrr,xrw]
theorem Tree.nd(T:Tree nodes):nodes.Nodup:=qb1 T.nodup
theorem qu2(T:Tree nodes){ch:Node->List Node}(K:Kids nodes ch)(hr:r∈nodes)(hk:r.key=[]):(dfs ch 4 r).length=nodes.length:=by
 have:=(qe0 T K T.nd hr).length_eq
 rw[this,hk];simp
theorem qo5(T:Tree nodes){ch:Node->List Node}(K:Kids nodes ch)(hn:n∈nodes):(dfs ch 4 n).length<=20:=by
 have:=(qe0 T K T.nd hn).length_eq
 rw[this];exact Nat.le_trans (xrh _ _) T.len
def under(nodes:List Node)(k:List Bs):List Node:=nodes.filter fun m=>k.isPrefixOf m.key
theorem qpm{l:List Int}(h:l.Perm l'):l.sum=l'.sum:=by
 induction h with
 |nil=>rfl
 |cons x _ ih=>simp[ih]
 |swap x y l=>simp;omega
 |trans _ _ h1 h2=>exact h1.trans h2
theorem qwe(T:Tree nodes){ch:Node->List Node}(K:Kids nodes ch)(hn:n∈nodes):sum0 (dfs ch 4 n)=sum0 (under nodes n.key):=qpm ((qe0 T K T.nd hn).map _)
theorem qwf(T:Tree nodes){ch:Node->List Node}(K:Kids nodes ch)(hn:n∈nodes):sum1 (dfs ch 4 n)=sum1 (under nodes n.key):=qpm ((qe0 T K T.nd hn).map _)
theorem qi1(k:List Bs)(h:qbx k=true):(qaa k).length<=5*k.length:=by
 induction k with
 |nil=>simp[qaa]
 |cons a r ih =>
  have ha:=(qdr (qby h (n:=a) (by simp))).2;have hr:qbx r=true:=by simp only[qbx,List.all_cons,Bool.and_eq_true]at h;exact h.2
  by_cases e:r=[]
  ·subst e;simp[qaa];omega
  ·rw[qci a r e];have:=ih hr;simp;omega
theorem qig(T:Tree nodes):∀(j:Nat) (n:Node),n∈nodes->n.key.length=j->∀(w:World),(∀n∈nodes,qag w n) ->
  Calls prog 47 #[nptr n.blk] w fun e w'=>e=.returned (.string (sb (qaa n.key)))/\Below w.heap.size w w':=by
 intro j
 induction j with
 |zero =>
  intro n hn hj w hN;have hk:n.key=[]:=List.eq_nil_of_length_eq_zero hj;have hu:=T.top n hn hk;have c6:w.cell? ⟨n.blk,6,none⟩=some (.pointer none):=by have:=(hN n hn).cell (i:=6) (v:=uptr n.up) rfl;rw[hu]at this;exact this
  rw[hk];unfold nptr
  go_enter func47,ntmps47
  go_wp2
  go_ret
  exact⟨rfl,Below.refl _ _⟩
 |succ j ih =>
  intro n hn hj w hN;have aW:n.key≠[]:=fun e=>by rw[e]at hj;simp at hj
  obtain⟨k,nm,iH⟩:∃k nm,n.key=k++[nm]:=⟨_,_,(List.dropLast_concat_getLast aW).symm⟩;obtain⟨p,hp,dS,dU,di⟩:=T.par n hn _ _ iH;have c6:w.cell? ⟨n.blk,6,none⟩=some (.pointer (some ⟨p.blk,0,none⟩)):=by have:=(hN n hn).cell (i:=6) (v:=uptr n.up) rfl;rw[di]at this;exact this
  have c0:=(hN n hn).name;rw[iH,qaq]at c0;have hb:=(hN n hn).lt;have x9:=fun W hW=>ih p hp (by rw[dS];rw[iH]at hj;simp at hj;omega) W hW
  unfold nptr at x9 ⊢;have cg:=T.ok n hn;have oY:=T.ok p hp;have bQ:qbr nm=true:=qby cg.1 (by rw[iH];simp);have mY:=fun W=>qvh (sb (qaa p.key)) (sb nm) W (by rw[qco];have:=qi1 _ oY.1;omega) (by rw[qco];have:=(qdr bQ).2;omega)
  simp only[qbs]at mY;have lE:(if qaa p.key=[] then sb nm else sb (qaa p.key++47::nm))=sb (qaa n.key):=by
   by_cases e:p.key=[]
   ·rw[if_pos ((qcj oY.1).2 e),iH,<- dS,e];simp[qaa]
   ·rw[if_neg (fun h=>e ((qcj oY.1).1 h)),iH,<- dS,qhg _ _ e]
  simp only[lE]at mY;obtain⟨R,hR⟩:∃R,R=sb (qaa n.key):=⟨_,rfl⟩;obtain⟨R1,eI⟩:∃R,R=sb (qaa p.key):=⟨_,rfl⟩;simp only[<-hR,<- eI]at mY x9 ⊢;clear lE hR eI
  go_enter func47,ntmps47
  go_wp2
  go_region_with (first|(go_at_call 47;refine(x9 _ (fun k hk=>(hN k hk).below (by(repeat (first|exact Below.refl _ _|refine qab ?_ (by assumption)|refine Below.setCell ?_ (by first|omega|(simp<;>omega)) _|refine Below.alloc ?_ (by first|omega|(simp<;>omega)) _|refine Below.drew ?_|refine xrm ?_ _))))).mono ?_;rintro e w1 ⟨rfl,aa⟩;have d0:=(aa.cell (p:=⟨n.blk,0,none⟩) hb).trans c0)|(go_at_call 78;refine(mY _).mono ?_;rintro e w2 ⟨rfl,ag⟩))
  all_goals go_wp2
  all_goals go_ret
  all_goals exact⟨rfl,by(repeat (first|exact Below.refl _ _|refine qab ?_ (by assumption)|refine Below.setCell ?_ (by first|omega|(simp<;>omega)) _|refine Below.alloc ?_ (by first|omega|(simp<;>omega)) _|refine Below.drew ?_|refine xrm ?_ _))⟩
theorem qrv(w:World){o:Oper}{a:Act}{K:Act->World->Prop}{Q:Exit->Act->World->Prop}(d s:Operand)(t t':TypeId)
  (ho:o.op=.call {callee:=.builtin .copy,args:=#[d,s],argTypes:=#[t,t']}) (v u:Value) (hd:a.eval d=v) (hs:a.eval s=u) 
  (hr:(Builtin.copy_ #[t,t'] o.type #[v,u]).run P w=.ok v' w') (h:K (a.put o.dst v') w'):o.wp P a w K Q:=by
 unfold Oper.wp execOp;simp only[ho,resolve,invoke,builtin,Sem.run_bind,Sem.run_pure,Result.andThen_ok,List.map_toArray,List.map_cons,List.map_nil,hd,hs,hr]
 exact h
theorem qf8(w:World){eu:Array Oper}{rest:List Oper}{o:Oper}{a:Act}{Q:Exit->Act->World->Prop}(wo:o.guard=none)(d s:Operand)(t t':TypeId)
  (ho:o.op=.call {callee:=.builtin .copy,args:=#[d,s],argTypes:=#[t,t']}) (v u:Value) (hd:a.eval d=v) (hs:a.eval s=u) 
  (hr:(Builtin.copy_ #[t,t'] o.type #[v,u]).run P w=.ok v' w') (h:wpList P eu Q rest (a.put o.dst v') w'):wpList P eu Q (o::rest) a w :=
 wpList_plain wo fun _ hK=>qrv w d s t t' ho v u hd hs hr (hK _ _ h)
theorem qh5{eu:Array Oper}{o:Oper}{a:Act}{K:Act->World->Prop}{Q:Exit->Act->World->Prop}{E:Prop}
  (hg:o.guard=none) (d x:Operand) (dT sT:TypeId) (rR:o.op=Op.call {callee:=Callee.builtin Builtin.copy,args:=#[d,x],argTypes:=#[dT,sT]})
  (v u:Value) (hd:a.eval d=v) (hx:a.eval x=u) (hr:(Builtin.copy_ #[dT,sT] o.type #[v,u]).run P w=.ok v' w') (hK:K (a.put o.dst v') w') :
  if Region.wanted o (yielded eu a.tmps)=true then Oper.wp P o a w K Q else E:=by
 rw[if_pos (by simp[Region.wanted,hg])];unfold Oper.wp
 simp[execOp,rR,resolve,invoke,builtin,hd,hx,hr,Result.andThen]
 exact hK
theorem qww:(prog.info? 97).map (fun i=>(i.zero,i.size,i.bytes))=some (some (.pointer none),1,8):=by kernel_rfl
theorem qpr:(prog.info? 97).map (·.size)=some 1:=by kernel_rfl
theorem qqv(sl:Value)(n vb:Nat)(xs:List Value)(v:Value)(w:World)(hn:n<=1000)(cR:v.oneCell'=true)(aG:w.ownsRow 0 97 1 sl n xs)(cU:Blk w vb 97 #[v]):
  Calls prog 137 #[sl,.int .i64 n,.slice (some ⟨vb,0,none⟩) 1 1] w fun e w' =>
   ∃dj,e=.returned dj/\w'.ownsRow 0 97 1 dj (n+1) (xs++[v])/\w.grownBy w' sl.ownBlock/\(dj.ownBlock=sl.ownBlock\/∃g,dj.ownBlock=some g/\w.heap.size<=g):=by
 obtain⟨i0,hi,fM,dz,fq⟩:=info_parts qww;have jf:=cU.cell 0;simp only[List.getElem?_toArray,List.getElem?_cons_zero]at jf;have c_:∀j u,[v][j]?=some u->w.cell? ((⟨vb,0,none⟩:Addr).add j)=some u:=fun j u hj=>by
  cases j with
  |zero=>simp at hj;subst hj;exact jf
  |succ j=>simp at hj
 have key:∃v' w',(∀ty,(Builtin.append_ #[134,134] ty #[sl,.slice (some ⟨vb,0,none⟩) 1 1]).run prog w=.ok v' w')/\w'.ownsRow 0 97 1 v' (n+1) (xs++[v])/\w.grownBy w' sl.ownBlock/\(v'.ownBlock=sl.ownBlock\/∃g,v'.ownBlock=some g/\w.heap.size<=g):=by
  have cn:∀ {v':Value} {w':World},w'.ownsRow w.heap.size 97 1 v' (n+1) (xs++[v])->w'.ownsRow 0 97 1 v' (n+1) (xs++[v])/\∃g,v'.ownBlock=some g/\w.heap.size<=g:=fun {v' w'} h=>by
   obtain⟨h1,h2⟩:=h
   rcases h2 with ⟨_,h0⟩|⟨g,cap,aH,rfl,hb,rest⟩
   ·omega
   ·exact⟨⟨h1,.inr ⟨g,cap,aH,rfl,Nat.zero_le _,rest⟩⟩,g,rfl,hb⟩
  rcases aG.2 with ⟨rfl,rfl⟩|⟨g,cap,aH,rfl,_,hg,lu,iT,cv,ht⟩
  ·have hx:xs=[]:=List.eq_nil_of_length_eq_zero (by simpa using aG.1);subst hx;obtain⟨v',w',hr,ho,dB,_⟩:=run_append_own (P:=prog) w w.heap.size 134 0 97 i0 _ 1 8 underlying134 hi fM dz fq rfl (by decide) (.slice none 0 0) 0 [] (xrk w _ 97 1) ⟨vb,0,none⟩ 1 1 [v] rfl c_ (by simp[cR]) (by unfold maxLen;omega) (by omega) (Nat.le_refl _);have gR:=cn (by simpa using ho)
   exact⟨v',w',fun ty=>hr,gR.1,dB,.inr gR.2⟩
  ·by_cases bo:n+1<=cap
   ·have hr:=fun ty=>run_append_room (P:=prog) w 134 ty 97 i0 underlying134 hi g n cap aH hg ⟨vb,0,none⟩ 1 1 [v] (by rw[dz];rfl) c_ (by simp[cR]) bo (by rw[dz];simp;omega)
    rw[dz]at hr;simp only[Nat.mul_one]at hr ht cv
    refine⟨_,_,hr,⟨by simp[aG.1],.inr ⟨g,cap,_,rfl,Nat.zero_le _,setRow_heap w g aH _ 97 _ hg,bo,iT,?_,?_⟩⟩,⟨rfl,rfl,rfl,by simp,fun k _ hk=>setRow_other w g k _ (fun e=>hk (by simp[Value.ownBlock,e]))⟩,.inl rfl⟩
    ·simp[cv];omega
    ·have:xs.length=n:=by simpa using aG.1
     rw[Nat.mul_one,List.toList_toArray,ht,List.take_append_of_le_length (by simp;omega),xrd (by simp;omega)]
   ·obtain⟨v',w',hr,ho,dB⟩:=run_append_arg_grows (P:=prog) w 134 0 97 i0 _ 1 8 underlying134 hi fM dz fq rfl (by decide) ⟨g,0,none⟩ n cap xs aG.1 (aG.cells (g:=g) rfl) ⟨vb,0,none⟩ 1 1 [v] rfl c_ (by omega) (by unfold maxLen;omega) (by omega);have gR:=cn ho
    exact⟨v',w',fun ty=>hr,gR.1,⟨dB.os,dB.tape,dB.output,dB.size,fun k hk _=>dB.block k hk (by simp)⟩,.inr gR.2⟩
 obtain⟨v',w',lF,ho,dB,gT⟩:=key;obtain⟨ao,cap,dh,dn⟩:∃ao cap,sl=.slice ao n cap/\n<=cap/\cap<=maxLen:=by
  rcases aG.2 with ⟨rfl,rfl⟩|⟨g,cap,aH,rfl,_,_,h1,h2,_⟩
  ·exact⟨none,0,rfl,Nat.le_refl _,Nat.zero_le _⟩
  ·exact⟨_,_,rfl,h1,h2⟩
 obtain⟨dn,eX⟩:=dn;unfold maxLen at eX;subst dh;have nh:ao=none->n=0/\cap=0:=fun e=>by
  subst e
  rcases aG.2 with ⟨h,rfl⟩|⟨g,av,aH,h,_⟩
  ·injection h with _ _ h3;exact⟨rfl,h3⟩
  ·cases h
 clear aG c_
 go_enter func137,ntmps137
 cases ao with
 |none =>
  obtain⟨rfl,rfl⟩:=nh rfl
  go_wp2_with (at_builtin;refine Lib.wpList_append_run _ rfl _ _ _ _ rfl _ _ rfl rfl _ _ (lF _) ?_)
  all_goals (go_ret;exact⟨_,rfl,ho,dB,gT⟩)
 |some a =>
  go_wp2_with (at_builtin;refine Lib.wpList_append_run _ rfl _ _ _ _ rfl _ _ rfl rfl _ _ (lF _) ?_)
  all_goals (go_ret;exact⟨_,rfl,ho,dB,gT⟩)
theorem qmq(g n c i vb:Nat)(aH:Array Value)(v:Value)(w:World)(hi:i<n)(bo:n+1<=c)(hc:c<=maxLen)(hg:w.heap[g]?=some (.cells aH 97 (0,0)))(cv:aH.size=c)
  (cR:v.oneCell'=true) (h1:∀u∈aH.toList.take n,u.oneCell'=true) (cU:Blk w vb 97 #[v]) (aW:vb≠g) :
  Calls prog 137 #[.slice (some ⟨g,0,none⟩) n c,.int .i64 i,.slice (some ⟨vb,0,none⟩) 1 1] w fun e w' =>
   e=.returned (.slice (some ⟨g,0,none⟩) (n+1) c)/\(∃R:Array Value,w'.heap[g]?=some (.cells R 97 (0,0))/\R.size=c/\R.toList.take (n+1)=(aH.toList.take n).take i++v::(aH.toList.take n).drop i)/\Keep (fun b=>b=g) w w':=by
 unfold maxLen at hc;have fq:¬((i:Int)=(n:Int)):=by omega
 have fp:w.shape? vb=some (97,1):=by unfold World.shape?;rw[show w.heap[vb]?=_ from cU];rfl
 have ph:w.shape? g=some (97,c):=by unfold World.shape?;rw[hg];simp[cv]
 have mj:∀lb cb,(callFunc 185 #[.slice (some ⟨vb,0,none⟩) 1 1,.slice (some ⟨g,i+1,none⟩) lb cb]).run prog w=.ok (.value (.bool false)) w:=fun lb cb=>by
  rw[run_callFunc_extern func185 (by kernel_rfl) (by kernel_rfl) (by kernel_rfl) (e:=Extern.SlicesOverlaps.overlaps #[134,134] #[4]) (by kernel_rfl),
   Lib.run_overlaps_apart w 134 4 97 underlying134 1 sizeOf97 ⟨vb,0,none⟩ ⟨g,i+1,none⟩ 1 1 lb cb aW 97 97 1 c fp ph (by omega) (cU.frozen 0) (cU.frozen 1)]
  rfl
 have cell:∀j u,aH[j]?=some u->w.cell? ⟨g,j,none⟩=some u:=fun j u h=>by unfold World.cell?;simp only[hg];simpa using h
 obtain⟨cs,cE⟩:∃cs,cs=(aH.toList.take n).drop i:=⟨_,rfl⟩;have bm:cs.length=n-i:=by rw[cE];simp;omega
 have b_:∀ty dc sc,(Builtin.copy_ #[134,134] ty #[.slice (some ⟨g,i+1,none⟩) (n-i) dc,.slice (some ⟨g,i,none⟩) (n+1-i) sc]).run prog w.drew=.ok (goInt cs.length) (w.drew.setRow g (aH.toList.take (i+1)++cs++aH.toList.drop (i+1+cs.length)).toArray):=fun ty dc sc =>
  run_copy_row prog w.drew 134 134 ty 97 g (i+1) (n-i) dc ⟨g,i,none⟩ (n+1-i) sc aH 97 cs underlying134 qpr hg (by rw[bm];simp only[Nat.min_def];split<;>omega)
   (fun j u hj=>by
    rw[Addr.add_lit]
    refine cell _ _ ?_
    rw[cE,List.getElem?_drop,List.getElem?_take]at hj
    split at hj
    ·simpa using hj
    ·cases hj) (by rw[bm,cv];omega) (fun u hu=>h1 u (by rw[cE]at hu;exact List.mem_of_mem_drop hu))
 obtain⟨R1,eI⟩:∃R1,R1=(aH.toList.take (i+1)++cs++aH.toList.drop (i+1+cs.length)).toArray:=⟨_,rfl⟩;rw[<-eI]at b_;have kG:R1.size=c:=by rw[eI];simp[bm,cv];omega
 have me:(w.drew.setRow g R1).heap[g]?=some (.cells R1 97 (0,0)):=setRow_heap w.drew g aH R1 97 (0,0) hg;have jf:w.cell? ⟨vb,0,none⟩=some v:=by have:=cU.cell 0;simpa using this
 have cO:∀(W:World),W.heap[g]?=some (.cells R1 97 (0,0))->W.cell? ⟨vb,0,none⟩=some v->∀ty dc,(Builtin.copy_ #[134,134] ty #[.slice (some ⟨g,i,none⟩) (n+1-i) dc,.slice (some ⟨vb,0,none⟩) 1 1]).run prog W=.ok (goInt 1) (W.setRow g (R1.toList.take i++[v]++R1.toList.drop (i+1)).toArray):=fun W kJ ou ty dc =>
  run_copy_row prog W 134 134 ty 97 g i (n+1-i) dc ⟨vb,0,none⟩ 1 1 R1 97 [v] underlying134 qpr kJ (by simp only[Nat.min_def,List.length_singleton];split<;>omega)
   (fun j u hj=>by cases j with|zero=>(simp at hj;subst hj;exact ou)|succ j=>simp at hj) (by rw[kG];simp;omega) (by simp[cR])
 have hE:∀j u,w.cell? ⟨vb,j,none⟩=some u->(w.drew.setRow g R1).cell? ⟨vb,j,none⟩=some u:=fun j u h=>by rw[cell_setRow_other _ _ _ _ aW];exact h
 have ck:IntKind.i64.wrap ((i:Int)+1)=(i:Int)+1:=by rw[IntKind.wrap_i64];omega
 have bD:i<=n:=by omega
 have pZ:((i:Int)+1).toNat=i+1:=by omega
 have aa:(0:Int)<=(i:Int)+1:=by omega
 have ag:¬(c=i+1):=by omega
 have aM:(i:Int)<=(n:Int)+1:=by omega
 have bf:¬(c=i):=by omega
 have ur:Hid (cs=(aH.toList.take n).drop i):=cE;have uA:Hid (R1=(aH.toList.take (i+1)++cs++aH.toList.drop (i+1+cs.length)).toArray):=eI;have lT:Hid (cs.length=n-i):=bm;clear cE eI bm
 go_enter func137,ntmps137
 go_wp2_with (simp only[mj])
 go_region_law (refine qh5 rfl _ _ 134 134 rfl _ _ (by simp[Act.eval,Act.put]) (by simp[Act.eval,Act.put]) (b_ _ _ _) ?_)
 go_wp2_with (at_builtin;refine qf8 _ rfl _ _ 134 134 rfl _ _ rfl rfl (cO _ me (hE _ _ jf) _ _) ?_)
 go_ret
 refine⟨rfl,⟨(R1.toList.take i++v::R1.toList.drop (i+1)).toArray,setRow_heap _ g R1 _ 97 (0,0) me,by simp[kG];omega,?_⟩,?_⟩
 ·have e1:R1.toList=aH.toList.take (i+1)++cs++aH.toList.drop (n+1):=by rw[uA.out,lT.out,show i+1+(n-i)=n+1 by omega]
  have e2:R1.toList.take i=aH.toList.take i:=by rw[e1,List.append_assoc,List.take_append_of_le_length (by simp;omega),List.take_take,Nat.min_eq_left (by omega)]
  have e3:R1.toList.drop (i+1)=cs++aH.toList.drop (n+1):=by rw[e1,List.append_assoc,List.drop_append_of_le_length (by simp;omega),List.drop_of_length_le (by simp;omega)];rfl
  have e4:(aH.toList.take n).take i=aH.toList.take i:=by rw[List.take_take,Nat.min_eq_left (by omega)]
  rw[List.toList_toArray,e2,e3,e4,<- ur.out];have a9:(aH.toList.take i).length=i:=by simp;omega
  rw[show aH.toList.take i++v::(cs++aH.toList.drop (n+1))=(aH.toList.take i++v::cs)++aH.toList.drop (n+1) by simp];rw[List.take_append_of_le_length (by simp[a9,lT.out];omega),xrd (by simp[a9,lT.out];omega)]
 ·exact⟨rfl,rfl,rfl,by simp,fun k hk hn=>by rw[setRow_other _ _ _ _ hn,setRow_other _ _ _ _ hn];rfl⟩
theorem qn3(g n c i vb:Nat)(aH:Array Value)(v:Value)(w:World)(hi:i<n)(dH:n<=1000)(lu:n<=c)(bo:c<n+1)(hg:w.heap[g]?=some (.cells aH 97 (0,0)))(cv:aH.size=c)
  (cR:v.oneCell'=true) (h1:∀u∈aH.toList.take n,u.oneCell'=true) (cU:Blk w vb 97 #[v]) :
  Calls prog 137 #[.slice (some ⟨g,0,none⟩) n c,.int .i64 i,.slice (some ⟨vb,0,none⟩) 1 1] w fun e w' =>
   ∃G,n+1<=G/\G<=maxLen/\e=.returned (.slice (some ⟨w.heap.size,0,none⟩) (n+1) G)/\(∃R:Array Value,w'.heap[w.heap.size]?=some (.cells R 97 (0,0))/\R.size=G/\R.toList.take (n+1)=(aH.toList.take n).take i++v::(aH.toList.take n).drop i)/\Below w.heap.size w w':=by
 obtain⟨i0,mU,fM,qc,sL⟩:=info_parts qww;obtain⟨xs,jZ⟩:∃xs,xs=aH.toList.take n:=⟨_,rfl⟩;rw[<-jZ]at h1;have ie:xs.length=n:=by rw[jZ];simp;omega
 have fq:¬((i:Int)=(n:Int)):=by omega
 have lQ:(c:Int)<(n:Int)+1:=by omega
 have pN:g<w.heap.size:=(xrc.1 hg).1;have cV:vb<w.heap.size:=cU.lt;have cell:∀j u,xs[j]?=some u->w.cell? ⟨g,j,none⟩=some u:=fun j u h=>by
  unfold World.cell?;simp only[hg];rw[jZ,List.getElem?_take]at h
  split at h
  ·simpa using h
  ·cases h
 have jf:w.cell? ⟨vb,0,none⟩=some v:=by have:=cU.cell 0;simpa using this
 have lk:(n:Int)+1-(i:Int)=((n+1-i:Nat):Int):=by omega
 have oK:i+(n+1-i)=n+1:=by omega
 have fG:(Builtin.firstCells i0.size i (.slice (some ⟨g,0,none⟩) i c)).run prog w.drew=.ok (xs.take i).toArray w.drew:=by
  rw[qc]
  exact run_firstCells_some w.drew 1 i ⟨g,0,none⟩ i c (xs.take i) (by rw[List.length_take];omega) (fun j u hj=>by
   rw[Addr.add_lit,Nat.zero_add];rw[List.getElem?_take]at hj
   split at hj
   ·exact cell j u hj
   ·cases hj)
 obtain⟨G,hG⟩:∃G,G=grownCap w (n+1) c 97:=⟨_,rfl⟩;obtain⟨dM,gH⟩:∃dM:Array Value,dM=(xs.take i).toArray++Builtin.zeroCells (Value.pointer none).cells (n+1-i)++Builtin.zeroCells (Value.pointer none).cells (G-(n+1)):=⟨_,rfl⟩;have rZ:∀ty,(Builtin.append_ #[134,3] ty #[.slice (some ⟨g,0,none⟩) i c,.int .i64 ((n:Int)+1-(i:Int))]).run prog w =
   .ok (.slice (some ⟨w.heap.size,0,none⟩) (n+1) G) (w.drew.alloc (.cells dM 97)):=fun ty=>by
  have h:=Lib.run_append_grow_zeros w 134 3 ty 97 i0 _ .i64 .i64 underlying134 underlying3 mU fM (some ⟨g,0,none⟩) i c (xs.take i) fG (n+1-i) (by omega) (by omega) (by omega) (by omega) (by rw[sL];omega) (by rw[sL,oK];exact growslice_fits bo (by omega));rw[oK,<- hG,<- gH]at h;rw[lk]
  exact h
 have vc:n+1<=G:=by rw[hG];exact grownCap_ge w _ _ _
 have kD:G<=maxLen:=by rw[hG];exact grownCap_le_maxLen w (n+1) c 97 (by unfold maxLen;omega)
 have om:dM.size=G:=by
  rw[gH];simp[Builtin.zeroCells,Value.cells];omega
 have j8:dM.toList.take i=xs.take i:=by
  rw[gH];simp only[Array.toList_append,List.append_assoc,List.toList_toArray];rw[List.take_append_of_le_length (by simp;omega),xrd (by simp;omega)]
 obtain⟨W1,dt⟩:∃W1,W1=w.drew.alloc (.cells dM 97):=⟨_,rfl⟩;rw[<-dt]at rZ;have xm:W1.heap.size=w.heap.size+1:=by rw[dt];simp
 have hN:W1.heap[w.heap.size]?=some (.cells dM 97 (0,0)):=by rw[dt];exact heap_alloc_new w.drew _
 have gD:∀k,k<w.heap.size->W1.heap[k]?=w.heap[k]?:=fun k hk=>by rw[dt];exact Below.heap_alloc w.drew _ k hk
 have kP:Below w.heap.size w W1:=by rw[dt];exact(Below.refl _ w).drew.alloc (Nat.le_refl _) _
 have b_:∀(W:World),W.heap[w.heap.size]?=some (.cells dM 97 (0,0))->W.cell? ⟨vb,0,none⟩=some v->∀ty dc,(Builtin.copy_ #[134,134] ty #[.slice (some ⟨w.heap.size,i,none⟩) (n+1-i) dc,.slice (some ⟨vb,0,none⟩) 1 1]).run prog W=.ok (goInt 1) (W.setRow w.heap.size (dM.toList.take i++[v]++dM.toList.drop (i+1)).toArray):=fun W kJ ou ty dc =>
  run_copy_row prog W 134 134 ty 97 w.heap.size i (n+1-i) dc ⟨vb,0,none⟩ 1 1 dM 97 [v] underlying134 qpr kJ (by simp only[Nat.min_def,List.length_singleton];split<;>omega)
   (fun j u hj=>by cases j with|zero=>(simp at hj;subst hj;exact ou)|succ j=>simp at hj) (by rw[om];simp;omega) (by simp[cR])
 obtain⟨R2,cX⟩:∃R2,R2=(dM.toList.take i++[v]++dM.toList.drop (i+1)).toArray:=⟨_,rfl⟩;rw[<-cX]at b_;have iQ:R2.size=G:=by rw[cX];simp[om];omega
 obtain⟨W2,du⟩:∃W2,W2=W1.setRow w.heap.size R2:=⟨_,rfl⟩;obtain⟨cs,cE⟩:∃cs,cs=xs.drop i:=⟨_,rfl⟩;have bm:cs.length=n-i:=by rw[cE];simp;omega
 have cO:∀(W:World),W.heap[w.heap.size]?=some (.cells R2 97 (0,0))->(∀j,W.cell? ⟨g,j,none⟩=w.cell? ⟨g,j,none⟩)->∀ty dc sc,(Builtin.copy_ #[134,134] ty #[.slice (some ⟨w.heap.size,i+1,none⟩) (n-i) dc,.slice (some ⟨g,i,none⟩) (n-i) sc]).run prog W=.ok (goInt cs.length) (W.setRow w.heap.size (R2.toList.take (i+1)++cs++R2.toList.drop (i+1+cs.length)).toArray):=fun W kJ vB ty dc sc =>
  run_copy_row prog W 134 134 ty 97 w.heap.size (i+1) (n-i) dc ⟨g,i,none⟩ (n-i) sc R2 97 cs underlying134 qpr kJ (by rw[bm];simp)
   (fun j u hj=>by
    rw[Addr.add_lit,vB];rw[cE,List.getElem?_drop]at hj
    exact cell _ _ hj) (by rw[bm,iQ];omega) (fun u hu=>h1 u (by rw[cE]at hu;exact List.mem_of_mem_drop hu))
 obtain⟨R3,kH⟩:∃R3,R3=(R2.toList.take (i+1)++cs++R2.toList.drop (i+1+cs.length)).toArray:=⟨_,rfl⟩;rw[<-kH]at cO;have eR:(W1.setRow w.heap.size R2).heap[w.heap.size]?=some (.cells R2 97 (0,0)):=setRow_heap W1 _ dM R2 97 (0,0) hN;have qV:∀j,W1.cell? ⟨g,j,none⟩=w.cell? ⟨g,j,none⟩:=fun j=>World.cell?_of_block (gD g pN)
 have oA:∀j,(W1.setRow w.heap.size R2).cell? ⟨g,j,none⟩=w.cell? ⟨g,j,none⟩:=fun j=>by rw[cell_setRow_other _ _ _ _ (by simp;omega)];exact qV j
 have vX:W1.cell? ⟨vb,0,none⟩=some v:=(World.cell?_of_block (gD vb cV)).trans jf;have aF:R3.size=G/\R3.toList.take (n+1)=xs.take i++v::xs.drop i:=by
  refine⟨by rw[kH];simp[bm,iQ];omega,?_⟩
  have ep:(xs.take i).length=i:=by simp;omega
  have e1:R2.toList=xs.take i++v::dM.toList.drop (i+1):=by rw[cX,j8];simp
  have e2:R2.toList.take (i+1)=xs.take i++[v]:=by
   rw[e1,List.take_append,ep,show i+1-i=1 by omega,xrd (by omega)];simp
  rw[kH,List.toList_toArray,e2,cE];rw[show xs.take i++[v]++xs.drop i=xs.take i++v::xs.drop i by simp];rw[List.take_append_of_le_length (by simp;omega),xrd (by simp;omega)]
 have eX:=kD;unfold maxLen at eX;have AU:¬(G=i):=by omega
 have u_:¬(G=i+1):=by omega
 have BB:¬(c=i):=by omega
 have ck:IntKind.i64.wrap ((i:Int)+1)=(i:Int)+1:=by rw[IntKind.wrap_i64];omega
 have aa:(0:Int)<=(i:Int)+1:=by omega
 have bD:i<=n:=by omega
 have pZ:((i:Int)+1).toNat=i+1:=by omega
 have aM:(i:Int)<=(n:Int):=by omega
 have uE:Hid (xs=aH.toList.take n):=jZ;have Am:Hid (W1=w.drew.alloc (.cells dM 97)):=dt;have dY:Hid (R3.size=G/\R3.toList.take (n+1)=xs.take i++v::xs.drop i):=aF;have u7:Hid (∀k,k<w.heap.size->W1.heap[k]?=w.heap[k]?):=gD;have vV:=b_ W1 hN vX;have vW:=cO (W1.setRow w.heap.size R2).drew eR oA;clear lk oK fG gH hG om j8 cX kH du cE bm jZ ie iQ dt aF qV gD h1 cell
 go_enter func137,ntmps137
 go_wp2_with (at_builtin;refine Lib.wpList_append_run _ rfl _ _ _ _ rfl _ _ rfl rfl _ _ (rZ _) ?_)
 go_region
 go_wp2
 go_ret
 refine⟨G,vc,kD,rfl,⟨R3,setRow_heap (W1.setRow w.heap.size R2).drew _ R2 _ 97 (0,0) eR,dY.out.1,by rw[<-uE.out];exact dY.out.2⟩,?_⟩
 refine kP.trans ⟨rfl,rfl,rfl,by simp,fun k hk=>?_⟩
 rw[setRow_other _ _ _ _ (by omega)]
 exact setRow_other _ _ _ _ (by omega)
theorem qkh(sl:Value)(n i vb:Nat)(xs:List Value)(v:Value)(w:World)(hn:n<=1000)(hi:i<=n)(cR:v.oneCell'=true)(h1:∀u∈xs,u.oneCell'=true)(aG:w.ownsRow 0 97 1 sl n xs)(cU:Blk w vb 97 #[v])(aW:sl.ownBlock≠some vb):
  Calls prog 137 #[sl,.int .i64 i,.slice (some ⟨vb,0,none⟩) 1 1] w fun e w' =>
   ∃dj,e=.returned dj/\w'.ownsRow 0 97 1 dj (n+1) (xs.take i++v::xs.drop i)/\Keep (fun b=>sl.ownBlock=some b) w w'/\(dj.ownBlock=sl.ownBlock\/∃g,dj.ownBlock=some g/\w.heap.size<=g):=by
 have ie:xs.length=n:=by have:=aG.1;omega
 rcases Nat.lt_or_ge i n with ak|oI
 ·rcases aG.2 with ⟨rfl,rfl⟩|⟨g,cap,aH,rfl,_,hg,lu,iT,cv,ht⟩
  ·omega
  ·simp only[Nat.mul_one]at cv ht;have qx:∀u∈aH.toList.take n,u.oneCell'=true:=by rw[ht];exact h1
   by_cases bo:n+1<=cap
   ·refine(qmq g n cap i vb aH v w ak bo iT hg cv cR qx cU (fun e=>aW (by rw[e];rfl))).mono ?_
    rintro e w' ⟨rfl,⟨R,hR,vo,j8⟩,hk⟩
    refine⟨_,rfl,⟨by simp;omega,.inr ⟨g,cap,R,rfl,Nat.zero_le _,hR,bo,iT,by omega,by rw[Nat.mul_one,j8,ht]⟩⟩,hk.mono (fun b hb=>by rw[hb];rfl),.inl rfl⟩
   ·refine(qn3 g n cap i vb aH v w ak hn lu (by omega) hg cv cR qx cU).mono ?_
    rintro e w' ⟨G,uX,uY,rfl,⟨R,hR,vo,j8⟩,hb⟩
    refine⟨_,rfl,⟨by simp;omega,.inr ⟨w.heap.size,G,R,rfl,Nat.zero_le _,hR,uX,uY,by omega,by rw[Nat.mul_one,j8,ht]⟩⟩,Keep.new hb,.inr ⟨w.heap.size,rfl,Nat.le_refl _⟩⟩
 ·obtain rfl:i=n:=by omega
  refine(qqv sl i vb xs v w hn cR aG cU).mono ?_
  rintro e w' ⟨dj,rfl,eA,dB,gT⟩
  refine⟨dj,rfl,?_,(Keep.refl _ _).grown dB (fun k h=>h),gT⟩
  rw[xrd (by omega),List.drop_of_length_le (by omega)];exact eA
def Node.qd4(p:Node)(at_ q:Nat)(sl:Value):Node:={p with sl:=sl,kids:=p.kids.take at_++q::p.kids.drop at_}
structure qgh (nodes:List Node) (p:Node) (q:Nat) (nm:Bs) (leaf:Bool) (a b c d:Int) (w w':World) (ks:List Node) (at_:Nat) (sl:Value):Prop where
 kids:p.kids=ks.map (·.blk)
 mem:∀k,k∈ks↔(k∈nodes/\∃x,k.key=p.key++[x])
 sort:(ks.map fun k=>qad k.key).Pairwise fun a b=>cmpB a b<0
 found:Found (ks.map fun k=>qad k.key) nm at_ false
 par:qag w' (p.qd4 at_ q sl)
 new:qag w' {blk:=q,key:=p.key++[nm],leaf:=leaf,n0:=a,n1:=b,b0:=c,b1:=d,up:=some p.blk,sl:=.slice none 0 0,kids:=[]}
 keep:Keep (fun x=>x=p.blk\/x=q\/p.sl.ownBlock=some x) w w'
 own:sl.ownBlock=p.sl.ownBlock\/∃g,sl.ownBlock=some g/\w.heap.size<=g
theorem qsv(T:Tree nodes)(w:World)(hN:∀n∈nodes,qag w n){p:Node}(hp:p∈nodes)(q:Nat)(nm:Bs)(bQ:qbr nm=true)(ay:∀n∈nodes,n.key≠p.key++[nm])
  (leaf:Bool) (a b c d:Int) (hq:Blk w q 136 #[.string ⟨#[]⟩,.bool leaf,.int .i64 a,.int .i64 b,.int .i64 c,.int .i64 d,.pointer none,.slice none 0 0])
  (dK:q≠p.blk) (lD:p.sl.ownBlock≠some q) (dg:p.sl.ownBlock≠some p.blk) :
  Calls prog 82 #[nptr p.blk,.string (sb nm),nptr q] w fun e w'=>e=.returned (.tuple #[])/\∃ks at_ sl,qgh nodes p q nm leaf a b c d w w' ks at_ sl:=by
 have dq:=(qkp T hN hp (sb nm)).mono (R':=fun e w'=>(∃(ks:List Node) (at_:Nat),e=.returned (.tuple #[.int .i64 at_,.bool false])/\p.kids=ks.map (·.blk)/\(∀k,k∈ks↔(k∈nodes/\∃x,k.key=p.key++[x]))/\(ks.map fun k=>qad k.key).Pairwise (fun a b=>cmpB a b<0)/\Found (ks.map fun k=>qad k.key) nm at_ false)/\w=w') (by
  rintro e w' ⟨⟨ks,hk,hm,hs,at_,th,rfl,hF⟩,rfl⟩
  rw[qbs]at hF
  cases th with
  |false=>exact⟨⟨ks,at_,rfl,hk,hm,hs,hF⟩,rfl⟩
  |true =>
   exfalso
   have h1:=hF.2.2.2.1 rfl;simp only[xrs,Option.map_eq_some_iff]at h1;obtain⟨k,cf,aY⟩:=h1;obtain⟨gr,y,hy⟩:=(hm k).1 (xr2 cf);rw[hy,qaq]at aY;subst aY
   exact ay k gr hy)
 have bm:=fun W=>qhn (sb nm) W (by rw[qco];have:=(qdr bQ).2;omega)
 have hP:=hN p hp;have dU:=hP.lt;have jd:=hq.lt;unfold nptr at dq ⊢
 go_enter func82,ntmps82
 go_wp2_with (first
  |(go_at_call 104;refine dq.mono ?_;rintro e w1 ⟨⟨ks,at_,rfl,hk,hm,hs,hF⟩,ck⟩;subst ck)
  |(go_at_call 129;refine(bm _).mono ?_;rintro e w1 ⟨rfl,aa⟩;have dV:=hq.below aa jd;have q0:=dV.cell 0;have q6:=dV.cell 6;have r0:=dV.frozen 0;have r6:=dV.frozen 6;have iP:=hP.below aa;have p7:w1.cell? ⟨p.blk,7,none⟩=some p.sl:=iP.cell rfl;have Dq:=iP.frozen 7))
 have fO:p.kids.length=ks.length:=by rw[hk];simp
 have rC:ks.length<=1000:=by
  have aD:(ks.map (·.key)).Nodup:=by
   have:(ks.map fun k=>qad k.key).Nodup:=hs.imp (fun {a b} h e=>by subst e;rw[show cmpB a a=0 from qdc a]at h;omega)
   rw[show(ks.map fun k=>qad k.key)=(ks.map (·.key)).map qad by simp]at this
   exact qb1 this
  have h1:∀x∈ks.map (·.key),x∈nodes.map (·.key):=by
   intro k cx;obtain⟨n,dp,rfl⟩:=xrq.1 cx
   exact xrq.2 ⟨n,((hm n).1 dp).1,rfl⟩
  have h2:=qdf aD h1;have h3:=T.len
  simp at h2;omega
 obtain⟨W2,du⟩:∃W2,W2=(w1.setCell ⟨q,0,none⟩ (.string (sb nm))).setCell ⟨q,6,none⟩ (.pointer (some ⟨p.blk,0,none⟩)):=⟨_,rfl⟩;have aY:Keep (fun x=>x=q) w1 W2:=by rw[du];exact((Keep.refl (fun x=>x=q) _).setCell (p:=⟨q,0,none⟩) rfl _).setCell (p:=⟨q,6,none⟩) rfl _
 have po:W2.heap.size=w1.heap.size:=by rw[du];simp[World.setCell]
 have gU:Blk W2 q 136 #[.string (sb nm),.bool leaf,.int .i64 a,.int .i64 b,.int .i64 c,.int .i64 d,.pointer (some ⟨p.blk,0,none⟩),.slice none 0 0]:=by
  rw[du];simpa using (dV.set 0 (.string (sb nm))).set 6 (.pointer (some ⟨p.blk,0,none⟩))
 have oi:=iP.keep aY (fun e=>dK e.symm) (fun g hg e=>lD (by rw[hg,e]));rw[<-du,<- po];have cU:Blk (W2.alloc (.cells #[.pointer (some ⟨q,0,none⟩)] 97)) W2.heap.size 97 #[nptr q]:=Blk.new W2 97 _;have gE:=oi.below (W':=W2.alloc (.cells #[.pointer (some ⟨q,0,none⟩)] 97)) ((Below.refl _ _).alloc (Nat.le_refl _) _);have rU:=gU.alloc (.cells #[.pointer (some ⟨q,0,none⟩)] 97);have bW:Keep (fun x=>x=q) w1 (W2.alloc (.cells #[.pointer (some ⟨q,0,none⟩)] 97)):=aY.alloc _;have pt:w1.heap.size<=(W2.alloc (.cells #[.pointer (some ⟨q,0,none⟩)] 97)).heap.size:=by simp;omega
 obtain⟨W3,dZ⟩:∃W3,W3=W2.alloc (.cells #[.pointer (some ⟨q,0,none⟩)] 97):=⟨_,rfl⟩;rw[<-dZ]at cU gE rU bW pt ⊢;clear du dZ;have aS:=gE.row
 refine(qkh p.sl p.kids.length at_ W2.heap.size (p.kids.map nptr) (nptr q) W3 (by omega) (by have:=hF.1;simp at this;omega) rfl (fun u hu=>by obtain⟨x,_,rfl⟩:=xrq.1 hu;rfl) aS cU (fun e=>by have:=(oi.row.lt _ e).2;omega)).mono ?_
 rintro e w4 ⟨dj,rfl,eA,gL,gT⟩
 obtain⟨g,cap,je⟩:∃g cap,dj=.slice (some ⟨g,0,none⟩) (p.kids.length+1) cap:=by
  rcases eA.2 with ⟨_,h0⟩|⟨g,cap,aH,h,_⟩
  ·omega
  ·exact⟨g,cap,h⟩
 have Dp:w4.cell? ⟨p.blk,7,none⟩=some p.sl:=(gL.cell (p:=⟨p.blk,7,none⟩) gE.lt dg).trans (gE.cell rfl);have xJ:w4.frozen? ⟨p.blk,7,none⟩=false:=(gL.frozen (p:=⟨p.blk,7,none⟩) gE.lt dg).trans (gE.frozen 7);have qm:Hid (dj=.slice (some ⟨g,0,none⟩) (p.kids.length+1) cap):=je;rw[je];have HK:Hid (p.kids=ks.map (·.blk)):=hk;have ux:Hid (p.kids.length=ks.length):=fO;clear je hk fO
 go_wp2
 go_end0
 have hk:=HK.out;have fO:=ux.out;have oj:Blk w4 p.blk 136 p.cells:=(gL.block p.blk gE.lt dg).trans gE.at_
 refine⟨rfl,ks,at_,dj,⟨hk,hm,hs,hF,?_,?_,?_,?_⟩⟩
 ·refine⟨?_,?_⟩
  ·have:=oj.set 7 dj
   rw[<-qm.out]
   refine this.trans ?_
   simp[Node.cells,Node.qd4]
  ·have aW:dj.ownBlock≠some p.blk:=by
    rcases gT with h|⟨g',h,cd⟩
    ·rw[h];exact dg
    ·rw[h];intro e;injection e with e;have:=gE.lt;omega
   have h1:=eA.kept (row:=some p.blk) (w':=w4.setCell ⟨p.blk,7,none⟩ (.slice (some ⟨g,0,none⟩) (p.kids.length+1) cap)) ⟨rfl,rfl,rfl,by simp[World.setCell],fun k cx oU=>Below.heap_setCell _ _ _ _ (fun e=>oU (by rw[e]))⟩ (.inr aW);have e1:(p.qd4 at_ q dj).kids.length=p.kids.length+1:=by
    have:=hF.1;simp[Node.qd4]at this ⊢;omega
   have e2:(p.qd4 at_ q dj).kids.map nptr=(p.kids.map nptr).take at_++nptr q::(p.kids.map nptr).drop at_:=by
    simp[Node.qd4]
   rw[e1,e2];exact h1
 ·have rV:¬(p.sl.ownBlock=some q):=lD;have h4:Blk w4 q 136 _:=rU.keep gL rV;have h5:=h4.other ⟨p.blk,7,none⟩ (.slice (some ⟨g,0,none⟩) (p.kids.length+1) cap) dK
  refine⟨?_,xrk _ _ _ _⟩
  refine h5.trans ?_
  simp[Node.cells,qaq,uptr]
 ·have k1:Keep (fun x=>x=p.blk\/x=q\/p.sl.ownBlock=some x) w w1:=Keep.new aa;have k2:=k1.trans (bW.mono (fun x h=>.inr (.inl h)));have k3:=k2.trans (gL.mono (fun x h=>.inr (.inr h)))
  exact k3.setCell (p:=⟨p.blk,7,none⟩) (.inl rfl) _
 ·rcases gT with h|⟨g',h,cd⟩
  ·exact .inl h
  ·exact .inr ⟨g',h,by have:=aa.size;omega⟩
end
end Go.Proofs.YtphclnolomgjoaaGreatDoor
