import Derived.Test.YtphclnolomgjoaaGreatDoorC02
import Derived.Deep.RegionLaw
import Derived.Lib.AppendZerosOnto
import Derived.Lib.Overlaps
import Derived.Laws.NewBlocks
set_option linter.unusedVariables false
set_option linter.unusedSimpArgs false
set_option maxRecDepth 100000
set_option maxHeartbeats 4000000
namespace Go.Proofs.YtphclnolomgjoaaGreatDoor
open Tryz
section
open Go.RowKit Go.Shelf
variable {nodes:List Node}{n r:Node}{W2 w w':World}
attribute [local go_sem] Oper.semAt_some
def sum0 (l:List Node):Int:=(l.map (·.n0)).sum
def sum1 (l:List Node):Int:=(l.map (·.n1)).sum
theorem qsx(l:List Node)(x:Node):sum0 (l++[x])=sum0 l+x.n0:=by simp[sum0]
theorem qqz(l:List Node)(x:Node):sum1 (l++[x])=sum1 l+x.n1:=by simp[sum1]
theorem qre(l:List Node)(h:∀n∈l,0<=n.n0/\n.n0<=1000):0<=sum0 l/\sum0 l<=1000*l.length:=by
 induction l with
 |nil=>simp[sum0]
 |cons a l ih =>
  have h1:=ih (fun n hn=>h n (by simp[hn]));have h2:=h a (by simp)
  simp[sum0]at h1 ⊢;omega
theorem qqj(l:List Node)(h:∀n∈l,0<=n.n1/\n.n1<=1000):0<=sum1 l/\sum1 l<=1000*l.length:=by
 induction l with
 |nil=>simp[sum1]
 |cons a l ih =>
  have h1:=ih (fun n hn=>h n (by simp[hn]));have h2:=h a (by simp)
  simp[sum1]at h1 ⊢;omega
theorem qq2{ch:Node->List Node}(K:Kids nodes ch):∀(f:Nat) (n:Node),n∈nodes->∀k∈dfs ch f n,k∈nodes:=by
 intro f
 induction f with
 |zero=>intro n hn k hk;simp[dfs]at hk;subst hk;exact hn
 |succ f ih =>
  intro n hn k hk;simp only[dfs,List.mem_cons,List.mem_flatMap]at hk
  rcases hk with rfl|⟨c,hc,hk⟩
  ·exact hn
  ·exact ih c ((K.mem n hn c).1 hc).1 k hk
theorem qun(T:Tree nodes){ch:Node->List Node}(K:Kids nodes ch)(hr:r∈nodes)(an:(dfs ch 4 r).length<=100)(bt:Nat)(w:World)(hN:∀n∈nodes,qan w n)(ht:w.cell? (vA bt 0)=some (nptr r.blk)):
  Cl 182 #[vP bt] w fun e w'=>e=.returned (.bool (decide (20<=(dfs ch 4 r).length)))/\Bw w w':=by
 have b_:∀k:Nat,Fence.wide.depth.isSome=true->1<=k:=fun k h=>by simp[Fence.wide]at h
 have ak:=xrb w _ ht;have a8:∀W,(∀n∈nodes,qan W n)->_:=fun W hW=>qm5 T K hr W hW
 generalize hX:dfs ch 4 r=X at a8 an ⊢
 refine(xrv (n:=3)).1 ?_
 refine callsIn_of_wp_marks func182 rfl trivial ?_ rfl
 unfold nptr at ht;simp only[ntmps182,List.size_toArray,List.length_cons,List.length_nil,Nat.reduceAdd,Nat.reduceSub,Array.replicate_succ,Array.replicate_zero,List.push_toArray,List.append_toArray,List.nil_append,List.cons_append];unfold nptr at a8
 gi_wp2_with ((first|refine⟨trivial,b_ _,?_⟩|refine⟨trivial,?_⟩);gi_at_call 101;refine(xrv.2 (a8 _ (fun n hn=>(hN n hn).below (by(repeat (first|exact Below.refl _ _|refine qac ?_ (by assumption)|refine Below.setCell ?_ (by first|omega|(simp<;>omega)) _|refine Below.alloc ?_ (by first|omega|(simp<;>omega)) _|refine Below.drew ?_|refine xrm ?_ _)))))).mono ?_;rintro e W ⟨rfl,rfl,aI⟩)
 obtain⟨W,hW⟩:∃W,W=(w.alloc (.cells #[vI 0] 3)).alloc (.cells #[vP r.blk] 97):=⟨_,rfl⟩;have dk:W.heap.size=w.heap.size+2:=by rw[hW];simp
 have e2:(w.alloc (.cells #[vI 0] 3)).heap.size=w.heap.size+1:=by simp
 have af:Box W w.heap.size 3 (vI 0):=by rw[hW];exact(Box.new w 3 _).alloc _
 have cn:Bw w W:=by rw[hW];(repeat (first|exact Below.refl _ _|refine qac ?_ (by assumption)|refine Below.setCell ?_ (by first|omega|(simp<;>omega)) _|refine Below.alloc ?_ (by first|omega|(simp<;>omega)) _|refine Below.drew ?_|refine xrm ?_ _))
 rw[e2]at aI;simp only[<-hW]at aI ⊢;have hq:=aI (fun b=>b=w.heap.size\/W.heap.size<=b) (fun k hk=>⟨fun h=>by have:=(hN k hk).lt;omega,fun g hg h=>by have:=((hN k hk).row.lt g hg).2;omega⟩);clear aI a8 e2 hW
 refine qgy (T:=fun b=>b=w.heap.size) (S:=fun _=>False) rfl (enters_of func149 (by kernel_rfl) rfl) hq (Below.refl _ _) rfl (fun b h=>h.elim) (fun b h=>by omega)
  (fun pre A=>Box A w.heap.size 3 (vI pre.length)/\Bw w A)
  (fun c pre A=>False)
  (fun pre A B hs hk=>⟨hs.1.keep hk (fun h=>by rcases h with h|h;exact h;omega),hs.2.trans (hk.toBelow hs.2.size (fun b aZ h=>by rcases h with h|h;exact h;omega))⟩)
  (fun c pre A B hs hk=>hs)
  ⟨af,cn⟩
  (fun x=>{tmps:=#[vP bt,undef,.bool false,vP w.heap.size,vP bt,vP bt,vP bt,vP r.blk,
   .func (.func 149) #[] #[vP (w.heap.size+1)],vP x.blk,undef,undef,undef,undef],defers:=[]}) ?assign ?body ?done ?stop
 case assign =>
  intro l x W K hK
  gi_wp2
  simpa using hK
 case body =>
  rintro l pre x W2 ⟨bC,ae⟩ gP aC
  have hc:=bC.cell;have hf:=bC.frozen;have fN:pre.length<X.length:=by have:=aC.length_le;simp at this;omega
  gi_wp2
  refine⟨(Keep.refl (fun b=>b=w.heap.size) _).setCell (p:=vA w.heap.size 0) rfl _,?_,ae.setCell (Nat.le_refl _) _⟩
  have:=bC.set (vI ((pre.length:Int)+1))
  simpa using this
 case done =>
  rintro A ⟨bC,ae⟩ hD
  have hc:=bC.cell
  gi_wp2
  refine⟨by simp,.inl ⟨_,_,rfl,run_takeDeferred hD,?_⟩⟩
  refine⟨.bool (decide (20<=(X.length:Int))),results_tmp (t:=2) rfl _ _ _,qa9 (by simp only[decide_eq_decide];omega),qa8 ae _ _ (by omega)⟩
 case stop =>
  rintro c pre A _ h _
  exact h.elim
theorem qv4(h:Bw w W2)(hb:Below W2.drew.heap.size W2.drew w'):Bw w w':=qac h.drew hb
theorem qnm(T:Tree nodes){ch:Node->List Node}(K:Kids nodes ch)(hn:n∈nodes)(an:(dfs ch 4 n).length<=90)(w:World)(hN:∀n∈nodes,qan w n):
  Cl 85 #[nptr n.blk] w fun e w'=>e=.returned (.agg #[vI (sum0 (dfs ch 4 n)),vI (sum1 (dfs ch 4 n))])/\Bw w w':=by
 have b_:∀k:Nat,Fence.wide.depth.isSome=true->1<=k:=fun k h=>by simp[Fence.wide]at h
 have a8:∀W,(∀n∈nodes,qan W n)->_:=fun W hW=>qm5 T K hn W hW
 have ai:=qq2 K 4 n hn;generalize hX:dfs ch 4 n=X at a8 an ai ⊢
 refine(xrv (n:=3)).1 ?_
 refine callsIn_of_wp_marks func85 rfl trivial ?_ rfl
 unfold nptr at a8 ⊢;simp only[ntmps85,List.size_toArray,List.length_cons,List.length_nil,Nat.reduceAdd,Nat.reduceSub,Array.replicate_succ,Array.replicate_zero,List.push_toArray,List.append_toArray,List.nil_append,List.cons_append]
 gi_wp2_with ((first|refine⟨trivial,b_ _,?_⟩|refine⟨trivial,?_⟩);gi_at_call 101;refine(xrv.2 (a8 _ (fun n hn=>(hN n hn).below (by(repeat (first|exact Below.refl _ _|refine qac ?_ (by assumption)|refine Below.setCell ?_ (by first|omega|(simp<;>omega)) _|refine Below.alloc ?_ (by first|omega|(simp<;>omega)) _|refine Below.drew ?_|refine xrm ?_ _)))))).mono ?_;rintro e W ⟨rfl,rfl,aI⟩)
 obtain⟨W,hW⟩:∃W,W=((w.alloc (.cells #[vI 0,vI 0] 35)).alloc (.cells #[vI 0,vI 0] 35)).alloc (.cells #[vP n.blk] 97):=⟨_,rfl⟩;have dk:W.heap.size=w.heap.size+3:=by rw[hW];simp
 have e2:((w.alloc (.cells #[vI 0,vI 0] 35)).alloc (.cells #[vI 0,vI 0] 35)).heap.size=w.heap.size+2:=by simp
 have af:Blk W w.heap.size 35 #[vI 0,vI 0]:=by rw[hW];exact((Blk.new w 35 _).alloc _).alloc _
 have ax:Blk W (w.heap.size+1) 35 #[vI 0,vI 0]:=by
  rw[hW];have:=Blk.new (w.alloc (.cells #[vI 0,vI 0] 35)) 35 #[vI 0,vI 0];rw[xrt]at this;exact this.alloc _
 have cn:Bw w W:=by rw[hW];(repeat (first|exact Below.refl _ _|refine qac ?_ (by assumption)|refine Below.setCell ?_ (by first|omega|(simp<;>omega)) _|refine Below.alloc ?_ (by first|omega|(simp<;>omega)) _|refine Below.drew ?_|refine xrm ?_ _))
 rw[e2]at aI;simp only[<-hW]at aI ⊢;have hq:=aI (fun b=>b=w.heap.size+1\/W.heap.size<=b) (fun k hk=>⟨fun h=>by have:=(hN k hk).lt;omega,fun g hg h=>by have:=((hN k hk).row.lt g hg).2;omega⟩);clear aI a8 e2 hW
 refine qgy (T:=fun b=>b=w.heap.size+1) (S:=fun _=>False) rfl (enters_of func149 (by kernel_rfl) rfl) hq (Below.refl _ _) rfl (fun b h=>h.elim) (fun b h=>by omega)
  (fun pre A=>Blk A (w.heap.size+1) 35 #[vI (sum0 pre),vI (sum1 pre)]/\Blk A w.heap.size 35 #[vI 0,vI 0]/\Bw w A)
  (fun c pre A=>False)
  (fun pre A B hs hk=>⟨hs.1.keep hk (fun h=>by rcases h with h|h;exact h;omega),hs.2.1.keep hk (fun h=>by rcases h with h|h;exact h;omega),hs.2.2.trans (hk.toBelow hs.2.2.size (fun b aZ h=>by rcases h with h|h;exact h;omega))⟩)
  (fun c pre A B hs hk=>hs)
  ⟨ax,af,cn⟩
  (fun x=>{tmps:=#[vP n.blk,undef,vP w.heap.size,vP (w.heap.size+1),vP x.blk,vP n.blk,
   .func (.func 149) #[] #[vP (w.heap.size+2)],vP x.blk,undef,undef,undef,undef,undef,undef,undef],defers:=[]}) ?assign ?body ?done ?stop
 case assign =>
  intro l x W K hK
  gi_wp2
  exact hK
 case body =>
  rintro l pre x W2 ⟨ax,af,ae⟩ gP aC
  have cg:x∈nodes:=ai x (aC.subset (by simp));have dM:∀k∈pre,k∈nodes:=fun k hk=>ai k (aC.subset (by simp[hk]))
  have fN:pre.length<90:=by have:=aC.length_le;simp at this;omega
  have s0:=qre pre (fun k hk=>(T.num k (dM k hk)).1);have s1:=qqj pre (fun k hk=>(T.num k (dM k hk)).2.1);have x0:=(T.num x cg).1;have x1:=(T.num x cg).2.1;have FB:=(hN x cg).below ae;have c2:W2.cell? (vA x.blk 2)=some (vI x.n0):=FB.cell rfl;have c3:W2.cell? (vA x.blk 3)=some (vI x.n1):=FB.cell rfl;have d0:=ax.cell 0;have d1:=ax.cell 1;have f0:=ax.frozen 0;have f1:=ax.frozen 1;simp only[xq0,xq1,xq2]at d0 d1;have iB:=fun W=>qid (sum0 pre) (sum1 pre) x.n0 x.n1 W (by omega) (by omega) (by omega) (by omega) (by omega) (by omega) (by omega) (by omega)
  have y_:prog.follows .mixedOrders=true:=by kernel_rfl
  gi_wp2
  gi_region_with_o ((first|refine⟨trivial,b_ _,?_⟩|refine⟨trivial,?_⟩|skip);gi_at_call 139;refine(CallsIn.inRound l (xrv.2 (iB _))).mono ?_;rintro e w' ⟨rfl,fh⟩;have g0:=(fh.cell (p:=vA (w.heap.size+1) 0) ax.lt).trans d0;have g1:=(fh.cell (p:=vA (w.heap.size+1) 1) ax.lt).trans d1;have q0:=(fh.frozen (p:=vA (w.heap.size+1) 0) ax.lt).trans f0;have q1:=(fh.frozen (p:=vA (w.heap.size+1) 1) ax.lt).trans f1)
  all_goals gi_wp2
  all_goals
   have hK:Keep (fun b=>b=w.heap.size+1) W2 w':=(Keep.refl _ W2).drew.trans (Keep.new fh)
   refine⟨(hK.setCell (p:=vA (w.heap.size+1) 0) rfl _).setCell (p:=vA (w.heap.size+1) 1) rfl _,?_,?_,?_⟩
   ·have:=((ax.drew.below fh ax.lt).set 0 (vI (sum0 pre+x.n0))).set 1 (vI (sum1 pre+x.n1))
    rw[qsx,qqz]
    simpa using this
   ·exact(((af.drew.below fh af.lt).other _ _ (by simp)).other _ _ (by simp))
   ·exact((qv4 ae fh).setCell (by simp) _).setCell (by simp) _
 case done =>
  rintro A ⟨ax,af,ae⟩ hD
  have d0:=ax.cell 0;have d1:=ax.cell 1;have e0:=af.cell 0;have e1:=af.cell 1;have f0:=af.frozen 0;have f1:=af.frozen 1;simp only[xq0,xq1,xq2]at d0 d1 e0 e1
  gi_wp2
  have a_:Blk ((A.setCell (vA w.heap.size 0) (vI (sum0 X))).setCell (vA w.heap.size 1) (vI (sum1 X))) w.heap.size 35 #[vI (sum0 X),vI (sum1 X)]:=by
   simpa using (af.set 0 (vI (sum0 X))).set 1 (vI (sum1 X))
  have jl:((A.setCell (vA w.heap.size 0) (vI (sum0 X))).setCell (vA w.heap.size 1) (vI (sum1 X))).heap[W.heap.size]?=some (.deferred (some [])):=by
   rw[Below.heap_setCell _ _ _ _ (by simp;omega),Below.heap_setCell _ _ _ _ (by simp;omega)];exact hD
  have c0:=(a_.put W.heap.size (.deferred none) (by omega)).cell 0;have c1:=(a_.put W.heap.size (.deferred none) (by omega)).cell 1;simp only[xq0,xq1,xq2]at c0 c1
  refine⟨by simp,.inl ⟨_,_,rfl,run_takeDeferred jl,?_⟩⟩
  refine⟨.agg #[vI (sum0 X),vI (sum1 X)],by simp[results,results104,go_sem,c0,c1],rfl,qa8 ((ae.setCell (Nat.le_refl _) _).setCell (Nat.le_refl _) _) _ _ (by omega)⟩
 case stop =>
  rintro c pre A _ h _
  exact h.elim
end
section
open Go.RowKit
variable {nodes:List Node}{n r:Node}{l':List Int}{P:Program}{v':Value}{w w':World}
theorem qkw{α : Type}:∀ {l l':List α},l.Nodup->l'.Nodup->(∀x,x∈l↔x∈l')->l.Perm l':=by
 intro l
 induction l with
 |nil =>
  intro l' _ _ h
  have:l'=[]:=List.eq_nil_iff_forall_not_mem.2 (fun x hx=>by simpa using (h x).2 hx)
  subst this;exact List.Perm.refl _
 |cons a l ih =>
  intro l' h1 h2 h;obtain⟨h3,h4⟩:=List.nodup_cons.1 h1;obtain⟨s,t,rfl⟩:=List.append_of_mem ((h a).1 (by simp));have hp:(s++a::t).Perm (a::(s++t)):=List.perm_middle;have h5:=hp.nodup_iff.1 h2;obtain⟨h6,h7⟩:=List.nodup_cons.1 h5
  refine List.Perm.trans (List.Perm.cons a (ih h4 h7 (fun x=>?_))) hp.symm
  constructor
  ·intro hx
   have:=(h x).1 (by simp[hx])
   simp only[xri,List.mem_cons]at this ⊢
   rcases this with h8|rfl|h8
   ·exact .inl h8
   ·exact absurd hx h3
   ·exact .inr h8
  ·intro hx
   have:=(h x).2 (by simp only[xri,List.mem_cons]at hx ⊢;rcases hx with h8|h8;exact .inl h8;exact .inr (.inr h8))
   rcases List.mem_cons.1 this with rfl|h8
   ·exact absurd hx h6
   ·exact h8
theorem qka(T:Tree nodes){ch:Node->List Node}(K:Kids nodes ch):∀(f:Nat) (n:Node),n∈nodes->4<=n.key.length+f->∀m,m∈dfs ch f n↔(m∈nodes/\n.key <+: m.key):=by
 intro f
 induction f with
 |zero =>
  intro n hn hk m;simp only[dfs,List.mem_singleton]
  constructor
  ·rintro rfl;exact⟨hn,List.prefix_refl _⟩
  ·rintro⟨hm,hp⟩
   have h1:=(T.ok m hm).2;have h2:=hp.length_le
   exact T.inj m hm n hn (hp.eq_of_length (by omega)).symm
 |succ f ih =>
  intro n hn hk m;simp only[dfs,List.mem_cons,List.mem_flatMap]
  constructor
  ·rintro(rfl|⟨c,hc,hm⟩)
   ·exact⟨hn,List.prefix_refl _⟩
   ·obtain⟨rC,x,hx⟩:=(K.mem n hn c).1 hc;obtain⟨gy,ir⟩:=(ih c rC (by rw[hx];simp;omega) m).1 hm
    exact⟨gy,List.IsPrefix.trans ⟨[x],hx.symm⟩ ir⟩
  ·rintro⟨hm,r,hr⟩
   cases r with
   |nil=>exact .inl (T.inj m hm n hn (by simpa using hr.symm))
   |cons x r =>
    right
    obtain⟨c,hc,CQ⟩:=T.pre r (n.key++[x]) m hm (by rw[<-hr];simp)
    exact⟨c,(K.mem n hn c).2 ⟨hc,x,CQ⟩,(ih c hc (by rw[CQ];simp;omega) m).2 ⟨hm,r,by rw[CQ,<- hr];simp⟩⟩
theorem qsq(T:Tree nodes){ch:Node->List Node}(K:Kids nodes ch):∀(f:Nat) (n:Node),n∈nodes->4<=n.key.length+f->(dfs ch f n).Nodup:=by
 intro f
 induction f with
 |zero=>intro n hn hk;simp[dfs]
 |succ f ih =>
  intro n hn hk;have uo:∀c∈ch n,c∈nodes/\∃x,c.key=n.key++[x]:=fun c hc=>(K.mem n hn c).1 hc
  simp only[dfs]
  refine List.nodup_cons.2 ⟨?_,?_⟩
  ·intro h;obtain⟨c,hc,hm⟩:=List.mem_flatMap.1 h;obtain⟨rC,x,hx⟩:=uo c hc;obtain⟨_,hp⟩:=(qka T K f c rC (by rw[hx];simp;omega) n).1 hm
   have:=hp.length_le
   rw[hx]at this;simp at this;omega
  ·have hs:=K.sort n hn;rw[List.pairwise_map]at hs;have dp:∀c∈ch n,c∈nodes/\4<=c.key.length+f/\∃x,c.key=n.key++[x]:=fun c hc=>by
    obtain⟨h1,x,hx⟩:=uo c hc
    exact⟨h1,by rw[hx];simp;omega,x,hx⟩
   generalize ch n=cs at hs dp
   induction cs with
   |nil=>simp
   |cons c cs ih2 =>
    obtain⟨h1,h2⟩:=List.pairwise_cons.1 hs;obtain⟨rC,sK,x,hx⟩:=dp c (by simp);rw[List.flatMap_cons]
    refine List.nodup_append.2 ⟨ih c rC sK,ih2 h2 (fun k dz=>dp k (by simp[dz])),?_⟩
    intro a ha b hb e;subst e;obtain⟨c',fR,iO⟩:=List.mem_flatMap.1 hb;obtain⟨CS,CL,y,hy⟩:=dp c' (by simp[fR]);have p1:=((qka T K f c rC sK a).1 ha).2;have p2:=((qka T K f c' CS CL a).1 iO).2;have hl:c.key.length=c'.key.length:=by rw[hx,hy];simp
    have:c.key=c'.key:=by
     obtain⟨r1,e1⟩:=p1;obtain⟨r2,e2⟩:=p2
     exact(List.append_inj (e1.trans e2.symm) hl).1
    have h3:=h1 c' fR;rw[this,show cmpB (qbv c'.key) (qbv c'.key)=0 from qei _]at h3
    omega
theorem qgl(T:Tree nodes){ch:Node->List Node}(K:Kids nodes ch)(df:nodes.Nodup)(hn:n∈nodes):
  (dfs ch 4 n).Perm (nodes.filter fun m=>n.key.isPrefixOf m.key):=by
 refine qkw (qsq T K 4 n hn (by omega)) (df.filter _) (fun x=>?_)
 rw[qka T K 4 n hn (by omega),xrr,xrw]
theorem Tree.nd(T:Tree nodes):nodes.Nodup:=qcc T.nodup
theorem qt5(T:Tree nodes){ch:Node->List Node}(K:Kids nodes ch)(hr:r∈nodes)(hk:r.key=[]):(dfs ch 4 r).length=nodes.length:=by
 have:=(qgl T K T.nd hr).length_eq
 rw[this,hk];simp
theorem qoe(T:Tree nodes){ch:Node->List Node}(K:Kids nodes ch)(hn:n∈nodes):(dfs ch 4 n).length<=20:=by
 have:=(qgl T K T.nd hn).length_eq
 rw[this];exact Nat.le_trans (xrh _ _) T.len
def under(nodes:List Node)(k:List Bs):List Node:=nodes.filter fun m=>k.isPrefixOf m.key
theorem qoa{l:List Int}(h:l.Perm l'):l.sum=l'.sum:=by
 induction h with
 |nil=>rfl
 |cons x _ ih=>simp[ih]
 |swap x y l=>simp;omega
 |trans _ _ h1 h2=>exact h1.trans h2
theorem qtw(T:Tree nodes){ch:Node->List Node}(K:Kids nodes ch)(hn:n∈nodes):sum0 (dfs ch 4 n)=sum0 (under nodes n.key):=qoa ((qgl T K T.nd hn).map _)
theorem qti(T:Tree nodes){ch:Node->List Node}(K:Kids nodes ch)(hn:n∈nodes):sum1 (dfs ch 4 n)=sum1 (under nodes n.key):=qoa ((qgl T K T.nd hn).map _)
theorem qgm(k:List Bs)(h:qbn k=true):(joinB k).length<=5*k.length:=by
 induction k with
 |nil=>simp[joinB]
 |cons a r ih =>
  have ha:=(qea (qbz h (n:=a) (by simp))).2;have hr:qbn r=true:=by simp only[qbn,List.all_cons,Bool.and_eq_true]at h;exact h.2
  by_cases e:r=[]
  ·subst e;simp[joinB];omega
  ·rw[qbq a r e];have:=ih hr;simp;omega
theorem qhh(T:Tree nodes):∀(j:Nat) (n:Node),n∈nodes->n.key.length=j->∀(w:World),(∀n∈nodes,qan w n) ->
  Cl 47 #[nptr n.blk] w fun e w'=>e=.returned (.string (sb (joinB n.key)))/\Bw w w':=by
 intro j
 induction j with
 |zero =>
  intro n hn hj w hN;have hk:n.key=[]:=List.eq_nil_of_length_eq_zero hj;have hu:=T.top n hn hk;have c6:w.cell? (vA n.blk 6)=some (.pointer none):=by have:=(hN n hn).cell (i:=6) (v:=uptr n.up) rfl;rw[hu]at this;exact this
  rw[hk];unfold nptr
  go_enter func47,ntmps47
  go_wp2
  go_ret
  exact⟨rfl,Below.refl _ _⟩
 |succ j ih =>
  intro n hn hj w hN;have aW:n.key≠[]:=fun e=>by rw[e]at hj;simp at hj
  obtain⟨k,nm,jh⟩:∃k nm,n.key=k++[nm]:=⟨_,_,(List.dropLast_concat_getLast aW).symm⟩;obtain⟨p,hp,fU,fN,e9⟩:=T.par n hn _ _ jh;have c6:w.cell? (vA n.blk 6)=some (vP p.blk):=by have:=(hN n hn).cell (i:=6) (v:=uptr n.up) rfl;rw[e9]at this;exact this
  have c0:=(hN n hn).name;rw[jh,qdc]at c0;have hb:=(hN n hn).lt;have Ek:=fun W hW=>ih p hp (by rw[fU];rw[jh]at hj;simp at hj;omega) W hW
  unfold nptr at Ek ⊢;have ec:=T.ok n hn;have uZ:=T.ok p hp;have fl:qbd nm=true:=qbz ec.1 (by rw[jh];simp);have np:=fun W=>qul (sb (joinB p.key)) (sb nm) W (by rw[qd3];have:=qgm _ uZ.1;omega) (by rw[qd3];have:=(qea fl).2;omega)
  simp only[qbi]at np;have pX:(if joinB p.key=[] then sb nm else sb (joinB p.key++47::nm))=sb (joinB n.key):=by
   by_cases e:p.key=[]
   ·rw[if_pos ((qc8 uZ.1).2 e),jh,<- fU,e];simp[joinB]
   ·rw[if_neg (fun h=>e ((qc8 uZ.1).1 h)),jh,<- fU,qjc _ _ e]
  simp only[pX]at np;obtain⟨R,hR⟩:∃R,R=sb (joinB n.key):=⟨_,rfl⟩;obtain⟨R1,mh⟩:∃R,R=sb (joinB p.key):=⟨_,rfl⟩;simp only[<-hR,<- mh]at np Ek ⊢;clear pX hR mh
  go_enter func47,ntmps47
  go_wp2
  go_region_with (first|(go_at_call 47;refine(Ek _ (fun k hk=>(hN k hk).below (by(repeat (first|exact Below.refl _ _|refine qac ?_ (by assumption)|refine Below.setCell ?_ (by first|omega|(simp<;>omega)) _|refine Below.alloc ?_ (by first|omega|(simp<;>omega)) _|refine Below.drew ?_|refine xrm ?_ _))))).mono ?_;rintro e w1 ⟨rfl,aa⟩;have d0:=(aa.cell (p:=vA n.blk 0) hb).trans c0)|(go_at_call 78;refine(np _).mono ?_;rintro e w2 ⟨rfl,af⟩))
  all_goals go_wp2
  all_goals go_ret
  all_goals exact⟨rfl,by(repeat (first|exact Below.refl _ _|refine qac ?_ (by assumption)|refine Below.setCell ?_ (by first|omega|(simp<;>omega)) _|refine Below.alloc ?_ (by first|omega|(simp<;>omega)) _|refine Below.drew ?_|refine xrm ?_ _))⟩
theorem qpx(w:World){o:Oper}{a:Act}{K:Act->World->Prop}{Q:Exit->Act->World->Prop}(d s:Operand)(t t':TypeId)
  (ho:o.op=.call {callee:=.builtin .copy,args:=#[d,s],argTypes:=#[t,t']}) (v u:Value) (hd:a.eval d=v) (hs:a.eval s=u) 
  (hr:(Builtin.copy_ #[t,t'] o.type #[v,u]).run P w=.ok v' w') (h:K (a.put o.dst v') w'):o.wp P a w K Q:=by
 unfold Oper.wp execOp;simp only[ho,resolve,invoke,builtin,Sem.run_bind,Sem.run_pure,Result.andThen_ok,List.map_toArray,List.map_cons,List.map_nil,hd,hs,hr]
 exact h
theorem qfm(w:World){fF:Array Oper}{rest:List Oper}{o:Oper}{a:Act}{Q:Exit->Act->World->Prop}(Dc:o.guard=none)(d s:Operand)(t t':TypeId)
  (ho:o.op=.call {callee:=.builtin .copy,args:=#[d,s],argTypes:=#[t,t']}) (v u:Value) (hd:a.eval d=v) (hs:a.eval s=u) 
  (hr:(Builtin.copy_ #[t,t'] o.type #[v,u]).run P w=.ok v' w') (h:wpList P fF Q rest (a.put o.dst v') w'):wpList P fF Q (o::rest) a w :=
 wpList_plain Dc fun _ hK=>qpx w d s t t' ho v u hd hs hr (hK _ _ h)
theorem qg3{fF:Array Oper}{o:Oper}{a:Act}{K:Act->World->Prop}{Q:Exit->Act->World->Prop}{E:Prop}
  (hg:o.guard=none) (d x:Operand) (dT sT:TypeId) (u_:o.op=Op.call {callee:=Callee.builtin Builtin.copy,args:=#[d,x],argTypes:=#[dT,sT]})
  (v u:Value) (hd:a.eval d=v) (hx:a.eval x=u) (hr:(Builtin.copy_ #[dT,sT] o.type #[v,u]).run P w=.ok v' w') (hK:K (a.put o.dst v') w') :
  if Region.wanted o (yielded fF a.tmps)=true then Oper.wp P o a w K Q else E:=by
 rw[if_pos (by simp[Region.wanted,hg])];unfold Oper.wp
 simp[execOp,u_,resolve,invoke,builtin,hd,hx,hr,Result.andThen]
 exact hK
theorem quw:(prog.info? 97).map (fun i=>(i.zero,i.size,i.bytes))=some (some (.pointer none),1,8):=by kernel_rfl
theorem qog:(prog.info? 97).map (·.size)=some 1:=by kernel_rfl
theorem qpm(sl:Value)(n vb:Nat)(xs:List Value)(v:Value)(w:World)(hn:n<=1000)(dv:v.oneCell'=true)(av:w.ownsRow 0 97 1 sl n xs)(ed:Blk w vb 97 #[v]):
  Cl 137 #[sl,vI n,vS vb 1 1] w fun e w' =>
   ∃eB,e=.returned eB/\w'.ownsRow 0 97 1 eB (n+1) (xs++[v])/\w.grownBy w' sl.ownBlock/\(eB.ownBlock=sl.ownBlock\/∃g,eB.ownBlock=some g/\w.heap.size<=g):=by
 obtain⟨i0,hi,fE,cJ,dO⟩:=info_parts quw;have mO:=ed.cell 0;simp only[List.getElem?_toArray,List.getElem?_cons_zero]at mO;have dq:∀j u,[v][j]?=some u->w.cell? (((vA vb 0):Addr).add j)=some u:=fun j u hj=>by
  cases j with
  |zero=>simp at hj;subst hj;exact mO
  |succ j=>simp at hj
 have key:∃v' w',(∀ty,(Builtin.append_ #[134,134] ty #[sl,vS vb 1 1]).run prog w=.ok v' w')/\w'.ownsRow 0 97 1 v' (n+1) (xs++[v])/\w.grownBy w' sl.ownBlock/\(v'.ownBlock=sl.ownBlock\/∃g,v'.ownBlock=some g/\w.heap.size<=g):=by
  have bQ:∀ {v':Value} {w':World},w'.ownsRow w.heap.size 97 1 v' (n+1) (xs++[v])->w'.ownsRow 0 97 1 v' (n+1) (xs++[v])/\∃g,v'.ownBlock=some g/\w.heap.size<=g:=fun {v' w'} h=>by
   obtain⟨h1,h2⟩:=h
   rcases h2 with ⟨_,h0⟩|⟨g,cap,aD,rfl,hb,rest⟩
   ·omega
   ·exact⟨⟨h1,.inr ⟨g,cap,aD,rfl,Nat.zero_le _,rest⟩⟩,g,rfl,hb⟩
  rcases av.2 with ⟨rfl,rfl⟩|⟨g,cap,aD,rfl,_,hg,nw,jd,dp,ht⟩
  ·have hx:xs=[]:=List.eq_nil_of_length_eq_zero (by simpa using av.1);subst hx;obtain⟨v',w',hr,ho,dj,_⟩:=run_append_own (P:=prog) w w.heap.size 134 0 97 i0 _ 1 8 underlying134 hi fE cJ dO rfl (by decide) v0_ 0 [] (xrk w _ 97 1) (vA vb 0) 1 1 [v] rfl dq (by simp[dv]) (by unfold maxLen;omega) (by omega) (Nat.le_refl _);have ib:=bQ (by simpa using ho)
   exact⟨v',w',fun ty=>hr,ib.1,dj,.inr ib.2⟩
  ·by_cases bE:n+1<=cap
   ·have hr:=fun ty=>run_append_room (P:=prog) w 134 ty 97 i0 underlying134 hi g n cap aD hg (vA vb 0) 1 1 [v] (by rw[cJ];rfl) dq (by simp[dv]) bE (by rw[cJ];simp;omega)
    rw[cJ]at hr;simp only[Nat.mul_one]at hr ht dp
    refine⟨_,_,hr,⟨by simp[av.1],.inr ⟨g,cap,_,rfl,Nat.zero_le _,setRow_heap w g aD _ 97 _ hg,bE,jd,?_,?_⟩⟩,⟨rfl,rfl,rfl,by simp,fun k _ hk=>setRow_other w g k _ (fun e=>hk (by simp[Value.ownBlock,e]))⟩,.inl rfl⟩
    ·simp[dp];omega
    ·have:xs.length=n:=by simpa using av.1
     rw[Nat.mul_one,List.toList_toArray,ht,List.take_append_of_le_length (by simp;omega),xrd (by simp;omega)]
   ·obtain⟨v',w',hr,ho,dj⟩:=run_append_arg_grows (P:=prog) w 134 0 97 i0 _ 1 8 underlying134 hi fE cJ dO rfl (by decide) (vA g 0) n cap xs av.1 (av.cells (g:=g) rfl) (vA vb 0) 1 1 [v] rfl dq (by omega) (by unfold maxLen;omega) (by omega);have ib:=bQ ho
    exact⟨v',w',fun ty=>hr,ib.1,⟨dj.os,dj.tape,dj.output,dj.size,fun k hk _=>dj.block k hk (by simp)⟩,.inr ib.2⟩
 obtain⟨v',w',pY,ho,dj,dH⟩:=key;obtain⟨ao,cap,eK,dV⟩:∃ao cap,sl=.slice ao n cap/\n<=cap/\cap<=maxLen:=by
  rcases av.2 with ⟨rfl,rfl⟩|⟨g,cap,aD,rfl,_,_,h1,h2,_⟩
  ·exact⟨none,0,rfl,Nat.le_refl _,Nat.zero_le _⟩
  ·exact⟨_,_,rfl,h1,h2⟩
 obtain⟨dV,d_⟩:=dV;unfold maxLen at d_;subst eK;have lD:ao=none->n=0/\cap=0:=fun e=>by
  subst e
  rcases av.2 with ⟨h,rfl⟩|⟨g,cap',aD,h,_⟩
  ·injection h with _ _ h3;exact⟨rfl,h3⟩
  ·cases h
 clear av dq
 go_enter func137,ntmps137
 cases ao with
 |none =>
  obtain⟨rfl,rfl⟩:=lD rfl
  go_wp2_with (at_builtin;refine Lib.wpList_append_run _ rfl _ _ _ _ rfl _ _ rfl rfl _ _ (pY _) ?_)
  all_goals (go_ret;exact⟨_,rfl,ho,dj,dH⟩)
 |some a =>
  go_wp2_with (at_builtin;refine Lib.wpList_append_run _ rfl _ _ _ _ rfl _ _ rfl rfl _ _ (pY _) ?_)
  all_goals (go_ret;exact⟨_,rfl,ho,dj,dH⟩)
theorem qls(g n c i vb:Nat)(aD:Array Value)(v:Value)(w:World)(hi:i<n)(bE:n+1<=c)(hc:c<=maxLen)(hg:w.heap[g]?=some (.cells aD 97 (0,0)))(dp:aD.size=c)
  (dv:v.oneCell'=true) (h1:∀u∈aD.toList.take n,u.oneCell'=true) (ed:Blk w vb 97 #[v]) (aW:vb≠g) :
  Cl 137 #[vS g n c,vI i,vS vb 1 1] w fun e w' =>
   e=.returned (vS g (n+1) c)/\(∃R:Array Value,w'.heap[g]?=some (.cells R 97 (0,0))/\R.size=c/\R.toList.take (n+1)=(aD.toList.take n).take i++v::(aD.toList.take n).drop i)/\Keep (fun b=>b=g) w w':=by
 unfold maxLen at hc;have dO:¬((i:Int)=(n:Int)):=by omega
 have fO:w.shape? vb=some (97,1):=by unfold World.shape?;rw[show w.heap[vb]?=_ from ed];rfl
 have vn:w.shape? g=some (97,c):=by unfold World.shape?;rw[hg];simp[dp]
 have sX:∀lb cb,(callFunc 185 #[vS vb 1 1,.slice (some (vA g (i+1))) lb cb]).run prog w=.ok (.value (.bool false)) w:=fun lb cb=>by
  rw[run_callFunc_extern func185 (by kernel_rfl) (by kernel_rfl) (by kernel_rfl) (e:=Extern.SlicesOverlaps.overlaps #[134,134] #[4]) (by kernel_rfl),
   Lib.run_overlaps_apart w 134 4 97 underlying134 1 sizeOf97 (vA vb 0) (vA g (i+1)) 1 1 lb cb aW 97 97 1 c fO vn (by omega) (ed.frozen 0) (ed.frozen 1)]
  rfl
 have cell:∀j u,aD[j]?=some u->w.cell? (vA g j)=some u:=fun j u h=>by unfold World.cell?;simp only[hg];simpa using h
 obtain⟨cs,dE⟩:∃cs,cs=(aD.toList.take n).drop i:=⟨_,rfl⟩;have aY:cs.length=n-i:=by rw[dE];simp;omega
 have eP:∀ty dc sc,(Builtin.copy_ #[134,134] ty #[.slice (some (vA g (i+1))) (n-i) dc,.slice (some (vA g i)) (n+1-i) sc]).run prog w.drew=.ok (goInt cs.length) (w.drew.setRow g (aD.toList.take (i+1)++cs++aD.toList.drop (i+1+cs.length)).toArray):=fun ty dc sc =>
  run_copy_row prog w.drew 134 134 ty 97 g (i+1) (n-i) dc (vA g i) (n+1-i) sc aD 97 cs underlying134 qog hg (by rw[aY];simp only[Nat.min_def];split<;>omega)
   (fun j u hj=>by
    rw[Addr.add_lit]
    refine cell _ _ ?_
    rw[dE,List.getElem?_drop,List.getElem?_take]at hj
    split at hj
    ·simpa using hj
    ·cases hj) (by rw[aY,dp];omega) (fun u hu=>h1 u (by rw[dE]at hu;exact List.mem_of_mem_drop hu))
 obtain⟨R1,mh⟩:∃R1,R1=(aD.toList.take (i+1)++cs++aD.toList.drop (i+1+cs.length)).toArray:=⟨_,rfl⟩;rw[<-mh]at eP;have oV:R1.size=c:=by rw[mh];simp[aY,dp];omega
 have lR:(w.drew.setRow g R1).heap[g]?=some (.cells R1 97 (0,0)):=setRow_heap w.drew g aD R1 97 (0,0) hg;have mO:w.cell? (vA vb 0)=some v:=by have:=ed.cell 0;simpa using this
 have fr:∀(W:World),W.heap[g]?=some (.cells R1 97 (0,0))->W.cell? (vA vb 0)=some v->∀ty dc,(Builtin.copy_ #[134,134] ty #[.slice (some (vA g i)) (n+1-i) dc,vS vb 1 1]).run prog W=.ok (goInt 1) (W.setRow g (R1.toList.take i++[v]++R1.toList.drop (i+1)).toArray):=fun W oX ub ty dc =>
  run_copy_row prog W 134 134 ty 97 g i (n+1-i) dc (vA vb 0) 1 1 R1 97 [v] underlying134 qog oX (by simp only[Nat.min_def,List.length_singleton];split<;>omega)
   (fun j u hj=>by cases j with|zero=>(simp at hj;subst hj;exact ub)|succ j=>simp at hj) (by rw[oV];simp;omega) (by simp[dv])
 have hE:∀j u,w.cell? (vA vb j)=some u->(w.drew.setRow g R1).cell? (vA vb j)=some u:=fun j u h=>by rw[cell_setRow_other _ _ _ _ aW];exact h
 have bX:IntKind.i64.wrap ((i:Int)+1)=(i:Int)+1:=by rw[IntKind.wrap_i64];omega
 have cH:i<=n:=by omega
 have wS:((i:Int)+1).toNat=i+1:=by omega
 have aa:(0:Int)<=(i:Int)+1:=by omega
 have af:¬(c=i+1):=by omega
 have ax:(i:Int)<=(n:Int)+1:=by omega
 have a_:¬(c=i):=by omega
 have Bl:Hid (cs=(aD.toList.take n).drop i):=dE;have qo:Hid (R1=(aD.toList.take (i+1)++cs++aD.toList.drop (i+1+cs.length)).toArray):=mh;have tx:Hid (cs.length=n-i):=aY;clear dE mh aY
 go_enter func137,ntmps137
 go_wp2_with (simp only[sX])
 go_region_law (refine qg3 rfl _ _ 134 134 rfl _ _ (by simp[Act.eval,Act.put]) (by simp[Act.eval,Act.put]) (eP _ _ _) ?_)
 go_wp2_with (at_builtin;refine qfm _ rfl _ _ 134 134 rfl _ _ rfl rfl (fr _ lR (hE _ _ mO) _ _) ?_)
 go_ret
 refine⟨rfl,⟨(R1.toList.take i++v::R1.toList.drop (i+1)).toArray,setRow_heap _ g R1 _ 97 (0,0) lR,by simp[oV];omega,?_⟩,?_⟩
 ·have e1:R1.toList=aD.toList.take (i+1)++cs++aD.toList.drop (n+1):=by rw[qo.out,tx.out,show i+1+(n-i)=n+1 by omega]
  have e2:R1.toList.take i=aD.toList.take i:=by rw[e1,List.append_assoc,List.take_append_of_le_length (by simp;omega),List.take_take,Nat.min_eq_left (by omega)]
  have e3:R1.toList.drop (i+1)=cs++aD.toList.drop (n+1):=by rw[e1,List.append_assoc,List.drop_append_of_le_length (by simp;omega),List.drop_of_length_le (by simp;omega)];rfl
  have e4:(aD.toList.take n).take i=aD.toList.take i:=by rw[List.take_take,Nat.min_eq_left (by omega)]
  rw[List.toList_toArray,e2,e3,e4,<- Bl.out];have an:(aD.toList.take i).length=i:=by simp;omega
  rw[show aD.toList.take i++v::(cs++aD.toList.drop (n+1))=(aD.toList.take i++v::cs)++aD.toList.drop (n+1) by simp];rw[List.take_append_of_le_length (by simp[an,tx.out];omega),xrd (by simp[an,tx.out];omega)]
 ·exact⟨rfl,rfl,rfl,by simp,fun k hk hn=>by rw[setRow_other _ _ _ _ hn,setRow_other _ _ _ _ hn];rfl⟩
theorem qnb(g n c i vb:Nat)(aD:Array Value)(v:Value)(w:World)(hi:i<n)(cQ:n<=1000)(nw:n<=c)(bE:c<n+1)(hg:w.heap[g]?=some (.cells aD 97 (0,0)))(dp:aD.size=c)
  (dv:v.oneCell'=true) (h1:∀u∈aD.toList.take n,u.oneCell'=true) (ed:Blk w vb 97 #[v]) :
  Cl 137 #[vS g n c,vI i,vS vb 1 1] w fun e w' =>
   ∃G,n+1<=G/\G<=maxLen/\e=.returned (vS w.heap.size (n+1) G)/\(∃R:Array Value,w'.heap[w.heap.size]?=some (.cells R 97 (0,0))/\R.size=G/\R.toList.take (n+1)=(aD.toList.take n).take i++v::(aD.toList.take n).drop i)/\Bw w w':=by
 obtain⟨i0,p8,fE,rY,zN⟩:=info_parts quw;obtain⟨xs,lL⟩:∃xs,xs=aD.toList.take n:=⟨_,rfl⟩;rw[<-lL]at h1;have jD:xs.length=n:=by rw[lL];simp;omega
 have dO:¬((i:Int)=(n:Int)):=by omega
 have nA:(c:Int)<(n:Int)+1:=by omega
 have sR:g<w.heap.size:=(xrc.1 hg).1;have ox:vb<w.heap.size:=ed.lt;have cell:∀j u,xs[j]?=some u->w.cell? (vA g j)=some u:=fun j u h=>by
  unfold World.cell?;simp only[hg];rw[lL,List.getElem?_take]at h
  split at h
  ·simpa using h
  ·cases h
 have mO:w.cell? (vA vb 0)=some v:=by have:=ed.cell 0;simpa using this
 have pF:(n:Int)+1-(i:Int)=((n+1-i:Nat):Int):=by omega
 have uJ:i+(n+1-i)=n+1:=by omega
 have iS:(Builtin.firstCells i0.size i (vS g i c)).run prog w.drew=.ok (xs.take i).toArray w.drew:=by
  rw[rY]
  exact run_firstCells_some w.drew 1 i (vA g 0) i c (xs.take i) (by rw[List.length_take];omega) (fun j u hj=>by
   rw[Addr.add_lit,Nat.zero_add];rw[List.getElem?_take]at hj
   split at hj
   ·exact cell j u hj
   ·cases hj)
 obtain⟨G,hG⟩:∃G,G=grownCap w (n+1) c 97:=⟨_,rfl⟩;obtain⟨fm,jP⟩:∃fm:Array Value,fm=(xs.take i).toArray++Builtin.zeroCells (Value.pointer none).cells (n+1-i)++Builtin.zeroCells (Value.pointer none).cells (G-(n+1)):=⟨_,rfl⟩;have zo:∀ty,(Builtin.append_ #[134,3] ty #[vS g i c,vI ((n:Int)+1-(i:Int))]).run prog w =
   .ok (vS w.heap.size (n+1) G) (w.drew.alloc (.cells fm 97)):=fun ty=>by
  have h:=Lib.run_append_grow_zeros w 134 3 ty 97 i0 _ .i64 .i64 underlying134 underlying3 p8 fE (some (vA g 0)) i c (xs.take i) iS (n+1-i) (by omega) (by omega) (by omega) (by omega) (by rw[zN];omega) (by rw[zN,uJ];exact growslice_fits bE (by omega));rw[uJ,<- hG,<- jP]at h;rw[pF]
  exact h
 have Co:n+1<=G:=by rw[hG];exact grownCap_ge w _ _ _
 have oQ:G<=maxLen:=by rw[hG];exact grownCap_le_maxLen w (n+1) c 97 (by unfold maxLen;omega)
 have tW:fm.size=G:=by
  rw[jP];simp[Builtin.zeroCells,Value.cells];omega
 have nK:fm.toList.take i=xs.take i:=by
  rw[jP];simp only[Array.toList_append,List.append_assoc,List.toList_toArray];rw[List.take_append_of_le_length (by simp;omega),xrd (by simp;omega)]
 obtain⟨W1,eH⟩:∃W1,W1=w.drew.alloc (.cells fm 97):=⟨_,rfl⟩;rw[<-eH]at zo;have vu:W1.heap.size=w.heap.size+1:=by rw[eH];simp
 have hN:W1.heap[w.heap.size]?=some (.cells fm 97 (0,0)):=by rw[eH];exact heap_alloc_new w.drew _
 have jM:∀k,k<w.heap.size->W1.heap[k]?=w.heap[k]?:=fun k hk=>by rw[eH];exact Below.heap_alloc w.drew _ k hk
 have ph:Bw w W1:=by rw[eH];exact(Below.refl _ w).drew.alloc (Nat.le_refl _) _
 have eP:∀(W:World),W.heap[w.heap.size]?=some (.cells fm 97 (0,0))->W.cell? (vA vb 0)=some v->∀ty dc,(Builtin.copy_ #[134,134] ty #[.slice (some (vA w.heap.size i)) (n+1-i) dc,vS vb 1 1]).run prog W=.ok (goInt 1) (W.setRow w.heap.size (fm.toList.take i++[v]++fm.toList.drop (i+1)).toArray):=fun W oX ub ty dc =>
  run_copy_row prog W 134 134 ty 97 w.heap.size i (n+1-i) dc (vA vb 0) 1 1 fm 97 [v] underlying134 qog oX (by simp only[Nat.min_def,List.length_singleton];split<;>omega)
   (fun j u hj=>by cases j with|zero=>(simp at hj;subst hj;exact ub)|succ j=>simp at hj) (by rw[tW];simp;omega) (by simp[dv])
 obtain⟨R2,eh⟩:∃R2,R2=(fm.toList.take i++[v]++fm.toList.drop (i+1)).toArray:=⟨_,rfl⟩;rw[<-eh]at eP;have mi:R2.size=G:=by rw[eh];simp[tW];omega
 obtain⟨W2,eI⟩:∃W2,W2=W1.setRow w.heap.size R2:=⟨_,rfl⟩;obtain⟨cs,dE⟩:∃cs,cs=xs.drop i:=⟨_,rfl⟩;have aY:cs.length=n-i:=by rw[dE];simp;omega
 have fr:∀(W:World),W.heap[w.heap.size]?=some (.cells R2 97 (0,0))->(∀j,W.cell? (vA g j)=w.cell? (vA g j))->∀ty dc sc,(Builtin.copy_ #[134,134] ty #[.slice (some (vA w.heap.size (i+1))) (n-i) dc,.slice (some (vA g i)) (n-i) sc]).run prog W=.ok (goInt cs.length) (W.setRow w.heap.size (R2.toList.take (i+1)++cs++R2.toList.drop (i+1+cs.length)).toArray):=fun W oX C7 ty dc sc =>
  run_copy_row prog W 134 134 ty 97 w.heap.size (i+1) (n-i) dc (vA g i) (n-i) sc R2 97 cs underlying134 qog oX (by rw[aY];simp)
   (fun j u hj=>by
    rw[Addr.add_lit,C7];rw[dE,List.getElem?_drop]at hj
    exact cell _ _ hj) (by rw[aY,mi];omega) (fun u hu=>h1 u (by rw[dE]at hu;exact List.mem_of_mem_drop hu))
 obtain⟨R3,jO⟩:∃R3,R3=(R2.toList.take (i+1)++cs++R2.toList.drop (i+1+cs.length)).toArray:=⟨_,rfl⟩;rw[<-jO]at fr;have fk:(W1.setRow w.heap.size R2).heap[w.heap.size]?=some (.cells R2 97 (0,0)):=setRow_heap W1 _ fm R2 97 (0,0) hN;have yo:∀j,W1.cell? (vA g j)=w.cell? (vA g j):=fun j=>World.cell?_of_block (jM g sR)
 have um:∀j,(W1.setRow w.heap.size R2).cell? (vA g j)=w.cell? (vA g j):=fun j=>by rw[cell_setRow_other _ _ _ _ (by simp;omega)];exact yo j
 have CV:W1.cell? (vA vb 0)=some v:=(World.cell?_of_block (jM vb ox)).trans mO;have aM:R3.size=G/\R3.toList.take (n+1)=xs.take i++v::xs.drop i:=by
  refine⟨by rw[jO];simp[aY,mi];omega,?_⟩
  have ey:(xs.take i).length=i:=by simp;omega
  have e1:R2.toList=xs.take i++v::fm.toList.drop (i+1):=by rw[eh,nK];simp
  have e2:R2.toList.take (i+1)=xs.take i++[v]:=by
   rw[e1,List.take_append,ey,show i+1-i=1 by omega,xrd (by omega)];simp
  rw[jO,List.toList_toArray,e2,dE];rw[show xs.take i++[v]++xs.drop i=xs.take i++v::xs.drop i by simp];rw[List.take_append_of_le_length (by simp;omega),xrd (by simp;omega)]
 have d_:=oQ;unfold maxLen at d_;have I5:¬(G=i):=by omega
 have Cn:¬(G=i+1):=by omega
 have qy:¬(c=i):=by omega
 have bX:IntKind.i64.wrap ((i:Int)+1)=(i:Int)+1:=by rw[IntKind.wrap_i64];omega
 have aa:(0:Int)<=(i:Int)+1:=by omega
 have cH:i<=n:=by omega
 have wS:((i:Int)+1).toNat=i+1:=by omega
 have ax:(i:Int)<=(n:Int):=by omega
 have si:Hid (xs=aD.toList.take n):=lL;have BC:Hid (W1=w.drew.alloc (.cells fm 97)):=eH;have bU:Hid (R3.size=G/\R3.toList.take (n+1)=xs.take i++v::xs.drop i):=aM;have B0:Hid (∀k,k<w.heap.size->W1.heap[k]?=w.heap[k]?):=jM;have CT:=eP W1 hN CV;have CU:=fr (W1.setRow w.heap.size R2).drew fk um;clear pF uJ iS jP hG tW nK eh jO eI dE aY lL jD mi eH aM yo jM h1 cell
 go_enter func137,ntmps137
 go_wp2_with (at_builtin;refine Lib.wpList_append_run _ rfl _ _ _ _ rfl _ _ rfl rfl _ _ (zo _) ?_)
 go_region
 go_wp2
 go_ret
 refine⟨G,Co,oQ,rfl,⟨R3,setRow_heap (W1.setRow w.heap.size R2).drew _ R2 _ 97 (0,0) fk,bU.out.1,by rw[<-si.out];exact bU.out.2⟩,?_⟩
 refine ph.trans ⟨rfl,rfl,rfl,by simp,fun k hk=>?_⟩
 rw[setRow_other _ _ _ _ (by omega)]
 exact setRow_other _ _ _ _ (by omega)
theorem qo0(sl:Value)(n i vb:Nat)(xs:List Value)(v:Value)(w:World)(hn:n<=1000)(hi:i<=n)(dv:v.oneCell'=true)(h1:∀u∈xs,u.oneCell'=true)(av:w.ownsRow 0 97 1 sl n xs)(ed:Blk w vb 97 #[v])(aW:sl.ownBlock≠some vb):
  Cl 137 #[sl,vI i,vS vb 1 1] w fun e w' =>
   ∃eB,e=.returned eB/\w'.ownsRow 0 97 1 eB (n+1) (xs.take i++v::xs.drop i)/\Keep (fun b=>sl.ownBlock=some b) w w'/\(eB.ownBlock=sl.ownBlock\/∃g,eB.ownBlock=some g/\w.heap.size<=g):=by
 have jD:xs.length=n:=by have:=av.1;omega
 rcases Nat.lt_or_ge i n with ak|kF
 ·rcases av.2 with ⟨rfl,rfl⟩|⟨g,cap,aD,rfl,_,hg,nw,jd,dp,ht⟩
  ·omega
  ·simp only[Nat.mul_one]at dp ht;have xD:∀u∈aD.toList.take n,u.oneCell'=true:=by rw[ht];exact h1
   by_cases bE:n+1<=cap
   ·refine(qls g n cap i vb aD v w ak bE jd hg dp dv xD ed (fun e=>aW (by rw[e];rfl))).mono ?_
    rintro e w' ⟨rfl,⟨R,hR,Cw,nK⟩,hk⟩
    refine⟨_,rfl,⟨by simp;omega,.inr ⟨g,cap,R,rfl,Nat.zero_le _,hR,bE,jd,by omega,by rw[Nat.mul_one,nK,ht]⟩⟩,hk.mono (fun b hb=>by rw[hb];rfl),.inl rfl⟩
   ·refine(qnb g n cap i vb aD v w ak hn nw (by omega) hg dp dv xD ed).mono ?_
    rintro e w' ⟨G,qv,mf,rfl,⟨R,hR,Cw,nK⟩,hb⟩
    refine⟨_,rfl,⟨by simp;omega,.inr ⟨w.heap.size,G,R,rfl,Nat.zero_le _,hR,qv,mf,by omega,by rw[Nat.mul_one,nK,ht]⟩⟩,Keep.new hb,.inr ⟨w.heap.size,rfl,Nat.le_refl _⟩⟩
 ·obtain rfl:i=n:=by omega
  refine(qpm sl i vb xs v w hn dv av ed).mono ?_
  rintro e w' ⟨eB,rfl,dI,dj,dH⟩
  refine⟨eB,rfl,?_,(Keep.refl _ _).grown dj (fun k h=>h),dH⟩
  rw[xrd (by omega),List.drop_of_length_le (by omega)];exact dI
def Node.qif(p:Node)(at_ q:Nat)(sl:Value):Node:={p with sl:=sl,kids:=p.kids.take at_++q::p.kids.drop at_}
structure qf7 (nodes:List Node) (p:Node) (q:Nat) (nm:Bs) (leaf:Bool) (a b c d:Int) (w w':World) (ks:List Node) (at_:Nat) (sl:Value):Prop where
 kids:p.kids=ks.map (·.blk)
 mem:∀k,k∈ks↔(k∈nodes/\∃x,k.key=p.key++[x])
 sort:(ks.map fun k=>qbv k.key).Pairwise fun a b=>cmpB a b<0
 found:Found (ks.map fun k=>qbv k.key) nm at_ false
 par:qan w' (p.qif at_ q sl)
 new:qan w' {blk:=q,key:=p.key++[nm],leaf:=leaf,n0:=a,n1:=b,b0:=c,b1:=d,up:=some p.blk,sl:=v0_,kids:=[]}
 keep:Keep (fun x=>x=p.blk\/x=q\/p.sl.ownBlock=some x) w w'
 own:sl.ownBlock=p.sl.ownBlock\/∃g,sl.ownBlock=some g/\w.heap.size<=g
theorem qsj(T:Tree nodes)(w:World)(hN:∀n∈nodes,qan w n){p:Node}(hp:p∈nodes)(q:Nat)(nm:Bs)(fl:qbd nm=true)(a7:∀n∈nodes,n.key≠p.key++[nm])
  (leaf:Bool) (a b c d:Int) (hq:Blk w q 136 #[.string ⟨#[]⟩,.bool leaf,.int .i64 a,.int .i64 b,.int .i64 c,.int .i64 d,.pointer none,.slice none 0 0])
  (fe:q≠p.blk) (vg:p.sl.ownBlock≠some q) (jB:p.sl.ownBlock≠some p.blk) :
  Calls prog 82 #[nptr p.blk,.string (sb nm),nptr q] w fun e w'=>e=.returned (.tuple #[])/\∃ks at_ sl,qf7 nodes p q nm leaf a b c d w w' ks at_ sl:=by
 have cR:=(qja T hN hp (sb nm)).mono (R':=fun e w'=>(∃(ks:List Node) (at_:Nat),e=.returned (.tuple #[.int .i64 at_,.bool false])/\p.kids=ks.map (·.blk)/\(∀k,k∈ks↔(k∈nodes/\∃x,k.key=p.key++[x]))/\(ks.map fun k=>qbv k.key).Pairwise (fun a b=>cmpB a b<0)/\Found (ks.map fun k=>qbv k.key) nm at_ false)/\w=w') (by
  rintro e w' ⟨⟨ks,hk,hm,hs,at_,th,rfl,hF⟩,rfl⟩
  rw[qbi]at hF
  cases th with
  |false=>exact⟨⟨ks,at_,rfl,hk,hm,hs,hF⟩,rfl⟩
  |true =>
   exfalso
   have h1:=hF.2.2.2.1 rfl;simp only[xrs,Option.map_eq_some_iff]at h1;obtain⟨k,c_,bM⟩:=h1;obtain⟨je,y,hy⟩:=(hm k).1 (xr2 c_);rw[hy,qdc]at bM;subst bM
   exact a7 k je hy)
 have aY:=fun W=>qjx (sb nm) W (by rw[qd3];have:=(qea fl).2;omega)
 have hP:=hN p hp;have fN:=hP.lt;have mL:=hq.lt;unfold nptr at cR ⊢
 go_enter func82,ntmps82
 go_wp2_with (first
  |(go_at_call 104;refine cR.mono ?_;rintro e w1 ⟨⟨ks,at_,rfl,hk,hm,hs,hF⟩,bX⟩;subst bX)
  |(go_at_call 129;refine(aY _).mono ?_;rintro e w1 ⟨rfl,aa⟩;have gO:=hq.below aa mL;have q0:=gO.cell 0;have q6:=gO.cell 6;have r0:=gO.frozen 0;have r6:=gO.frozen 6;have mg:=hP.below aa;have p7:w1.cell? ⟨p.blk,7,none⟩=some p.sl:=mg.cell rfl;have Lb:=mg.frozen 7))
 have j9:p.kids.length=ks.length:=by rw[hk];simp
 have yR:ks.length<=1000:=by
  have aF:(ks.map (·.key)).Nodup:=by
   have:(ks.map fun k=>qbv k.key).Nodup:=hs.imp (fun {a b} h e=>by subst e;rw[show cmpB a a=0 from qei a]at h;omega)
   rw[show(ks.map fun k=>qbv k.key)=(ks.map (·.key)).map qbv by simp]at this
   exact qcc this
  have h1:∀x∈ks.map (·.key),x∈nodes.map (·.key):=by
   intro k dz;obtain⟨n,ez,rfl⟩:=xrq.1 dz
   exact xrq.2 ⟨n,((hm n).1 ez).1,rfl⟩
  have h2:=qdg aF h1;have h3:=T.len
  simp at h2;omega
 obtain⟨W2,eI⟩:∃W2,W2=(w1.setCell ⟨q,0,none⟩ (.string (sb nm))).setCell ⟨q,6,none⟩ (.pointer (some ⟨p.blk,0,none⟩)):=⟨_,rfl⟩;have bM:Keep (fun x=>x=q) w1 W2:=by rw[eI];exact((Keep.refl (fun x=>x=q) _).setCell (p:=⟨q,0,none⟩) rfl _).setCell (p:=⟨q,6,none⟩) rfl _
 have vv:W2.heap.size=w1.heap.size:=by rw[eI];simp[World.setCell]
 have ie:Blk W2 q 136 #[.string (sb nm),.bool leaf,.int .i64 a,.int .i64 b,.int .i64 c,.int .i64 d,.pointer (some ⟨p.blk,0,none⟩),.slice none 0 0]:=by
  rw[eI];simpa using (gO.set 0 (.string (sb nm))).set 6 (.pointer (some ⟨p.blk,0,none⟩))
 have tU:=mg.keep bM (fun e=>fe e.symm) (fun g hg e=>vg (by rw[hg,e]));rw[<-eI,<- vv];have ed:Blk (W2.alloc (.cells #[.pointer (some ⟨q,0,none⟩)] 97)) W2.heap.size 97 #[nptr q]:=Blk.new W2 97 _;have jN:=tU.below (W':=W2.alloc (.cells #[.pointer (some ⟨q,0,none⟩)] 97)) ((Below.refl _ _).alloc (Nat.le_refl _) _);have zk:=ie.alloc (.cells #[.pointer (some ⟨q,0,none⟩)] 97);have dZ:Keep (fun x=>x=q) w1 (W2.alloc (.cells #[.pointer (some ⟨q,0,none⟩)] 97)):=bM.alloc _;have vy:w1.heap.size<=(W2.alloc (.cells #[.pointer (some ⟨q,0,none⟩)] 97)).heap.size:=by simp;omega
 obtain⟨W3,fH⟩:∃W3,W3=W2.alloc (.cells #[.pointer (some ⟨q,0,none⟩)] 97):=⟨_,rfl⟩;rw[<-fH]at ed jN zk dZ vy ⊢;clear eI fH;have au:=jN.row
 refine(qo0 p.sl p.kids.length at_ W2.heap.size (p.kids.map nptr) (nptr q) W3 (by omega) (by have:=hF.1;simp at this;omega) rfl (fun u hu=>by obtain⟨x,_,rfl⟩:=xrq.1 hu;rfl) au ed (fun e=>by have:=(tU.row.lt _ e).2;omega)).mono ?_
 rintro e w4 ⟨eB,rfl,dI,lu,dH⟩
 obtain⟨g,cap,mM⟩:∃g cap,eB=.slice (some ⟨g,0,none⟩) (p.kids.length+1) cap:=by
  rcases dI.2 with ⟨_,h0⟩|⟨g,cap,aD,h,_⟩
  ·omega
  ·exact⟨g,cap,h⟩
 have La:w4.cell? ⟨p.blk,7,none⟩=some p.sl:=(lu.cell (p:=⟨p.blk,7,none⟩) jN.lt jB).trans (jN.cell rfl);have Ev:w4.frozen? ⟨p.blk,7,none⟩=false:=(lu.frozen (p:=⟨p.blk,7,none⟩) jN.lt jB).trans (jN.frozen 7);have xh:Hid (eB=.slice (some ⟨g,0,none⟩) (p.kids.length+1) cap):=mM;rw[mM];have HK:Hid (p.kids=ks.map (·.blk)):=hk;have Bt:Hid (p.kids.length=ks.length):=j9;clear mM hk j9
 go_wp2
 go_end0
 have hk:=HK.out;have j9:=Bt.out;have tV:Blk w4 p.blk 136 p.cells:=(lu.block p.blk jN.lt jB).trans jN.at_
 refine⟨rfl,ks,at_,eB,⟨hk,hm,hs,hF,?_,?_,?_,?_⟩⟩
 ·refine⟨?_,?_⟩
  ·have:=tV.set 7 eB
   rw[<-xh.out]
   refine this.trans ?_
   simp[Node.cells,Node.qif]
  ·have aW:eB.ownBlock≠some p.blk:=by
    rcases dH with h|⟨g',h,fB⟩
    ·rw[h];exact jB
    ·rw[h];intro e;injection e with e;have:=jN.lt;omega
   have h1:=dI.kept (row:=some p.blk) (w':=w4.setCell ⟨p.blk,7,none⟩ (.slice (some ⟨g,0,none⟩) (p.kids.length+1) cap)) ⟨rfl,rfl,rfl,by simp[World.setCell],fun k dz uW=>Below.heap_setCell _ _ _ _ (fun e=>uW (by rw[e]))⟩ (.inr aW);have e1:(p.qif at_ q eB).kids.length=p.kids.length+1:=by
    have:=hF.1;simp[Node.qif]at this ⊢;omega
   have e2:(p.qif at_ q eB).kids.map nptr=(p.kids.map nptr).take at_++nptr q::(p.kids.map nptr).drop at_:=by
    simp[Node.qif]
   rw[e1,e2];exact h1
 ·have ta:¬(p.sl.ownBlock=some q):=vg;have h4:Blk w4 q 136 _:=zk.keep lu ta;have h5:=h4.other ⟨p.blk,7,none⟩ (.slice (some ⟨g,0,none⟩) (p.kids.length+1) cap) fe
  refine⟨?_,xrk _ _ _ _⟩
  refine h5.trans ?_
  simp[Node.cells,qdc,uptr]
 ·have k1:Keep (fun x=>x=p.blk\/x=q\/p.sl.ownBlock=some x) w w1:=Keep.new aa;have k2:=k1.trans (dZ.mono (fun x h=>.inr (.inl h)));have k3:=k2.trans (lu.mono (fun x h=>.inr (.inr h)))
  exact k3.setCell (p:=⟨p.blk,7,none⟩) (.inl rfl) _
 ·rcases dH with h|⟨g',h,fB⟩
  ·exact .inl h
  ·exact .inr ⟨g',h,by have:=aa.size;omega⟩
end
end Go.Proofs.YtphclnolomgjoaaGreatDoor
