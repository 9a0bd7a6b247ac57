import Derived.Test.YtphclnolomgjoaaGreatDoorE01
import Derived.Deep.RegionLaw
import Derived.Lib.AppendZerosOnto
import Derived.Lib.Overlaps
import Derived.Laws.NewBlocks
import Derived.Lib.AppendZeros
import Derived.ArgAppend
import Derived.BigRegion
set_option linter.unusedVariables false
set_option linter.unusedSimpArgs false
set_option maxRecDepth 100000
set_option maxHeartbeats 4000000
namespace Go.Proofs.YtphclnolomgjoaaGreatDoor
open Tryz
section
open Go.RowKit Go.Shelf
variable {a w w':World}
attribute [local go_sem] Oper.semAt_some
def xw (l:List zc):Int:=(l.map (·.n0)).sum
def xv (l:List zc):Int:=(l.map (·.n1)).sum
theorem r6(l:List zc)(x:zc):xw (l++[x])=xw l+x.n0:=by simp[xw]
theorem r7(l:List zc)(x:zc):xv (l++[x])=xv l+x.n1:=by simp[xv]
theorem jS(l:List zc)(h:∀n∈l,0<=n.n0/\n.n0<=1000):0<=xw l/\xw l<=1000*l.length:=by
 induction l with
 |nil=>simp[xw]
 |cons a l d =>
  have b:=d (fun n c=>h n (by simp[c]));have e:=h a s_
  simp[xw]at b ⊢;omega
theorem jT(l:List zc)(h:∀n∈l,0<=n.n1/\n.n1<=1000):0<=xv l/\xv l<=1000*l.length:=by
 induction l with
 |nil=>simp[xv]
 |cons a l d =>
  have b:=d (fun n c=>h n (by simp[c]));have e:=h a s_
  simp[xv]at b ⊢;omega
theorem ZH{za:List zc}{ch:zc->List zc}(K:xy za ch):∀(f:Nat) (n:zc),n∈za->∀k∈dfs ch f n,k∈za:=by
 intro f
 induction f with
 |zero=>intro n b k a;simp[dfs]at a;subst a;exact b
 |succ f e =>
  intro n b k a;simp only[dfs,List.mem_cons,List.mem_flatMap]at a
  rcases a with rfl|⟨c,d,a⟩
  ·exact b
  ·exact e c ((K.mem n b c).1 d).1 k a
theorem sJ{za:List zc}(T:zr za){ch:zc->List zc}(K:xy za ch){r:zc}(J:r∈za)(z:(dfs ch 4 r).length<=100)(bt:Nat)(w:World)(s:∀n∈za,UA w n)(ht:w.cell? (vA bt 0)=some (zi r.ze)):
  Calls prog 182 #[vP bt] w fun e w'=>e=vR (.bool (decide (20<=(dfs ch 4 r).length)))/\Bw w w':=by
 have C:∀k:Nat,Fence.wide.depth.isSome=true->1<=k:=fun k h=>by simp[Fence.wide]at h
 have M:=VE w _ ht;have m:∀W,(∀n∈za,UA W n)->_:=fun W d=>ZG T K J W d
 generalize Q:dfs ch 4 r=X at m z ⊢
 refine(UK (n:=3)).1 ?_
 refine callsIn_of_wp_marks func182 rfl trivial ?_ rfl
 unfold zi at ht;simp only[ntmps182,zC,Nat.reduceAdd,Nat.reduceSub];unfold zi at m
 gi_wp2_with ((first|refine⟨trivial,C _,?_⟩|refine⟨trivial,?_⟩);gi_at_call 101;refine(UK.2 (m _ (fun n I=>(s n I).below (by(repeat (first|exact Below.refl _ _|refine s5 ?_ (by assumption)|refine Below.setCell ?_ g_ _|refine Below.alloc ?_ g_ _|refine Below.drew ?_|refine UT ?_ _)))))).mono ?_;rintro e W ⟨rfl,rfl,o⟩)
 obtain⟨W,d⟩:∃W,W=(w.alloc (.cells #[vI 0] 3)).alloc (.cells #[vP r.ze] 97):=⟨_,rfl⟩;have N:W.heap.size=w.heap.size+2:=by rw[d];simp
 have u:(w.alloc (.cells #[vI 0] 3)).heap.size=w.heap.size+1:=s_;have y:zz W w.heap.size 3 (vI 0):=by rw[d];exact(zz.new w 3 _).alloc _
 have D:Bw w W:=by rw[d];(repeat (first|exact Below.refl _ _|refine s5 ?_ (by assumption)|refine Below.setCell ?_ g_ _|refine Below.alloc ?_ g_ _|refine Below.drew ?_|refine UT ?_ _))
 rw[u]at o;simp only[<-d]at o ⊢;have hq:=o (fun b=>b=w.heap.size\/W.heap.size<=b) (fun k f=>⟨fun h=>by have:=(s k f).lt;omega,fun g H h=>by have:=((s k f).row.lt g H).2;omega⟩);clear o m u d
 refine XQ (T:=fun b=>b=w.heap.size) (S:=fun _=>False) rfl (enters_of func149 k_ rfl) hq (Below.refl _ _) rfl (fun b h=>h.elim) (fun b h=>by omega)
  (fun pre A=>zz A w.heap.size 3 (vI pre.length)/\Bw w A)
  (fun c pre A=>False)
  (fun pre A B j f=>⟨j.1.zf f (fun h=>by rcases h with h|h;exact h;omega),j.2.trans (f.ya j.2.size (fun b L h=>by rcases h with h|h;exact h;omega))⟩)
  (fun c pre A B j f=>j)
  ⟨y,D⟩
  (fun x=>{tmps:=#[vP bt,undef,.bool false,vP w.heap.size,vP bt,vP bt,vP bt,vP r.ze,
   .func (.func 149) #[] #[vP (w.heap.size+1)],vP x.ze,undef,undef,undef,undef],defers:=[]}) ?assign ?body ?done ?stop
 case assign =>
  intro l x W K F
  gi_wp2
  simpa using F
 case body =>
  rintro l pre x a ⟨i,q⟩ P v
  have G:=i.cell;have R:=i.frozen;have O:pre.length<X.length:=by have:=v.length_le;simp at this;omega
  gi_wp2
  refine⟨(zd.refl (fun b=>b=w.heap.size) _).setCell (p:=vA w.heap.size 0) rfl _,?_,q.setCell (Nat.le_refl _) _⟩
  have:=i.set (vI ((pre.length:Int)+1))
  simpa using this
 case done =>
  rintro A ⟨i,q⟩ E
  have G:=i.cell
  gi_wp2
  refine⟨s_,.inl ⟨_,_,rfl,run_takeDeferred E,?_⟩⟩
  refine⟨.bool (decide (20<=(X.length:Int))),results_tmp (t:=2) rfl _ _ _,VP (by simp only[decide_eq_decide];omega),Wn q _ _ o_⟩
 case stop =>
  rintro c pre A _ h _
  exact h.elim
theorem kX(h:Bw w a)(hb:Below a.drew.heap.size a.drew w'):Bw w w':=s5 h.drew hb
theorem nV{za:List zc}(T:zr za){ch:zc->List zc}(K:xy za ch){n:zc}(u:n∈za)(L:(dfs ch 4 n).length<=90)(w:World)(t:∀n∈za,UA w n):
  Calls prog 85 #[zi n.ze] w fun e w'=>e=vR (.agg #[vI (xw (dfs ch 4 n)),vI (xv (dfs ch 4 n))])/\Bw w w':=by
 have F:∀k:Nat,Fence.wide.depth.isSome=true->1<=k:=fun k h=>by simp[Fence.wide]at h
 have q:∀W,(∀n∈za,UA W n)->_:=fun W m=>ZG T K u W m
 have y:=ZH K 4 n u;generalize ca:dfs ch 4 n=X at q L y ⊢
 refine(UK (n:=3)).1 ?_
 refine callsIn_of_wp_marks func85 rfl trivial ?_ rfl
 unfold zi at q ⊢;simp only[ntmps85,zC,Nat.reduceAdd,Nat.reduceSub]
 gi_wp2_with ((first|refine⟨trivial,F _,?_⟩|refine⟨trivial,?_⟩);gi_at_call 101;refine(UK.2 (q _ (fun n u=>(t n u).below (by(repeat (first|exact Below.refl _ _|refine s5 ?_ (by assumption)|refine Below.setCell ?_ g_ _|refine Below.alloc ?_ g_ _|refine Below.drew ?_|refine UT ?_ _)))))).mono ?_;rintro e W ⟨rfl,rfl,r⟩)
 obtain⟨W,m⟩:∃W,W=((w.alloc (.cells #[vI 0,vI 0] 35)).alloc (.cells #[vI 0,vI 0] 35)).alloc (.cells #[vP n.ze] 97):=⟨_,rfl⟩;have Z:W.heap.size=w.heap.size+3:=by rw[m];simp
 have G:((w.alloc (.cells #[vI 0,vI 0] 35)).alloc (.cells #[vI 0,vI 0] 35)).heap.size=w.heap.size+2:=s_;have i:zg W w.heap.size 35 #[vI 0,vI 0]:=by rw[m];exact((zg.new w 35 _).alloc _).alloc _
 have d:zg W (w.heap.size+1) 35 #[vI 0,vI 0]:=by
  rw[m];have:=zg.new (w.alloc (.cells #[vI 0,vI 0] 35)) 35 #[vI 0,vI 0];rw[Vv]at this;exact this.alloc _
 have M:Bw w W:=by rw[m];(repeat (first|exact Below.refl _ _|refine s5 ?_ (by assumption)|refine Below.setCell ?_ g_ _|refine Below.alloc ?_ g_ _|refine Below.drew ?_|refine UT ?_ _))
 rw[G]at r;simp only[<-m]at r ⊢;have hq:=r (fun b=>b=w.heap.size+1\/W.heap.size<=b) (fun k f=>⟨fun h=>by have:=(t k f).lt;omega,fun g Q h=>by have:=((t k f).row.lt g Q).2;omega⟩);clear r q G m
 refine XQ (T:=fun b=>b=w.heap.size+1) (S:=fun _=>False) rfl (enters_of func149 k_ rfl) hq (Below.refl _ _) rfl (fun b h=>h.elim) (fun b h=>by omega)
  (fun pre A=>zg A (w.heap.size+1) 35 #[vI (xw pre),vI (xv pre)]/\zg A w.heap.size 35 #[vI 0,vI 0]/\Bw w A)
  (fun c pre A=>False)
  (fun pre A B o f=>⟨o.1.zf f (fun h=>by rcases h with h|h;exact h;omega),o.2.1.zf f (fun h=>by rcases h with h|h;exact h;omega),o.2.2.trans (f.ya o.2.2.size (fun b V h=>by rcases h with h|h;exact h;omega))⟩)
  (fun c pre A B o f=>o)
  ⟨d,i,M⟩
  (fun x=>{tmps:=#[vP n.ze,undef,vP w.heap.size,vP (w.heap.size+1),vP x.ze,vP n.ze,
   .func (.func 149) #[] #[vP (w.heap.size+2)],vP x.ze,undef,undef,undef,undef,undef,undef,undef],defers:=[]}) ?assign ?body ?done ?stop
 case assign =>
  intro l x W K C
  gi_wp2
  exact C
 case body =>
  rintro l pre x a ⟨d,i,s⟩ ba v
  have z:x∈za:=y x (v.subset s_);have H:∀k∈pre,k∈za:=fun k f=>y k (v.subset (by simp[f]))
  have aa:pre.length<90:=by have:=v.length_le;simp at this;omega
  have s0:=jS pre (fun k f=>(T.zm k (H k f)).1);have ga:=jT pre (fun k f=>(T.zm k (H k f)).2.1);have ia:=(T.zm x z).1;have ja:=(T.zm x z).2.1;have D:=(t x z).below s;have c2:a.cell? (vA x.ze 2)=some (vI x.n0):=D.cell rfl;have Y:a.cell? (vA x.ze 3)=some (vI x.n1):=D.cell rfl;have d0:=d.cell 0;have d1:=d.cell 1;have I:=d.frozen 0;have J:=d.frozen 1;simp only[s7]at d0 d1;have U:=fun W=>Z_ (xw pre) (xv pre) x.n0 x.n1 W o_ o_ o_ o_ o_ o_ o_ o_
  have ha:prog.follows .mixedOrders=true:=k_
  gi_wp2
  gi_region_with_o ((first|refine⟨trivial,F _,?_⟩|refine⟨trivial,?_⟩|skip);gi_at_call 139;refine(CallsIn.inRound l (UK.2 (U _))).mono ?_;rintro e w' ⟨rfl,j⟩;have g0:=(j.cell (p:=vA (w.heap.size+1) 0) d.lt).trans d0;have g1:=(j.cell (p:=vA (w.heap.size+1) 1) d.lt).trans d1;have da:=(j.frozen (p:=vA (w.heap.size+1) 0) d.lt).trans I;have ea:=(j.frozen (p:=vA (w.heap.size+1) 1) d.lt).trans J)
  all_goals gi_wp2
  all_goals
   have C:zd (fun b=>b=w.heap.size+1) a w':=(zd.refl _ a).drew.trans (zd.new j)
   refine⟨(C.setCell (p:=vA (w.heap.size+1) 0) rfl _).setCell (p:=vA (w.heap.size+1) 1) rfl _,?_,?_,?_⟩
   ·have:=((d.drew.below j d.lt).set 0 (vI (xw pre+x.n0))).set 1 (vI (xv pre+x.n1))
    rw[r6,r7]
    simpa using this
   ·exact(((i.drew.below j i.lt).other _ _ s_).other _ _ s_)
   ·exact((kX s j).setCell s_ _).setCell s_ _
 case done =>
  rintro A ⟨d,i,s⟩ P
  have d0:=d.cell 0;have d1:=d.cell 1;have N:=i.cell 0;have O:=i.cell 1;have I:=i.frozen 0;have J:=i.frozen 1;simp only[s7]at d0 d1 N O
  gi_wp2
  have E:zg ((A.setCell (vA w.heap.size 0) (vI (xw X))).setCell (vA w.heap.size 1) (vI (xv X))) w.heap.size 35 #[vI (xw X),vI (xv X)]:=by
   simpa using (i.set 0 (vI (xw X))).set 1 (vI (xv X))
  have R:((A.setCell (vA w.heap.size 0) (vI (xw X))).setCell (vA w.heap.size 1) (vI (xv X))).heap[W.heap.size]?=some (.deferred (some [])):=by
   rw[Below.heap_setCell _ _ _ _ t_,Below.heap_setCell _ _ _ _ t_];exact P
  have c0:=(E.put W.heap.size (.deferred none) o_).cell 0;have c1:=(E.put W.heap.size (.deferred none) o_).cell 1;simp only[s7]at c0 c1
  refine⟨s_,.inl ⟨_,_,rfl,run_takeDeferred R,?_⟩⟩
  refine⟨.agg #[vI (xw X),vI (xv X)],by simp[results,results104,go_sem,c0,c1],rfl,Wn ((s.setCell (Nat.le_refl _) _).setCell (Nat.le_refl _) _) _ _ o_⟩
 case stop =>
  rintro c pre A _ h _
  exact h.elim
end
section
open Go.RowKit
variable {l':List Int}{P:Program}{v f a c v3:Value}{W W' w w':World}{k:List Bs}{e l:TypeId}{b br bytes cap i j n size:Nat}{xs:List Value}{vs:Array Value}{T:Nat->Prop}
theorem fJ{α : Type}:∀ {l l':List α},l.Nodup->l'.Nodup->(∀x,x∈l↔x∈l')->l.Perm l':=by
 intro l
 induction l with
 |nil =>
  intro l' _ _ h
  have:l'=[]:=List.eq_nil_iff_forall_not_mem.2 (fun x c=>by simpa using (h x).2 c)
  subst this;exact List.Perm.refl _
 |cons a l k =>
  intro l' d e h;obtain⟨h3,f⟩:=List.nodup_cons.1 d;obtain⟨s,t,rfl⟩:=List.append_of_mem ((h a).1 s_);have hp:(s++a::t).Perm (a::(s++t)):=List.perm_middle;have g:=hp.nodup_iff.1 e;obtain⟨i,j⟩:=List.nodup_cons.1 g
  refine List.Perm.trans (List.Perm.cons a (k f j (fun x=>?_))) hp.symm
  constructor
  ·intro c
   have:=(h x).1 (by simp[c])
   simp only[UU,List.mem_cons]at this ⊢
   rcases this with b|rfl|b
   ·exact .inl b
   ·exact absurd c h3
   ·exact .inr b
  ·intro c
   have:=(h x).2 (by simp only[UU,List.mem_cons]at c ⊢;rcases c with b|b;exact .inl b;exact .inr (.inr b))
   rcases List.mem_cons.1 this with rfl|b
   ·exact absurd c i
   ·exact b
theorem ag{za:List zc}(T:zr za){ch:zc->List zc}(K:xy za ch):∀(f:Nat) (n:zc),n∈za->4<=n.zb.length+f->∀m,m∈dfs ch f n↔(m∈za/\n.zb <+: m.zb):=by
 intro f
 induction f with
 |zero =>
  intro n b j m;simp only[dfs,List.mem_singleton]
  constructor
  ·rintro rfl;exact⟨b,List.prefix_refl _⟩
  ·rintro⟨a,hp⟩
   have p:=(T.ok m a).2;have q:=hp.length_le
   exact T.inj m a n b (hp.eq_of_length o_).symm
 |succ f i =>
  intro n b j m;simp only[dfs,List.mem_cons,List.mem_flatMap]
  constructor
  ·rintro(rfl|⟨c,d,a⟩)
   ·exact⟨b,List.prefix_refl _⟩
   ·obtain⟨o,x,h⟩:=(K.mem n b c).1 d;obtain⟨k,l⟩:=(i c o (by rw[h];simp;omega) m).1 a
    exact⟨k,List.IsPrefix.trans ⟨[x],h.symm⟩ l⟩
  ·rintro⟨a,r,g⟩
   cases r with
   |nil=>exact .inl (T.inj m a n b (j_ g.symm))
   |cons x r =>
    right
    obtain⟨c,d,e⟩:=T.pre r (n.zb++[x]) m a (by rw[<-g];simp)
    exact⟨c,(K.mem n b c).2 ⟨d,x,e⟩,(i c d (by rw[e];simp;omega) m).2 ⟨a,r,by rw[e,<- g];simp⟩⟩
theorem qT{za:List zc}(T:zr za){ch:zc->List zc}(K:xy za ch):∀(f:Nat) (n:zc),n∈za->4<=n.zb.length+f->(dfs ch f n).Nodup:=by
 intro f
 induction f with
 |zero=>intro n o D;simp[dfs]
 |succ f H =>
  intro n o D;have t:∀c∈ch n,c∈za/\∃x,c.zb=n.zb++[x]:=fun c i=>(K.mem n o c).1 i
  simp only[dfs]
  refine List.nodup_cons.2 ⟨?_,?_⟩
  ·intro h;obtain⟨c,i,F⟩:=List.mem_flatMap.1 h;obtain⟨l,x,g⟩:=t c i;obtain⟨_,hp⟩:=(ag T K f c l (by rw[g];simp;omega) n).1 F
   have:=hp.length_le
   rw[g]at this;simp at this;omega
  ·have p:=K.sort n o;rw[List.pairwise_map]at p;have j:∀c∈ch n,c∈za/\4<=c.zb.length+f/\∃x,c.zb=n.zb++[x]:=fun c i=>by
    obtain⟨m,x,g⟩:=t c i
    exact⟨m,by rw[g];simp;omega,x,g⟩
   generalize ch n=q at p j
   induction q with
   |nil=>simp
   |cons c q ih2 =>
    obtain⟨m,B⟩:=List.pairwise_cons.1 p;obtain⟨l,s,x,g⟩:=j c s_;rw[List.flatMap_cons]
    refine List.nodup_append.2 ⟨H c l s,ih2 B (fun k w=>j k (by simp[w])),?_⟩
    intro a C b hb e;subst e;obtain⟨d,r,I⟩:=List.mem_flatMap.1 hb;obtain⟨u,v,y,G⟩:=j d (by simp[r]);have J:=((ag T K f c l s a).1 C).2;have L:=((ag T K f d u v a).1 I).2;have E:c.zb.length=d.zb.length:=by rw[g,G];simp
    have:c.zb=d.zb:=by
     obtain⟨M,z⟩:=J;obtain⟨N,A⟩:=L
     exact(List.append_inj (z.trans A.symm) E).1
    have h3:=m d r;rw[this,show yn (mN d.zb) (mN d.zb)=0 from XL _]at h3
    omega
theorem Y2{za:List zc}(T:zr za){ch:zc->List zc}(K:xy za ch)(b:za.Nodup){n:zc}(a:n∈za):
  (dfs ch 4 n).Perm (za.filter fun m=>n.zb.isPrefixOf m.zb):=by
 refine fJ (qT T K 4 n a o_) (b.filter _) (fun x=>?_)
 rw[ag T K 4 n a o_,Vu,WK]
theorem zr.nd{za:List zc}(T:zr za):za.Nodup:=Yz T.nodup
theorem rX{za:List zc}(T:zr za){ch:zc->List zc}(K:xy za ch){r:zc}(b:r∈za)(a:r.zb=[]):(dfs ch 4 r).length=za.length:=by
 have:=(Y2 T K T.nd b).length_eq
 rw[this,a];simp
theorem an{za:List zc}(T:zr za){ch:zc->List zc}(K:xy za ch){n:zc}(a:n∈za):(dfs ch 4 n).length<=20:=by
 have:=(Y2 T K T.nd a).length_eq
 rw[this];exact Nat.le_trans (Wt _ _) T.len
def under(za:List zc)(k:List Bs):List zc:=za.filter fun m=>k.isPrefixOf m.zb
theorem jn{l:List Int}(h:l.Perm l'):l.sum=l'.sum:=by
 induction h with
 |nil=>rfl
 |cons x _ c=>simp[c]
 |swap x y l=>simp;omega
 |trans _ _ a b=>exact a.trans b
theorem kh{za:List zc}(T:zr za){ch:zc->List zc}(K:xy za ch){n:zc}(a:n∈za):xw (dfs ch 4 n)=xw (under za n.zb):=jn ((Y2 T K T.nd a).map _)
theorem ki{za:List zc}(T:zr za){ch:zc->List zc}(K:xy za ch){n:zc}(a:n∈za):xv (dfs ch 4 n)=xv (under za n.zb):=jn ((Y2 T K T.nd a).map _)
theorem XY(k:List Bs)(h:UL k=true):(kN k).length<=5*k.length:=by
 induction k with
 |nil=>simp[kN]
 |cons a r c =>
  have d:=(Yw (WO h (n:=a) s_)).2;have b:UL r=true:=by simp only[UL,List.all_cons,Bool.and_eq_true]at h;exact h.2
  by_cases e:r=[]
  ·subst e;simp[kN];omega
  ·rw[XV a r e];have:=c b;simp;omega
theorem Z7{za:List zc}(T:zr za):∀(j:Nat) (n:zc),n∈za->n.zb.length=j->∀(w:World),(∀n∈za,UA w n) ->
  Calls prog 47 #[zi n.ze] w fun e w'=>e=vR (vG (sb (kN n.zb)))/\Bw w w':=by
 intro j
 induction j with
 |zero =>
  intro n a c w b;have f:n.zb=[]:=List.eq_nil_of_length_eq_zero c;have C:=T.top n a f;have x:w.cell? (vA n.ze 6)=some (.pointer none):=by have:=(b n a).cell (i:=6) (v:=vd n.up) rfl;rw[C]at this;exact this
  rw[f];unfold zi
  go_enter func47,ntmps47
  go_wp2
  go_ret
  exact⟨rfl,Below.refl _ _⟩
 |succ j D =>
  intro n a c w b;have t:n.zb≠[]:=fun e=>by rw[e]at c;simp at c
  obtain⟨k,nm,d⟩:∃k nm,n.zb=k++[nm]:=⟨_,_,(List.dropLast_concat_getLast t).symm⟩;obtain⟨p,hp,o,G,A⟩:=T.par n a _ _ d;have x:w.cell? (vA n.ze 6)=some (vP p.ze):=by have:=(b n a).cell (i:=6) (v:=vd n.up) rfl;rw[A]at this;exact this
  have c0:=(b n a).name;rw[d,Wm]at c0;have hb:=(b n a).lt;have m:=fun W B=>D p hp (by rw[o];rw[d]at c;simp at c;omega) W B
  unfold zi at m ⊢;have z:=T.ok n a;have l:=T.ok p hp;have y:Vs nm=true:=WO z.1 (by rw[d];simp);have g:=fun W=>sQ (sb (kN p.zb)) (sb nm) W (by rw[Wq];have:=XY _ l.1;omega) (by rw[Wq];have:=(Yw y).2;omega)
  simp only[UO]at g;have s:(if kN p.zb=[] then sb nm else sb (kN p.zb++47::nm))=sb (kN n.zb):=by
   by_cases e:p.zb=[]
   ·rw[if_pos ((aM l.1).2 e),d,<- o,e];simp[kN]
   ·rw[if_neg (fun h=>e ((aM l.1).1 h)),d,<- o,gP _ _ e]
  simp only[s]at g;obtain⟨R,q⟩:∃R,R=sb (kN n.zb):=⟨_,rfl⟩;obtain⟨E,r⟩:∃R,R=sb (kN p.zb):=⟨_,rfl⟩;simp only[<-q,<- r]at g m ⊢;clear s q r
  go_enter func47,ntmps47
  go_wp2
  go_region_with (first|(go_at_call 47;refine(m _ (fun k f=>(b k f).below (by(repeat (first|exact Below.refl _ _|refine s5 ?_ (by assumption)|refine Below.setCell ?_ g_ _|refine Below.alloc ?_ g_ _|refine Below.drew ?_|refine UT ?_ _))))).mono ?_;rintro e H ⟨rfl,u⟩;have d0:=(u.cell (p:=vA n.ze 0) hb).trans c0)|(go_at_call 78;refine(g _).mono ?_;rintro e I ⟨rfl,F⟩))
  all_goals go_wp2
  all_goals go_ret
  all_goals exact⟨rfl,by(repeat (first|exact Below.refl _ _|refine s5 ?_ (by assumption)|refine Below.setCell ?_ g_ _|refine Below.alloc ?_ g_ _|refine Below.drew ?_|refine UT ?_ _))⟩
theorem qv(w:World){o:Oper}{a:Act}{K:Act->World->Prop}{Q:Exit->Act->World->Prop}(d s:Operand)(t l:TypeId)
  (b:o.op=.call {callee:=.builtin .copy,args:=#[d,s],argTypes:=#[t,l]}) (v u:Value) (hd:a.eval d=v) (e:a.eval s=u) 
  (c:(Builtin.copy_ #[t,l] o.type #[v,u]).run P w=.ok f w') (h:K (a.put o.dst f) w'):o.wp P a w K Q:=by
 unfold Oper.wp execOp;simp only[b,resolve,invoke,builtin,Sem.run_bind,Sem.run_pure,Result.andThen_ok,List.map_toArray,List.map_cons,List.map_nil,hd,e,c]
 exact h
theorem fH(w:World){b:Array Oper}{rest:List Oper}{o:Oper}{a:Act}{Q:Exit->Act->World->Prop}(c:o.guard=none)(d s:Operand)(t l:TypeId)
  (g:o.op=.call {callee:=.builtin .copy,args:=#[d,s],argTypes:=#[t,l]}) (v u:Value) (hd:a.eval d=v) (j:a.eval s=u) 
  (i:(Builtin.copy_ #[t,l] o.type #[v,u]).run P w=.ok f w') (h:wpList P b Q rest (a.put o.dst f) w'):wpList P b Q (o::rest) a w :=
 wpList_plain c fun _ e=>qv w d s t l g v u hd j i (e _ _ h)
theorem gj{g:Array Oper}{o:Oper}{a:Act}{K:Act->World->Prop}{Q:Exit->Act->World->Prop}{E:Prop}
  (i:o.guard=none) (d x:Operand) (b c:TypeId) (e:o.op=Op.call {callee:=Callee.builtin Builtin.copy,args:=#[d,x],argTypes:=#[b,c]})
  (v u:Value) (hd:a.eval d=v) (k:a.eval x=u) (j:(Builtin.copy_ #[b,c] o.type #[v,u]).run P w=.ok f w') (h:K (a.put o.dst f) w') :
  if Region.wanted o (yielded g a.tmps)=true then Oper.wp P o a w K Q else E:=by
 rw[if_pos (by simp[Region.wanted,i])];unfold Oper.wp
 simp[execOp,e,resolve,invoke,builtin,hd,k,j,Result.andThen]
 exact h
theorem eP:(prog.info? 97).map (fun i=>(i.zero,i.size,i.bytes))=some (some (.pointer none),1,8):=k_
theorem cm:(prog.info? 97).map (·.size)=some 1:=k_
theorem oT(sl:Value)(n i:Nat)(xs:List Value)(v:Value)(w:World)(U:n<=1000)(G:v.oneCell'=true)(c:w.ownsRow 0 97 1 sl n xs)(M:zg w i 97 #[v]):
  Calls prog 137 #[sl,vI n,vS i 1 1] w fun e w' =>
   ∃s,e=vR s/\w'.ownsRow 0 97 1 s (n+1) (xs++[v])/\w.grownBy w' sl.ownBlock/\(s.ownBlock=sl.ownBlock\/∃g,s.ownBlock=some g/\w.heap.size<=g):=by
 obtain⟨i0,y,I,o,E⟩:=info_parts eP;have K:=M.cell 0;simp only[List.getElem?_toArray,List.getElem?_cons_zero]at K;have r:∀j u,[v][j]?=some u->w.cell? (((vA i 0):Addr).add j)=some u:=fun j u z=>by
  cases j with
  |zero=>simp at z;subst z;exact K
  |succ j=>simp at z
 have zb:∃f w',(∀q,(Builtin.append_ #[134,134] q #[sl,vS i 1 1]).run prog w=.ok f w')/\w'.ownsRow 0 97 1 f (n+1) (xs++[v])/\w.grownBy w' sl.ownBlock/\(f.ownBlock=sl.ownBlock\/∃g,f.ownBlock=some g/\w.heap.size<=g):=by
  have C:∀ {f:Value} {w':World},w'.ownsRow w.heap.size 97 1 f (n+1) (xs++[v])->w'.ownsRow 0 97 1 f (n+1) (xs++[v])/\∃g,f.ownBlock=some g/\w.heap.size<=g:=fun {f w'} h=>by
   obtain⟨t,x⟩:=h
   rcases x with ⟨_,T⟩|⟨g,cap,l,rfl,hb,rest⟩
   ·omega
   ·exact⟨⟨t,.inr ⟨g,cap,l,rfl,Nat.zero_le _,rest⟩⟩,g,rfl,hb⟩
  rcases c.2 with ⟨rfl,rfl⟩|⟨g,cap,l,rfl,_,J,V,R,D,ht⟩
  ·have Q:xs=[]:=List.eq_nil_of_length_eq_zero (j_ c.1);subst Q;obtain⟨f,w',d,m,b,_⟩:=run_append_own (P:=prog) w w.heap.size 134 0 97 i0 _ 1 8 underlying134 y I o E rfl d_ v0_ 0 [] (Vx w _ 97 1) (vA i 0) 1 1 [v] rfl r (by simp[G]) (by unfold maxLen;omega) o_ (Nat.le_refl _);have p:=C (j_ m)
   exact⟨f,w',fun q=>d,p.1,b,.inr p.2⟩
  ·by_cases B:n+1<=cap
   ·have d:=fun q=>run_append_room (P:=prog) w 134 q 97 i0 underlying134 y g n cap l J (vA i 0) 1 1 [v] (by rw[o];rfl) r (by simp[G]) B (by rw[o];simp;omega)
    rw[o]at d;simp only[Nat.mul_one]at d ht D
    refine⟨_,_,d,⟨by simp[c.1],.inr ⟨g,cap,_,rfl,Nat.zero_le _,setRow_heap w g l _ 97 _ J,B,R,?_,?_⟩⟩,⟨rfl,rfl,rfl,s_,fun k _ A=>setRow_other w g k _ (fun e=>A (by simp[Value.ownBlock,e]))⟩,.inl rfl⟩
    ·simp[D];omega
    ·have:xs.length=n:=by simpa using c.1
     rw[Nat.mul_one,List.toList_toArray,ht,List.take_append_of_le_length t_,Vl t_]
   ·obtain⟨f,w',d,m,b⟩:=run_append_arg_grows (P:=prog) w 134 0 97 i0 _ 1 8 underlying134 y I o E rfl d_ (vA g 0) n cap xs c.1 (c.cells (g:=g) rfl) (vA i 0) 1 1 [v] rfl r o_ (by unfold maxLen;omega) o_;have p:=C m
    exact⟨f,w',fun q=>d,p.1,⟨b.os,b.tape,b.output,b.size,fun k A _=>b.block k A s_⟩,.inr p.2⟩
 obtain⟨f,w',L,m,b,H⟩:=zb;obtain⟨ao,cap,O,F⟩:∃ao cap,sl=.slice ao n cap/\n<=cap/\cap<=maxLen:=by
  rcases c.2 with ⟨rfl,rfl⟩|⟨g,cap,l,rfl,_,_,t,x,_⟩
  ·exact⟨none,0,rfl,Nat.le_refl _,Nat.zero_le _⟩
  ·exact⟨_,_,rfl,t,x⟩
 obtain⟨F,N⟩:=F;unfold maxLen at N;subst O;have S:ao=none->n=0/\cap=0:=fun e=>by
  subst e
  rcases c.2 with ⟨h,rfl⟩|⟨g,cap',l,h,_⟩
  ·injection h with _ _ h3;exact⟨rfl,h3⟩
  ·cases h
 clear c r
 go_enter func137,ntmps137
 cases ao with
 |none =>
  obtain⟨rfl,rfl⟩:=S rfl
  go_wp2_with (at_builtin;refine Lib.wpList_append_run _ rfl _ _ _ _ rfl _ _ rfl rfl _ _ (L _) ?_)
  all_goals (go_ret;exact⟨_,rfl,m,b,H⟩)
 |some a =>
  go_wp2_with (at_builtin;refine Lib.wpList_append_run _ rfl _ _ _ _ rfl _ _ rfl rfl _ _ (L _) ?_)
  all_goals (go_ret;exact⟨_,rfl,m,b,H⟩)
theorem m9(g n c i l:Nat)(a:Array Value)(v:Value)(w:World)(la:i<n)(ha:n+1<=c)(U:c<=maxLen)(s:w.heap[g]?=some (.cells a 97 (0,0)))(y:a.size=c)
  (L:v.oneCell'=true) (S:∀u∈a.toList.take n,u.oneCell'=true) (r:zg w l 97 #[v]) (B:l≠g) :
  Calls prog 137 #[vS g n c,vI i,vS l 1 1] w fun e w' =>
   e=vR (vS g (n+1) c)/\(∃R:Array Value,w'.heap[g]?=some (.cells R 97 (0,0))/\R.size=c/\R.toList.take (n+1)=(a.toList.take n).take i++v::(a.toList.take n).drop i)/\zd (fun b=>b=g) w w':=by
 unfold maxLen at U;have ka:¬((i:Int)=(n:Int)):=o_;have P:w.shape? l=some (97,1):=by unfold World.shape?;rw[show w.heap[l]?=_ from r];rfl
 have J:w.shape? g=some (97,c):=by unfold World.shape?;rw[s];simp[y]
 have Z:∀lb x,(callFunc 185 #[vS l 1 1,.slice (some (vA g (i+1))) lb x]).run prog w=.ok (.value (.bool false)) w:=fun lb x=>by
  rw[run_callFunc_extern func185 k_ k_ k_ (e:=Extern.SlicesOverlaps.overlaps #[134,134] #[4]) k_,
   Lib.run_overlaps_apart w 134 4 97 underlying134 1 sizeOf97 (vA l 0) (vA g (i+1)) 1 1 lb x B 97 97 1 c P J o_ (r.frozen 0) (r.frozen 1)]
  rfl
 have cell:∀j u,a[j]?=some u->w.cell? (vA g j)=some u:=fun j u h=>by unfold World.cell?;simp only[s];simpa using h
 obtain⟨f,q⟩:∃f,f=(a.toList.take n).drop i:=⟨_,rfl⟩;have p:f.length=n-i:=by rw[q];simp;omega
 have E:∀o dc z,(Builtin.copy_ #[134,134] o #[.slice (some (vA g (i+1))) (n-i) dc,.slice (some (vA g i)) (n+1-i) z]).run prog w.drew=.ok (goInt f.length) (w.drew.setRow g (a.toList.take (i+1)++f++a.toList.drop (i+1+f.length)).toArray):=fun o dc z =>
  run_copy_row prog w.drew 134 134 o 97 g (i+1) (n-i) dc (vA g i) (n+1-i) z a 97 f underlying134 cm s (by rw[p];simp only[Nat.min_def];split<;>omega)
   (fun j u m=>by
    rw[Addr.add_lit]
    refine cell _ _ ?_
    rw[q,List.getElem?_drop,List.getElem?_take]at m
    split at m
    ·simpa using m
    ·cases m) (by rw[p,y];omega) (fun u G=>S u (by rw[q]at G;exact List.mem_of_mem_drop G))
 obtain⟨d,t⟩:∃d,d=(a.toList.take (i+1)++f++a.toList.drop (i+1+f.length)).toArray:=⟨_,rfl⟩;rw[<-t]at E;have I:d.size=c:=by rw[t];simp[p,y];omega
 have H:(w.drew.setRow g d).heap[g]?=some (.cells d 97 (0,0)):=setRow_heap w.drew g a d 97 (0,0) s;have V:w.cell? (vA l 0)=some v:=by have:=r.cell 0;simpa using this
 have Q:∀(W:World),W.heap[g]?=some (.cells d 97 (0,0))->W.cell? (vA l 0)=some v->∀o dc,(Builtin.copy_ #[134,134] o #[.slice (some (vA g i)) (n+1-i) dc,vS l 1 1]).run prog W=.ok (goInt 1) (W.setRow g (d.toList.take i++[v]++d.toList.drop (i+1)).toArray):=fun W X aa o dc =>
  run_copy_row prog W 134 134 o 97 g i (n+1-i) dc (vA l 0) 1 1 d 97 [v] underlying134 cm X (by simp only[Nat.min_def,List.length_singleton];split<;>omega)
   (fun j u m=>by cases j with|zero=>(simp at m;subst m;exact aa)|succ j=>simp at m) (by rw[I];simp;omega) (by simp[L])
 have T:∀j u,w.cell? (vA l j)=some u->(w.drew.setRow g d).cell? (vA l j)=some u:=fun j u h=>by rw[cell_setRow_other _ _ _ _ B];exact h
 have ia:IntKind.i64.wrap ((i:Int)+1)=(i:Int)+1:=by rw[IntKind.wrap_i64];omega
 have ja:i<=n:=o_;have ba:((i:Int)+1).toNat=i+1:=o_;have da:(0:Int)<=(i:Int)+1:=o_;have ea:¬(c=i+1):=o_;have ga:(i:Int)<=(n:Int)+1:=o_;have ca:¬(c=i):=o_;have K:Hid (f=(a.toList.take n).drop i):=q;have Y:Hid (d=(a.toList.take (i+1)++f++a.toList.drop (i+1+f.length)).toArray):=t;have A:Hid (f.length=n-i):=p;clear q t p
 go_enter func137,ntmps137
 go_wp2_with (simp only[Z])
 go_region_law (refine gj rfl _ _ 134 134 rfl _ _ (by simp[Act.eval,Act.put]) (by simp[Act.eval,Act.put]) (E _ _ _) ?_)
 go_wp2_with (at_builtin;refine fH _ rfl _ _ 134 134 rfl _ _ rfl rfl (Q _ H (T _ _ V) _ _) ?_)
 go_ret
 refine⟨rfl,⟨(d.toList.take i++v::d.toList.drop (i+1)).toArray,setRow_heap _ g d _ 97 (0,0) H,by simp[I];omega,?_⟩,?_⟩
 ·have D:d.toList=a.toList.take (i+1)++f++a.toList.drop (n+1):=by rw[Y.out,A.out,show i+1+(n-i)=n+1 by omega]
  have M:d.toList.take i=a.toList.take i:=by rw[D,List.append_assoc,List.take_append_of_le_length t_,List.take_take,Nat.min_eq_left o_]
  have N:d.toList.drop (i+1)=f++a.toList.drop (n+1):=by rw[D,List.append_assoc,List.drop_append_of_le_length t_,List.drop_of_length_le t_];rfl
  have O:(a.toList.take n).take i=a.toList.take i:=by rw[List.take_take,Nat.min_eq_left o_]
  rw[List.toList_toArray,M,N,O,<- K.out];have C:(a.toList.take i).length=i:=by simp;omega
  rw[show a.toList.take i++v::(f++a.toList.drop (n+1))=(a.toList.take i++v::f)++a.toList.drop (n+1) by simp];rw[List.take_append_of_le_length (by simp[C,A.out];omega),Vl (by simp[C,A.out];omega)]
 ·exact⟨rfl,rfl,rfl,s_,fun k ma F=>by rw[setRow_other _ _ _ _ F,setRow_other _ _ _ _ F];rfl⟩
theorem om(g n c i o:Nat)(q:Array Value)(v:Value)(w:World)(Ua:i<n)(Ra:n<=1000)(Va:n<=c)(ia:c<n+1)(X:w.heap[g]?=some (.cells q 97 (0,0)))(Sa:q.size=c)
  (ja:v.oneCell'=true) (D:∀u∈q.toList.take n,u.oneCell'=true) (Q:zg w o 97 #[v]) :
  Calls prog 137 #[vS g n c,vI i,vS o 1 1] w fun e w' =>
   ∃G,n+1<=G/\G<=maxLen/\e=vR (vS w.heap.size (n+1) G)/\(∃R:Array Value,w'.heap[w.heap.size]?=some (.cells R 97 (0,0))/\R.size=G/\R.toList.take (n+1)=(q.toList.take n).take i++v::(q.toList.take n).drop i)/\Bw w w':=by
 obtain⟨i0,ua,oa,Aa,M⟩:=info_parts eP;obtain⟨xs,t⟩:∃xs,xs=q.toList.take n:=⟨_,rfl⟩;rw[<-t]at D;have qa:xs.length=n:=by rw[t];simp;omega
 have Ta:¬((i:Int)=(n:Int)):=o_;have Wa:(c:Int)<(n:Int)+1:=o_;have Ca:g<w.heap.size:=(Vz.1 X).1;have ta:o<w.heap.size:=Q.lt;have cell:∀j u,xs[j]?=some u->w.cell? (vA g j)=some u:=fun j u h=>by
  unfold World.cell?;simp only[X];rw[t,List.getElem?_take]at h
  split at h
  ·simpa using h
  ·cases h
 have ra:w.cell? (vA o 0)=some v:=by have:=Q.cell 0;simpa using this
 have ba:(n:Int)+1-(i:Int)=((n+1-i:Nat):Int):=o_;have J:i+(n+1-i)=n+1:=o_;have aa:(Builtin.firstCells i0.size i (vS g i c)).run prog w.drew=.ok (xs.take i).toArray w.drew:=by
  rw[Aa]
  exact run_firstCells_some w.drew 1 i (vA g 0) i c (xs.take i) (by rw[List.length_take];omega) (fun j u f=>by
   rw[Addr.add_lit,Nat.zero_add];rw[List.getElem?_take]at f
   split at f
   ·exact cell j u f
   ·cases f)
 obtain⟨G,z⟩:∃G,G=grownCap w (n+1) c 97:=⟨_,rfl⟩;obtain⟨d,C⟩:∃d:Array Value,d=(xs.take i).toArray++Builtin.zeroCells (Value.pointer none).cells (n+1-i)++Builtin.zeroCells (Value.pointer none).cells (G-(n+1)):=⟨_,rfl⟩;have L:∀l,(Builtin.append_ #[134,3] l #[vS g i c,vI ((n:Int)+1-(i:Int))]).run prog w =
   .ok (vS w.heap.size (n+1) G) (w.drew.alloc (.cells d 97)):=fun l=>by
  have h:=Lib.run_append_grow_zeros w 134 3 l 97 i0 _ .i64 .i64 underlying134 underlying3 ua oa (some (vA g 0)) i c (xs.take i) aa (n+1-i) o_ o_ o_ o_ (by rw[M];omega) (by rw[M,J];exact growslice_fits ia o_);rw[J,<- z,<- C]at h;rw[ba]
  exact h
 have ea:n+1<=G:=by rw[z];exact grownCap_ge w _ _ _
 have da:G<=maxLen:=by rw[z];exact grownCap_le_maxLen w (n+1) c 97 (by unfold maxLen;omega)
 have I:d.size=G:=by
  rw[C];simp[Builtin.zeroCells,Value.cells];omega
 have ca:d.toList.take i=xs.take i:=by
  rw[C];simp only[Array.toList_append,List.append_assoc,List.toList_toArray];rw[List.take_append_of_le_length t_,Vl t_]
 obtain⟨b,r⟩:∃b,b=w.drew.alloc (.cells d 97):=⟨_,rfl⟩;rw[<-r]at L;have Fa:b.heap.size=w.heap.size+1:=by rw[r];simp
 have V:b.heap[w.heap.size]?=some (.cells d 97 (0,0)):=by rw[r];exact heap_alloc_new w.drew _
 have A:∀k,k<w.heap.size->b.heap[k]?=w.heap[k]?:=fun k Y=>by rw[r];exact Below.heap_alloc w.drew _ k Y
 have sa:Bw w b:=by rw[r];exact(Below.refl _ w).drew.alloc (Nat.le_refl _) _
 have S:∀(W:World),W.heap[w.heap.size]?=some (.cells d 97 (0,0))->W.cell? (vA o 0)=some v->∀l dc,(Builtin.copy_ #[134,134] l #[.slice (some (vA w.heap.size i)) (n+1-i) dc,vS o 1 1]).run prog W=.ok (goInt 1) (W.setRow w.heap.size (d.toList.take i++[v]++d.toList.drop (i+1)).toArray):=fun W F Da l dc =>
  run_copy_row prog W 134 134 l 97 w.heap.size i (n+1-i) dc (vA o 0) 1 1 d 97 [v] underlying134 cm F (by simp only[Nat.min_def,List.length_singleton];split<;>omega)
   (fun j u f=>by cases j with|zero=>(simp at f;subst f;exact Da)|succ j=>simp at f) (by rw[I];simp;omega) (by simp[ja])
 obtain⟨a,y⟩:∃a,a=(d.toList.take i++[v]++d.toList.drop (i+1)).toArray:=⟨_,rfl⟩;rw[<-y]at S;have E:a.size=G:=by rw[y];simp[I];omega
 obtain⟨N,pa⟩:∃N,N=b.setRow w.heap.size a:=⟨_,rfl⟩;obtain⟨m,s⟩:∃m,m=xs.drop i:=⟨_,rfl⟩;have x:m.length=n-i:=by rw[s];simp;omega
 have U:∀(W:World),W.heap[w.heap.size]?=some (.cells a 97 (0,0))->(∀j,W.cell? (vA g j)=w.cell? (vA g j))->∀l dc H,(Builtin.copy_ #[134,134] l #[.slice (some (vA w.heap.size (i+1))) (n-i) dc,.slice (some (vA g i)) (n-i) H]).run prog W=.ok (goInt m.length) (W.setRow w.heap.size (a.toList.take (i+1)++m++a.toList.drop (i+1+m.length)).toArray):=fun W F ga l dc H =>
  run_copy_row prog W 134 134 l 97 w.heap.size (i+1) (n-i) dc (vA g i) (n-i) H a 97 m underlying134 cm F (by rw[x];simp)
   (fun j u f=>by
    rw[Addr.add_lit,ga];rw[s,List.getElem?_drop]at f
    exact cell _ _ f) (by rw[x,E];omega) (fun u Z=>D u (by rw[s]at Z;exact List.mem_of_mem_drop Z))
 obtain⟨p,B⟩:∃p,p=(a.toList.take (i+1)++m++a.toList.drop (i+1+m.length)).toArray:=⟨_,rfl⟩;rw[<-B]at U;have T:(b.setRow w.heap.size a).heap[w.heap.size]?=some (.cells a 97 (0,0)):=setRow_heap b _ d a 97 (0,0) V;have K:∀j,b.cell? (vA g j)=w.cell? (vA g j):=fun j=>World.cell?_of_block (A g Ca)
 have Ea:∀j,(b.setRow w.heap.size a).cell? (vA g j)=w.cell? (vA g j):=fun j=>by rw[cell_setRow_other _ _ _ _ t_];exact K j
 have ha:b.cell? (vA o 0)=some v:=(World.cell?_of_block (A o ta)).trans ra;have O:p.size=G/\p.toList.take (n+1)=xs.take i++v::xs.drop i:=by
  refine⟨by rw[B];simp[x,E];omega,?_⟩
  have ma:(xs.take i).length=i:=by simp;omega
  have ka:a.toList=xs.take i++v::d.toList.drop (i+1):=by rw[y,ca];simp
  have la:a.toList.take (i+1)=xs.take i++[v]:=by
   rw[ka,List.take_append,ma,show i+1-i=1 by omega,Vl o_];simp
  rw[B,List.toList_toArray,la,s];rw[show xs.take i++[v]++xs.drop i=xs.take i++v::xs.drop i by simp];rw[List.take_append_of_le_length t_,Vl t_]
 have na:=da;unfold maxLen at na;have Ma:¬(G=i):=o_;have Ia:¬(G=i+1):=o_;have Xa:¬(c=i):=o_;have Pa:IntKind.i64.wrap ((i:Int)+1)=(i:Int)+1:=by rw[IntKind.wrap_i64];omega
 have Na:(0:Int)<=(i:Int)+1:=o_;have Qa:i<=n:=o_;have Ga:((i:Int)+1).toNat=i+1:=o_;have Oa:(i:Int)<=(n:Int):=o_;have Ba:Hid (xs=q.toList.take n):=t;have Ja:Hid (b=w.drew.alloc (.cells d 97)):=r;have P:Hid (p.size=G/\p.toList.take (n+1)=xs.take i++v::xs.drop i):=O;have Ha:Hid (∀k,k<w.heap.size->b.heap[k]?=w.heap[k]?):=A;have Ka:=S b V ha;have La:=U (b.setRow w.heap.size a).drew T Ea;clear ba J aa C z I ca y B pa s x t qa E r O K A D cell
 go_enter func137,ntmps137
 go_wp2_with (at_builtin;refine Lib.wpList_append_run _ rfl _ _ _ _ rfl _ _ rfl rfl _ _ (L _) ?_)
 go_region
 go_wp2
 go_ret
 refine⟨G,ea,da,rfl,⟨p,setRow_heap (b.setRow w.heap.size a).drew _ a _ 97 (0,0) T,P.out.1,by rw[<-Ba.out];exact P.out.2⟩,?_⟩
 refine sa.trans ⟨rfl,rfl,rfl,s_,fun k Y=>?_⟩
 rw[setRow_other _ _ _ _ o_]
 exact setRow_other _ _ _ _ o_
theorem gO(sl:Value)(n i c:Nat)(xs:List Value)(v:Value)(w:World)(x:n<=1000)(K:i<=n)(l:v.oneCell'=true)(E:∀u∈xs,u.oneCell'=true)(f:w.ownsRow 0 97 1 sl n xs)(m:zg w c 97 #[v])(A:sl.ownBlock≠some c):
  Calls prog 137 #[sl,vI i,vS c 1 1] w fun e w' =>
   ∃a,e=vR a/\w'.ownsRow 0 97 1 a (n+1) (xs.take i++v::xs.drop i)/\zd (fun b=>sl.ownBlock=some b) w w'/\(a.ownBlock=sl.ownBlock\/∃g,a.ownBlock=some g/\w.heap.size<=g):=by
 have M:xs.length=n:=by have:=f.1;omega
 rcases Nat.lt_or_ge i n with r|L
 ·rcases f.2 with ⟨rfl,rfl⟩|⟨g,cap,d,rfl,_,t,I,y,j,ht⟩
  ·omega
  ·simp only[Nat.mul_one]at j ht;have q:∀u∈d.toList.take n,u.oneCell'=true:=by rw[ht];exact E
   by_cases s:n+1<=cap
   ·refine(m9 g n cap i c d v w r s y t j l q m (fun e=>A (by rw[e];rfl))).mono ?_
    rintro e w' ⟨rfl,⟨R,o,z,p⟩,F⟩
    refine⟨_,rfl,⟨by simp;omega,.inr ⟨g,cap,R,rfl,Nat.zero_le _,o,s,y,o_,by rw[Nat.mul_one,p,ht]⟩⟩,F.mono (fun b hb=>by rw[hb];rfl),.inl rfl⟩
   ·refine(om g n cap i c d v w r x I o_ t j l q m).mono ?_
    rintro e w' ⟨G,J,H,rfl,⟨R,o,z,p⟩,hb⟩
    refine⟨_,rfl,⟨by simp;omega,.inr ⟨w.heap.size,G,R,rfl,Nat.zero_le _,o,J,H,o_,by rw[Nat.mul_one,p,ht]⟩⟩,zd.new hb,.inr ⟨w.heap.size,rfl,Nat.le_refl _⟩⟩
 ·obtain rfl:i=n:=o_
  refine(oT sl i c xs v w x l f m).mono ?_
  rintro e w' ⟨a,rfl,D,C,B⟩
  refine⟨a,rfl,?_,(zd.refl _ _).grown C (fun k h=>h),B⟩
  rw[Vl o_,List.drop_of_length_le o_];exact D
theorem zg.eq(W:World)(b:Nat)(t:TypeId)(vs vs':Array Value)(h:zg W b t vs)(e:vs=vs'):zg W b t vs':=e ▸ h
def zc.Wl(p:zc)(zl q:Nat)(sl:Value):zc:={p with sl:=sl,zv:=p.zv.take zl++q::p.zv.drop zl}
structure Z4 (za:List zc) (p:zc) (q:Nat) (nm:Bs) (zj:Bool) (a b c d:Int) (w w':World) (ks:List zc) (zl:Nat) (sl:Value):Prop where
 zv:p.zv=ks.map (·.ze)
 mem:∀k,k∈ks↔(k∈za/\∃x,k.zb=p.zb++[x])
 sort:(ks.map fun k=>mN k.zb).Pairwise fun a b=>yn a b<0
 found:wm (ks.map fun k=>mN k.zb) nm zl false
 par:UA w' (p.Wl zl q sl)
 new:UA w' {ze:=q,zb:=p.zb++[nm],zj:=zj,n0:=a,n1:=b,b0:=c,b1:=d,up:=some p.ze,sl:=v0_,zv:=[]}
 zf:zd (fun x=>x=p.ze\/x=q\/p.sl.ownBlock=some x) w w'
 own:sl.ownBlock=p.sl.ownBlock\/∃g,sl.ownBlock=some g/\w.heap.size<=g
theorem q6{za:List zc}(T:zr za)(w:World)(hN:∀n∈za,UA w n){p:zc}(hp:p∈za)(q:Nat)(nm:Bs)(eE:Vs nm=true)(a8:∀n∈za,n.zb≠p.zb++[nm])
  (zj:Bool) (a b c d:Int) (hq:zg w q 136 #[.string ⟨#[]⟩,.bool zj,.int .i64 a,.int .i64 b,.int .i64 c,.int .i64 d,.pointer none,.slice none 0 0])
  (fT:q≠p.ze) (An:p.sl.ownBlock≠some q) (jR:p.sl.ownBlock≠some p.ze) :
  Calls prog 82 #[zi p.ze,.string (sb nm),zi q] w fun e w'=>e=.returned (.tuple #[])/\∃ks zl sl,Z4 za p q nm zj a b c d w w' ks zl sl:=by
 have db:=(hA T hN hp (sb nm)).mono (R':=fun e w'=>(∃(ks:List zc) (zl:Nat),e=.returned (.tuple #[.int .i64 zl,.bool false])/\p.zv=ks.map (·.ze)/\(∀k,k∈ks↔(k∈za/\∃x,k.zb=p.zb++[x]))/\(ks.map fun k=>mN k.zb).Pairwise (fun a b=>yn a b<0)/\wm (ks.map fun k=>mN k.zb) nm zl false)/\w=w') (by
  rintro e w' ⟨⟨ks,hk,hm,hs,zl,th,rfl,hF⟩,rfl⟩
  rw[UO]at hF
  cases th with
  |false=>exact⟨⟨ks,zl,rfl,hk,hm,hs,hF⟩,rfl⟩
  |true =>
   exfalso
   have h1:=hF.2.2.2.1 rfl;simp only[VB,Option.map_eq_some_iff]at h1;obtain⟨k,dg,bM⟩:=h1;obtain⟨ji,y,hy⟩:=(hm k).1 (Uq dg);rw[hy,Wm]at bM;subst bM
   exact a8 k ji hy)
 have aV:=fun W=>c8 (sb nm) W (by rw[Wq];have:=(Yw eE).2;omega)
 have hP:=hN p hp;have gG:=hP.lt;have og:=hq.lt;unfold zi at db ⊢
 go_enter func82,ntmps82
 go_wp2_with (first
  |(go_at_call 104;refine db.mono ?_;rintro e w1 ⟨⟨ks,zl,rfl,hk,hm,hs,hF⟩,bX⟩;subst bX)
  |(go_at_call 129;refine(aV _).mono ?_;rintro e w1 ⟨rfl,aa⟩;have iO:=hq.below aa og;have q0:=iO.cell 0;have q6:=iO.cell 6;have r0:=iO.frozen 0;have r6:=iO.frozen 6;have nE:=hP.below aa;have p7:w1.cell? ⟨p.ze,7,none⟩=some p.sl:=nE.cell rfl;have Ql:=nE.frozen 7))
 have kJ:p.zv.length=ks.length:=by rw[hk];simp
 have Dp:ks.length<=1000:=by
  have aG:(ks.map (·.zb)).Nodup:=by
   have:(ks.map fun k=>mN k.zb).Nodup:=hs.imp (fun {a b} h e=>by subst e;rw[show yn a a=0 from XL a]at h;omega)
   rw[show(ks.map fun k=>mN k.zb)=(ks.map (·.zb)).map mN by simp]at this
   exact Yz this
  have h1:∀x∈ks.map (·.zb),x∈za.map (·.zb):=by
   intro k dV;obtain⟨n,eK,rfl⟩:=UC.1 dV
   exact UC.2 ⟨n,((hm n).1 eK).1,rfl⟩
  have h2:=YD aG h1;have h3:=T.len
  simp at h2;omega
 obtain⟨W2,fp⟩:∃W2,W2=(w1.setCell ⟨q,0,none⟩ (.string (sb nm))).setCell ⟨q,6,none⟩ (.pointer (some ⟨p.ze,0,none⟩)):=⟨_,rfl⟩;have bM:zd (fun x=>x=q) w1 W2:=by rw[fp];exact((zd.refl (fun x=>x=q) _).setCell (p:=⟨q,0,none⟩) rfl _).setCell (p:=⟨q,6,none⟩) rfl _
 have Ay:W2.heap.size=w1.heap.size:=by rw[fp];simp[World.setCell]
 have ja:zg W2 q 136 #[.string (sb nm),.bool zj,.int .i64 a,.int .i64 b,.int .i64 c,.int .i64 d,.pointer (some ⟨p.ze,0,none⟩),.slice none 0 0]:=by
  rw[fp];simpa using (iO.set 0 (.string (sb nm))).set 6 (.pointer (some ⟨p.ze,0,none⟩))
 have xT:=nE.zf bM (fun e=>fT e.symm) (fun g hg e=>An (by rw[hg,e]));rw[<-fp,<- Ay];have eG:zg (W2.alloc (.cells #[.pointer (some ⟨q,0,none⟩)] 97)) W2.heap.size 97 #[zi q]:=zg.new W2 97 _;have lu:=xT.below (W':=W2.alloc (.cells #[.pointer (some ⟨q,0,none⟩)] 97)) ((Below.refl _ _).alloc (Nat.le_refl _) _);have D9:=ja.alloc (.cells #[.pointer (some ⟨q,0,none⟩)] 97);have dx:zd (fun x=>x=q) w1 (W2.alloc (.cells #[.pointer (some ⟨q,0,none⟩)] 97)):=bM.alloc _;have Az:w1.heap.size<=(W2.alloc (.cells #[.pointer (some ⟨q,0,none⟩)] 97)).heap.size:=by simp;omega
 obtain⟨W3,gK⟩:∃W3,W3=W2.alloc (.cells #[.pointer (some ⟨q,0,none⟩)] 97):=⟨_,rfl⟩;rw[<-gK]at eG lu D9 dx Az ⊢;clear fp gK;have an:=lu.row
 refine(gO p.sl p.zv.length zl W2.heap.size (p.zv.map zi) (zi q) W3 (by omega) (by have:=hF.1;simp at this;omega) rfl (fun u hu=>by obtain⟨x,_,rfl⟩:=UC.1 hu;rfl) an eG (fun e=>by have:=(xT.row.lt _ e).2;omega)).mono ?_
 rintro e w4 ⟨eZ,rfl,ei,mI,dP⟩
 obtain⟨g,cap,oh⟩:∃g cap,eZ=.slice (some ⟨g,0,none⟩) (p.zv.length+1) cap:=by
  rcases ei.2 with ⟨_,h0⟩|⟨g,cap,aH,h,_⟩
  ·omega
  ·exact⟨g,cap,h⟩
 have Qk:w4.cell? ⟨p.ze,7,none⟩=some p.sl:=(mI.cell (p:=⟨p.ze,7,none⟩) lu.lt jR).trans (lu.cell rfl);have JE:w4.frozen? ⟨p.ze,7,none⟩=false:=(mI.frozen (p:=⟨p.ze,7,none⟩) lu.lt jR).trans (lu.frozen 7);have BK:Hid (eZ=.slice (some ⟨g,0,none⟩) (p.zv.length+1) cap):=oh;rw[oh];have HK:Hid (p.zv=ks.map (·.ze)):=hk;have FM:Hid (p.zv.length=ks.length):=kJ;clear oh hk kJ
 go_wp2
 go_end0
 have hk:=HK.out;have kJ:=FM.out;have xU:zg w4 p.ze 136 p.cells:=(mI.block p.ze lu.lt jR).trans lu.zl
 refine⟨rfl,ks,zl,eZ,⟨hk,hm,hs,hF,?_,?_,?_,?_⟩⟩
 ·refine⟨?_,?_⟩
  ·have:=xU.set 7 eZ
   rw[<-BK.out]
   refine this.trans ?_
   simp[zc.cells,zc.Wl]
  ·have aX:eZ.ownBlock≠some p.ze:=by
    rcases dP with h|⟨g',h,fh⟩
    ·rw[h];exact jR
    ·rw[h];intro e;injection e with e;have:=lu.lt;omega
   have h1:=ei.kept (row:=some p.ze) (w':=w4.setCell ⟨p.ze,7,none⟩ (.slice (some ⟨g,0,none⟩) (p.zv.length+1) cap)) ⟨rfl,rfl,rfl,by simp[World.setCell],fun k dV Aa=>Below.heap_setCell _ _ _ _ (fun e=>Aa (by rw[e]))⟩ (.inr aX);have e1:(p.Wl zl q eZ).zv.length=p.zv.length+1:=by
    have:=hF.1;simp[zc.Wl]at this ⊢;omega
   have e2:(p.Wl zl q eZ).zv.map zi=(p.zv.map zi).take zl++zi q::(p.zv.map zi).drop zl:=by
    simp[zc.Wl]
   rw[e1,e2];exact h1
 ·have wM:¬(p.sl.ownBlock=some q):=An;have h4:zg w4 q 136 _:=D9.zf mI wM;have h5:=h4.other ⟨p.ze,7,none⟩ (.slice (some ⟨g,0,none⟩) (p.zv.length+1) cap) fT
  refine⟨?_,Vx _ _ _ _⟩
  refine h5.trans ?_
  simp[zc.cells,Wm,vd]
 ·have k1:zd (fun x=>x=p.ze\/x=q\/p.sl.ownBlock=some x) w w1:=zd.new aa;have k2:=k1.trans (dx.mono (fun x h=>.inr (.inl h)));have k3:=k2.trans (mI.mono (fun x h=>.inr (.inr h)))
  exact k3.setCell (p:=⟨p.ze,7,none⟩) (.inl rfl) _
 ·rcases dP with h|⟨g',h,fh⟩
  ·exact .inl h
  ·exact .inr ⟨g',h,by have:=aa.size;omega⟩
def zp (za:List zc)(k:List Bs):Option zc:=za.find? fun n=>n.zb == k
theorem Zl{za:List zc}(T:zr za){n:zc}(c:n∈za)(b:n.zb=k):zp za k=some n:=by
 unfold zp
 cases h:za.find? fun n=>n.zb == k with
 |none=>have:=List.find?_eq_none.1 h n c;simp[b]at this
 |some m =>
  have d:=List.mem_of_find?_eq_some h;have a:=List.find?_some h
  simp at a
  rw[T.inj m d n c (by rw[a,b])]
theorem fU{za:List zc}(h:∀n∈za,n.zb≠k):zp za k=none:=by
 unfold zp;rw[List.find?_eq_none];intro n a;simpa using h n a
theorem VZ{za:List zc}{n:zc}(h:zp za k=some n):n∈za/\n.zb=k:=by
 unfold zp at h
 exact⟨List.mem_of_find?_eq_some h,by have:=List.find?_some h;simpa using this⟩
def tK (za:List zc)(k:List Bs):Int:=match zp za k with
 |none=>3
 |some p=>if p.zj then 5 else if 20<=za.length then 7 else 0
def VC (za:List zc)(s:Bs)(ok:Bool):Int :=
 if UB s=false then 1 else if s=[] then 2 else if ok=false then 6 else if 4<WR s then 8
 else if (zp za (s4 s)).isSome then 4 else tK za (s4 s).dropLast
theorem qh(s a b:Bs)(f:UB s=true)(d:s≠[])(h:(¬XG s/\a=[]/\b=s)\/(s=a++47::b/\¬XG b)):
  s4 s=s4 a++[b]/\a.length<=s.length:=by
 rcases h with ⟨c,rfl,rfl⟩|⟨c,g⟩
 ·exact⟨by simp only[s4,d,if_false,if_true];rw[Zt _ c];rfl,s_⟩
 ·have h3:wN s=wN a++[b]:=by rw[c,Zp,Zt _ g]
  have i:a≠[]:=fun e=>by
   subst e
   have:s4 s=wN s:=by simp[s4,d]
   rw[VY,this,h3]at f
   have:=WO f (n:=[]) (by simp[wN])
   simp[Vs]at this
  exact⟨by simp only[s4,d,i,if_false];exact h3,by rw[c];simp⟩
def qx (s:ByteArray)(e:Ending):Prop:=∃a b:ByteArray,e=vT #[vG a,vG b]/\s4 (bl s)=s4 (bl a)++[bl b]/\a.size<=s.size
theorem aQ(s:ByteArray)(f:s.size<=2000000)(g:UB (bl s)=true)(d:bl s≠[])(w:World):
  Calls prog 81 #[vG s] w fun e w'=>qx s e/\Bw w w':=by
 refine(rv s w f).mono ?_
 rintro e w' ⟨⟨a,b,rfl,h⟩,n,rfl⟩
 have:=qh (bl s) (bl a) (bl b) g d h
 exact⟨⟨a,b,rfl,this.1,by have c:=this.2;rw[Wo,Wo]at c;exact c⟩,UT (Below.refl _ _) n⟩
def UX (l:List (Int×Int)):Bool:=l.all fun x=>Uu x.1 x.2
theorem fD(b c:Nat)(l:List (Int×Int))(v:l.length<=100)(w:World)(hb:b<w.heap.size)
  (q:∀(j:Nat) (x:Int×Int),l[j]?=some x->w.cell? (vA b (j*2))=some (vI x.1)/\w.cell? (vA b (j*2+1))=some (vI x.2)) :
  Calls prog 133 #[vS b l.length c] w fun e w'=>e=vR (.bool (UX l))/\Bw w w':=by
 obtain⟨L,g⟩:∃L,L=l.length:=⟨_,rfl⟩;rw[<-g];rw[<-g]at v;have o:Hid (L=l.length):=g;clear g
 go_enter func133,ntmps133
 go_wp2
 go_loopw [7] (fun i wr=>∃k:Nat,k<=L/\i=vI k/\UX (l.take k)=true/\Bw w wr) (fun i _=>L-(intOf i).toNat)
 case atStart=>exact⟨0,Nat.zero_le _,rfl,rfl,Below.refl _ _⟩
 case round =>
  obtain⟨k,z,rfl,r,a⟩:=hrel;have n:Hid (UX (l.take k)=true):=r;clear r
  by_cases u:k<L
  ·have h:k<l.length:=by rw[<-o.out];exact u
   obtain⟨x,d⟩:∃x,l[k]?=some x:=⟨_,Ur h⟩;have t:Hid (l.take (k+1)=l.take k++[x]):=by
    rw[VT h];rw[Ur h]at d;cases d;rfl
   have s:Hid (x∈l):=Uq d;obtain⟨c0,c1⟩:=q k x d
   replace c0:=(a.cell (p:=vA b (k*2)) hb).trans c0
   replace c1:=(a.cell (p:=vA b (k*2+1)) hb).trans c1
   clear d q;have f:=fun W=>gq x.1 x.2 W
   cases hfx:Uu x.1 x.2
   ·rw[hfx]at f
    go_wp2_with (go_at_call 147;refine(f _).mono ?_;rintro e y ⟨rfl,m⟩)
    go_ret
    refine⟨VP ?_,s5 (a.alloc a.size _) m⟩
    symm;unfold UX;rw[List.all_eq_false];exact⟨x,s.out,by simp[hfx]⟩
   ·rw[hfx]at f
    go_wp2_with (go_at_call 147;refine(f _).mono ?_;rintro e y ⟨rfl,m⟩)
    go_roundw
    case rel=>exact⟨k+1,o_,by go_num,by rw[t.out];have:=n.out;unfold UX at this ⊢;rw[List.all_append,this];simp[hfx],s5 (a.alloc a.size _) m⟩
    case measure=>simp[intOf];omega
  ·go_wp2
   go_ret
   have:=n.out
   rw[Vl (by rw[<-o.out];omega)]at this
   exact⟨VP this.symm,a⟩
theorem nK{za:List zc}(T:zr za)(w:World)(j:∀n∈za,UA w n){r:zc}(i:r∈za)(m:r.zb=[])(bt:Nat)(ht:w.cell? (vA bt 0)=some (zi r.ze))(k:List Bs):
  Calls prog 135 #[vP bt,match zp za k with|none=>.pointer none|some p=>zi p.ze] w fun e w'=>e=vR (vI (tK za k))/\Bw w w':=by
 unfold tK
 cases l:zp za k with
 |none =>
  go_enter func135,ntmps135
  go_wp2
  go_ret
  exact⟨rfl,Below.refl _ _⟩
 |some p =>
  obtain⟨hp,_⟩:=VZ l;obtain⟨ch,K⟩:=T.ch;have d:=sJ T K i (h_ (an T K i)) bt w j ht;rw[rX T K i m]at d;have c1:w.cell? (vA p.ze 1)=some (.bool p.zj):=(j p hp).cell rfl;have a:=Z3 p.ze p.zj w c1;unfold zi;clear l
  cases c:p.zj
  ·rw[c]at a
   by_cases f:20<=za.length
   ·simp only[f,decide_true]at d;simp only[c,Bool.false_eq_true,if_false,f,if_true]
    go_enter func135,ntmps135
    go_wp2_with (first|(go_at_call 105;refine a.mono ?_;rintro e g ⟨rfl,b⟩;subst b)|(go_at_call 182;refine d.mono ?_;rintro e g ⟨rfl,h⟩))
    go_ret
    exact⟨rfl,h⟩
   ·simp only[f,decide_false]at d;simp only[c,Bool.false_eq_true,if_false,f]
    go_enter func135,ntmps135
    go_wp2_with (first|(go_at_call 105;refine a.mono ?_;rintro e g ⟨rfl,b⟩;subst b)|(go_at_call 182;refine d.mono ?_;rintro e g ⟨rfl,h⟩))
    go_ret
    exact⟨rfl,h⟩
  ·rw[c]at a;simp only[c,if_true]
   go_enter func135,ntmps135
   go_wp2_with (go_at_call 105;refine a.mono ?_;rintro e g ⟨rfl,b⟩;subst b)
   go_ret
   exact⟨rfl,Below.refl _ _⟩
theorem XA{za:List zc}(T:zr za){r:zc}(h:r∈za)(c:r.zb=[])(s:ByteArray)(i:s.size<=2000000)(w:World)(f:∀n∈za,UA w n)(v:Value)
  (a:v=match zp za (s4 (bl s)) with|none=>.pointer none|some p=>zi p.ze) :
  Calls prog 63 #[zi r.ze,vG s] w fun e w'=>e=vR v/\Bw w w':=by
 refine(sE T h c s i w f).mono ?_
 rintro e w' ⟨(⟨n,g,d,rfl⟩|⟨b,rfl⟩),hb⟩
 ·rw[Zl T g d]at a;exact⟨by rw[a],hb⟩
 ·rw[fU b]at a;exact⟨by rw[a],hb⟩
structure zx where
 zb:List Bs
 zj:Bool
 n0:Int
 n1:Int
 b0:Int
 b1:Int
def zc.zq(n:zc):zx:=⟨n.zb,n.zj,n.n0,n.n1,n.b0,n.b1⟩
def UW (L:List zx)(k:List Bs):Option zx:=L.find? fun n=>n.zb == k
def lY (L:List zx)(k:List Bs):Int:=match UW L k with
 |none=>3
 |some p=>if p.zj then 5 else if 20<=L.length then 7 else 0
def vy (L:List zx)(s:Bs)(ok:Bool):Int :=
 if UB s=false then 1 else if s=[] then 2 else if ok=false then 6 else if 4<WR s then 8
 else if (UW L (s4 s)).isSome then 4 else lY L (s4 s).dropLast
theorem WN(za:List zc)(k:List Bs):UW (za.map zc.zq) k=(zp za k).map zc.zq:=by
 unfold UW zp
 induction za with
 |nil=>rfl
 |cons n l a =>
  simp only[List.map_cons,List.find?_cons]
  have:(zc.zq n).zb=n.zb:=rfl
  rw[this]
  cases n.zb == k<;>simp[a]
theorem dI(za:List zc)(s:Bs)(ok:Bool):vy (za.map zc.zq) s ok=VC za s ok:=by
 unfold vy VC lY tK;rw[WN,WN]
 cases zp za (s4 s)<;>cases zp za (s4 s).dropLast<;>simp[zc.zq]
theorem dh(w:World)(t e:TypeId)(i0:TypeInfo)(z:Value)(size bytes:Nat)(ht:P.underlying t=some (.slice e))(y:P.info? e=some i0)(H:i0.zero=some z)
  (p:i0.size=size) (F:i0.bytes=bytes) (K:z.cells.size=size) (G:0<size) (sl:Value) (n:Nat) (xs:List Value) (o:w.ownsRow 0 e size sl n xs)
  (ad:Addr) (m c:Nat) (R:0<n+m) (a:List Value) (d:a.length=m*size) (x:∀j u,a[j]?=some u->w.cell? (ad.add j)=some u) (v:∀u∈a,u.oneCell'=true)
  (J:n+m<=maxLen) (hb:(n+m)*bytes<=140737488355328) :
  ∃f w',(∀r,(Builtin.append_ #[t,t] r #[sl,.slice (some ad) m c]).run P w=.ok f w')/\w'.ownsRow 0 e size f (n+m) (xs++a)/\w.grownBy w' sl.ownBlock/\(f.ownBlock=sl.ownBlock\/∃g,f.ownBlock=some g/\w.heap.size<=g):=by
 have D:∀ {f:Value} {w':World},w'.ownsRow w.heap.size e size f (n+m) (xs++a)->w'.ownsRow 0 e size f (n+m) (xs++a)/\∃g,f.ownBlock=some g/\w.heap.size<=g:=fun {f w'} h=>by
  obtain⟨v,L⟩:=h
  rcases L with ⟨_,Q⟩|⟨g,cap,l,rfl,hb,rest⟩
  ·omega
  ·exact⟨⟨v,.inr ⟨g,cap,l,rfl,Nat.zero_le _,rest⟩⟩,g,rfl,hb⟩
 rcases o.2 with ⟨rfl,rfl⟩|⟨g,cap,l,rfl,_,I,T,N,E,O⟩
 ·have M:xs=[]:=List.eq_nil_of_length_eq_zero (j_ o.1);subst M;obtain⟨f,w',i,B,b,_⟩:=run_append_own (P:=P) w w.heap.size t 0 e i0 z size bytes ht y H p F K G v0_ 0 [] (Vx w _ e size) ad m c a d x v J hb (Nat.le_refl _);have q:=D B
  exact⟨f,w',fun r=>i,q.1,b,.inr q.2⟩
 ·by_cases s:n+m<=cap
  ·have i:=fun r=>run_append_room (P:=P) w t r e i0 ht y g n cap l I ad m c a (by rw[p];exact d) x v s (by rw[p,d,E,<- Nat.add_mul];exact Nat.mul_le_mul_right _ s)
   rw[p]at i;have C:(xs++a).length=(n+m)*size:=by rw[List.length_append,o.1,d,Nat.add_mul]
   refine⟨_,_,i,⟨C,.inr ⟨g,cap,_,rfl,Nat.zero_le _,setRow_heap w g l _ e _ I,s,N,?_,?_⟩⟩,⟨rfl,rfl,rfl,s_,fun k _ A=>setRow_other w g k _ (fun e=>A (by simp[Value.ownBlock,e]))⟩,.inl rfl⟩
   ·have S:n*size+a.length<=l.size:=by rw[d,E,<- Nat.add_mul];exact Nat.mul_le_mul_right _ s
    simp only[List.size_toArray,List.length_append,List.length_take,List.length_drop,Array.length_toList]
    omega
   ·rw[O,<- C]
    exact List.take_left
  ·obtain⟨f,w',i,B,b⟩:=run_append_arg_grows (P:=P) w t 0 e i0 z size bytes ht y H p F K G (vA g 0) n cap xs o.1 (o.cells (g:=g) rfl) ad m c a d x o_ J hb;have q:=D B
   exact⟨f,w',fun r=>i,q.1,⟨b.os,b.tape,b.output,b.size,fun k A _=>b.block k A s_⟩,.inr q.2⟩
theorem WL{h:Array Oper}{o:Oper}{a:Act}{K:Act->World->Prop}{Q:Exit->Act->World->Prop}{E:Prop}{R:Value->World->Prop}
  (k:o.guard=none) (d x:Operand) (b c:TypeId) (e:o.op=Op.call {callee:=Callee.builtin Builtin.append,args:=#[d,x],argTypes:=#[b,c]})
  (v u:Value) (hd:a.eval d=v) (n:a.eval x=u) (l:∃f w',(∀p,(Builtin.append_ #[b,c] p #[v,u]).run P w=.ok f w')/\R f w') (i:∀f w',R f w'->K (a.put o.dst f) w') :
  if Region.wanted o (yielded h a.tmps)=true then Oper.wp P o a w K Q else E:=by
 obtain⟨f,w',m,j⟩:=l;rw[if_pos (by simp[Region.wanted,k])];unfold Oper.wp;have g:=m o.type
 simp[execOp,e,resolve,invoke,builtin,hd,n,g,Result.andThen]
 exact i f w' j
theorem Vk{d:Array Oper}{rest:List Oper}{o:Oper}{a:Act}{Q:Exit->Act->World->Prop}{R:Value->World->Prop}(e:o.guard=none)(s x:Operand)(t b:TypeId)
  (j:o.op=.call {callee:=.builtin .append,args:=#[s,x],argTypes:=#[t,b]}) (vs c:Value) (l:a.eval s=vs) (m:a.eval x=c)
  (i:∃f w',(∀n,(Builtin.append_ #[t,b] n #[vs,c]).run P w=.ok f w')/\R f w') (h:∀f w',R f w'->wpList P d Q rest (a.put o.dst f) w'):wpList P d Q (o::rest) a w:=by
 obtain⟨f,w',k,g⟩:=i
 exact Lib.wpList_append_run w e s x t b j vs c l m f w' (k _) (h f w' g)
theorem VX(h:w.ownsRow 0 e size v n xs)(f:0<n):∃g cap,v=vS g n cap/\n<=cap/\cap<=maxLen:=by
 rcases h.2 with ⟨_,d⟩|⟨g,cap,c,rfl,_,_,a,b,_⟩
 ·omega
 ·exact⟨g,cap,rfl,a,b⟩
theorem zg.new'{t:TypeId}(h:b=W.heap.size):zg (W.alloc (.cells vs t)) b t vs:=by subst h;exact zg.new W t vs
def Wx (e:TypeId)(size bytes:Nat):Prop:=∃i0 z,prog.info? e=some i0/\i0.zero=some z/\i0.size=size/\i0.bytes=bytes/\z.cells.size=size
theorem XD{z:Value}(a:(prog.info? e).map (fun i=>(i.size,i.bytes))=some (size,bytes))(b:(prog.info? e).bind (fun i=>i.zero)=some z)(c:z.cells.size=size):Wx e size bytes:=by
 cases h:prog.info? e with
 |none=>rw[h]at a;cases a
 |some i0 =>
  rw[h]at a b;simp only[Option.map_some,Option.some.injEq,Prod.mk.injEq,Option.bind_some]at a b
  exact⟨i0,z,h,b,a.1,a.2,c⟩
theorem i3a:(prog.info? 3).map (fun i=>(i.size,i.bytes))=some (1,8):=k_
theorem i3b:(prog.info? 3).bind (fun i=>i.zero)=some (vI 0):=k_
theorem i29a:(prog.info? 25).map (fun i=>(i.size,i.bytes))=some (1,24):=k_
theorem i29b:(prog.info? 25).bind (fun i=>i.zero)=some v0_:=k_
theorem i46a:(prog.info? 48).map (fun i=>(i.size,i.bytes))=some (1,24):=k_
theorem i46b:(prog.info? 48).bind (fun i=>i.zero)=some v0_:=k_
theorem i59a:(prog.info? 60).map (fun i=>(i.size,i.bytes))=some (2,16):=k_
theorem i59b:(prog.info? 60).bind (fun i=>i.zero)=some (.agg #[vI 0,vI 0]):=k_
theorem inf3:Wx 3 1 8:=XD i3a i3b rfl
theorem l7:Wx 25 1 24:=XD i29a i29b rfl
theorem l9:Wx 48 1 24:=XD i46a i46b rfl
theorem Zi:Wx 60 2 16:=XD i59a i59b rfl
theorem un29:prog.underlying 25=some (.slice 3):=k_
theorem un27:prog.underlying 80=some (.slice 25):=k_
theorem un28:prog.underlying 81=some (.slice 48):=k_
theorem un46:prog.underlying 48=some (.slice 60):=k_
structure xq (W:World) (old:Option Nat) (e:TypeId) (size n:Nat) (xs:List Value) (g cap:Nat) (w':World):Prop where
 le:n<=cap
 mx:cap<=maxLen
 own:w'.ownsRow 0 e size (vS g n cap) n xs
 zf:zd (fun b=>old=some b) W w'
 new:old=some g\/W.heap.size<=g
theorem Wv{t:TypeId}(ht:prog.underlying t=some (.slice e))(A:Wx e size bytes)(r:0<size)(W:World)(sl:Value)(n:Nat)(xs:List Value)(i:W.ownsRow 0 e size sl n xs)
  (d m c:Nat) (D:0<n+m) (a:List Value) (C:a.length=m*size) (o:zg W d l a.toArray) (v:∀u∈a,u.oneCell'=true) (H:n+m<=maxLen) (hb:(n+m)*bytes<=140737488355328) :
  ∃f w',(∀I,(Builtin.append_ #[t,t] I #[sl,vS d m c]).run prog W=.ok f w')/\∃g cap,f=vS g (n+m) cap/\xq W sl.ownBlock e size (n+m) (xs++a) g cap w':=by
 obtain⟨i0,z,b,h3,w,x,y⟩:=A;obtain⟨f,w',E,h,s,q⟩:=dh (P:=prog) W t e i0 z size bytes ht b h3 w x y r sl n xs i (vA d 0) m c D a C
  (fun j u F=>by rw[Addr.add_lit,Nat.zero_add,o.cell];simpa using F) v H hb
 obtain⟨g',cap',rfl,p,G⟩:=VX h o_
 refine⟨_,w',E,g',cap',rfl,p,G,h,(zd.refl _ _).grown s (fun k B=>B),?_⟩
 rcases q with e|⟨g2,e,b⟩
 ·left;rw[<-e];rfl
 ·simp[Value.ownBlock]at e;subst e;exact .inr b
theorem bV{t:TypeId}(ht:prog.underlying t=some (.slice e))(x:Wx e size bytes)(p:0<size)(W:World)(sl:Value)(n:Nat)(xs:List Value)(h:W.ownsRow 0 e size sl n xs)
  (ad:Addr) (m c:Nat) (B:0<n+m) (a:List Value) (A:a.length=m*size) (i:∀j u,a[j]?=some u->W.cell? (ad.add j)=some u) (r:∀u∈a,u.oneCell'=true) (E:n+m<=maxLen) (hb:(n+m)*bytes<=140737488355328) :
  ∃f w',(∀F,(Builtin.append_ #[t,t] F #[sl,.slice (some ad) m c]).run prog W=.ok f w')/\∃g cap,f=vS g (n+m) cap/\xq W sl.ownBlock e size (n+m) (xs++a) g cap w':=by
 obtain⟨i0,z,b,h3,s,v,w⟩:=x;obtain⟨f,w',C,d,q,o⟩:=dh (P:=prog) W t e i0 z size bytes ht b h3 s v w p sl n xs h ad m c B a A i r E hb;obtain⟨g',cap',rfl,l,D⟩:=VX d o_
 refine⟨_,w',C,g',cap',rfl,l,D,d,(zd.refl _ _).grown q (fun k y=>y),?_⟩
 rcases o with e|⟨g2,e,b⟩
 ·left;rw[<-e];rfl
 ·simp[Value.ownBlock]at e;subst e;exact .inr b
theorem s8{sl:Value}(h:W.ownsRow 0 e size sl n xs)(i:zd T W W')(f:∀g,sl.ownBlock=some g->¬T g):W'.ownsRow 0 e size sl n xs:=by
 obtain⟨j,a⟩:=h
 refine⟨j,?_⟩
 rcases a with a|⟨g',cap',c,rfl,d,b,rest⟩
 ·exact .inl a
 ·exact .inr ⟨g',cap',c,rfl,d,(i.block g' (Vz.1 b).1 (f g' rfl)).trans b,rest⟩
theorem UI{sl:Value}(h:W.ownsRow 0 e size sl n xs){g:Nat}(a:sl.ownBlock=some g):g<W.heap.size:=by
 rcases h.2 with ⟨rfl,_⟩|⟨g',cap',c,rfl,d,b,rest⟩
 ·cases a
 ·simp[Value.ownBlock]at a;subst a;exact(Vz.1 b).1
theorem xq.below{g:Nat}(h:xq W none e size n xs g cap w'):Bw W w' :=
 h.zf.ya (Nat.le_refl _) (fun b _ hb=>by cases hb)
theorem cl{p:Prop}(h:p:=by(repeat (first|(with_reducible exact Below.refl _ _)|(with_reducible assumption)|((with_reducible refine Below.setCell ?_ ?_ _);rotate_left;(focus (first|omega|(simp<;>omega))))|((with_reducible refine Below.alloc ?_ ?_ _);rotate_left;(focus (first|omega|(simp<;>omega))))|(with_reducible refine Below.drew ?_)|(with_reducible refine UT ?_ _)|(refine s5 ?_ (by with_reducible assumption))))):p:=h
theorem s6{p:Prop}(h:p:=by(repeat (first|(with_reducible assumption)|((with_reducible refine zg.new' ?_);simp;done)|(with_reducible refine zg.alloc ?_ _)|(with_reducible refine zg.drew ?_)|(with_reducible refine zg.drewN ?_ _)))):p:=h
theorem oZ{p:Prop}(h:p:=by(repeat (first|(with_reducible assumption)|((with_reducible refine zg.new' ?_);simp;done)|(with_reducible refine zg.alloc ?_ _)|(with_reducible refine zg.drew ?_)|(with_reducible refine zg.drewN ?_ _)|((with_reducible refine zg.other ?_ _ _ ?_);rotate_left;(focus (first|omega|(simp;done)|(simp;omega))))))):p:=h
theorem Vy{p:Prop}(h:p:=by(repeat (first|exact Below.refl _ _|refine s5 ?_ (by assumption)|refine Below.setCell ?_ (by first|omega|(simp<;>omega)) _|refine Below.alloc ?_ (by first|omega|(simp<;>omega)) _|refine Below.drew ?_|refine UT ?_ _))):p:=h
theorem Yg{p:Prop}(h:p:=by(repeat (first|assumption|(refine zg.new' ?_;simp;done)|refine zg.alloc ?_ _|refine zg.drew ?_|refine zg.drewN ?_ _))):p:=h
theorem bS{t:TypeId}(ht:prog.underlying t=some (.slice e))(d:Wx e size bytes)(W:World)(base:Option Addr)(n cap:Nat)(f:n<=cap)(a:Option Addr)(c:Nat)(g:TypeId):
  (Builtin.append_ #[t,t] g #[.slice base n cap,.slice a 0 c]).run prog W=.ok (.slice base n cap) W:=by
 obtain⟨i0,z,b,h3,h,i,j⟩:=d
 cases base<;>cases a<;>simp[Builtin.append_,run_underlying ht,sizeOf,typeInfo,b,f,Builtin.firstCells,Builtin.lenOf,storeCells,loadCells,loadCellsFrom]
structure vn (W:World) (old:Option Nat) (e:TypeId) (size n:Nat) (xs:List Value) (a:Option Addr) (cap:Nat) (w':World):Prop where
 le:n<=cap
 mx:cap<=maxLen
 own:w'.ownsRow 0 e size (.slice a n cap) n xs
 zf:zd (fun b=>old=some b) W w'
 new:∀b,(Value.slice a n cap).ownBlock=some b->old=some b\/W.heap.size<=b
theorem XN{t:TypeId}(ht:prog.underlying t=some (.slice e))(o:Wx e size bytes)(v:0<size)(W:World)(a:Option Addr)(n cap:Nat)(q:n<=cap)(A:cap<=maxLen)(xs:List Value)(l:W.ownsRow 0 e size (.slice a n cap) n xs)
  (i:Option Addr) (m c:Nat) (d:List Value) (p:d.length=m*size) (s:0<m->∃ad,i=some ad/\∀j u,d[j]?=some u->W.cell? (ad.add j)=some u) (w:∀u∈d,u.oneCell'=true) (B:n+m<=maxLen) (hb:(n+m)*bytes<=140737488355328) :
  ∃f w',(∀h,(Builtin.append_ #[t,t] h #[.slice a n cap,.slice i m c]).run prog W=.ok f w')/\∃k cap',f=.slice k (n+m) cap'/\vn W (Value.slice a n cap).ownBlock e size (n+m) (xs++d) k cap' w':=by
 by_cases x:m=0
 ·subst x;have z:d=[]:=List.eq_nil_of_length_eq_zero (j_ p);subst z
  refine⟨_,W,fun h=>bS ht o W a n cap q i c h,a,cap,s_,by simpa using q,A,by simpa using l,zd.refl _ _,fun b hb=>.inl (j_ hb)⟩
 ·obtain⟨ad,rfl,r⟩:=s o_;obtain⟨f,w',y,g,cap',rfl,R⟩:=bV ht o v W _ n xs l ad m c o_ d p r w B hb
  refine⟨_,w',y,some (vA g 0),cap',rfl,R.le,R.mx,R.own,R.zf,fun b hb=>?_⟩
  simp[Value.ownBlock]at hb
  subst hb
  exact R.new
def Vj (e:zx):List Value:=[vG (sb (kN e.zb)),.bool e.zj,vI e.n0,vI e.n1,vI e.b0,vI e.b1]
def UP (L:List zx):List Value:=L.flatMap Vj
theorem fB(L:List zx):(UP L).length=L.length*6:=by
 induction L with
 |nil=>rfl
 |cons a l b=>simp[UP,Vj]at b ⊢;omega
theorem fA:∀(L:List zx) (i j:Nat) (e:zx),L[i]?=some e->j<6->(UP L)[i*6+j]?=(Vj e)[j]?
 | [],i,j,e,h,_=>by simp at h
 |a::l,0,j,e,h,b=>by
  simp at h;subst h
  simp only[UP,List.flatMap_cons,Nat.zero_mul,Nat.zero_add];rw[Wu (by simp[Vj];omega)]
 |a::l,i+1,j,e,h,b=>by
  have c:=fA l i j e (j_ h) b;simp only[UP,List.flatMap_cons]at c ⊢;rw[Wp (by simp[Vj];omega)];rw[show(i+1)*6+j-(Vj a).length=i*6+j by simp[Vj];omega]
  exact c
structure VV (W:World) (br g cap:Nat) (L:List zx) (a c v3:Value):Prop where
 zl:zg W br 167 #[vS g L.length cap,a,c,v3]
 row:W.ownsRow 0 163 6 (vS g L.length cap) L.length (UP L)
theorem VV.below{g:Nat}{L:List zx}(h:VV W br g cap L a c v3)(hb:Bw W W'):VV W' br g cap L a c v3 :=
 ⟨h.zl.below hb h.zl.lt,h.row.kept (row:=none) ⟨hb.os,hb.tape,hb.output,hb.size,fun k b _=>hb.block k b⟩ (.inr (by simp[Value.ownBlock]))⟩
theorem VV.zf{g:Nat}{L:List zx}(h:VV W br g cap L a c v3)(f:zd T W W')(l:¬T br)(m:¬T g):VV W' br g cap L a c v3:=by
 refine⟨h.zl.zf f l,?_⟩
 obtain⟨n,b⟩:=h.row
 refine⟨n,?_⟩
 rcases b with b|⟨g',cap',j,i,k,d,rest⟩
 ·exact .inl b
 ·have:g'=g:=by injection i with e _ _;injection e with e;injection e with e;exact e.symm
  subst this
  exact .inr ⟨g',cap',j,i,k,(f.block g' (Vz.1 d).1 m).trans d,rest⟩
theorem VV.zq{g:Nat}{L:List zx}(h:VV W br g cap L a c v3){e:zx}(f:L[i]?=some e)(b:(Vj e)[j]?=some v):W.cell? (vA g (i*6+j))=some v:=by
 have d:j<6:=by have:=(Uy.1 b).1;simpa [Vj] using this
 have:=h.row.cells (g:=g) rfl (i*6+j) v (by rw[fA L i j e f d];exact b)
 rwa[Addr.add_lit,Nat.zero_add]at this
theorem VV.WQ{g:Nat}{L:List zx}(h:VV W br g cap L a c v3):L.length<=cap/\cap<=maxLen:=by
 obtain⟨m,i⟩:=h.row
 rcases i with ⟨b,_⟩|⟨g',cap',j,b,k,l,d,f,_⟩
 ·cases b
 ·injection b with _ _ e;subst e;exact⟨d,f⟩
def lu (L:List zx)(s:Bs)(e:Ending):Prop :=
 (∃(i:Nat) (x:zx),e=vR (vI i)/\L[i]?=some x/\kN x.zb=s)\/((∀x∈L,kN x.zb≠s)/\e=vR (vI (-1)))
theorem eX{g:Nat}{L:List zx}(h:VV w br g cap L a c v3)(C:L.length<=1000)(s:ByteArray):
  Calls prog 114 #[vP br,vG s] w fun e w'=>lu L (bl s) e/\w'=w:=by
 have u:=h.zl.cell 0;simp only[List.getElem?_toArray,List.getElem?_cons_zero]at u;obtain⟨n,m⟩:∃n,n=L.length:=⟨_,rfl⟩;rw[<-m]at u C;have p:Hid (n=L.length):=m;clear m
 go_enter func114,ntmps114
 go_wp2
 go_loop [5] (fun i=>∃k:Nat,k<=n/\i=vI k/\∀j x,j<k->L[j]?=some x->kN x.zb≠bl s) (fun i=>n-(intOf i).toNat)
 case atStart=>exact⟨0,Nat.zero_le _,rfl,fun j x f=>by omega⟩
 case round =>
  obtain⟨k,D,rfl,r⟩:=hrel;have z:Hid (∀j x,j<k->L[j]?=some x->kN x.zb≠bl s):=r;clear r
  by_cases B:k<n
  ·obtain⟨x,d⟩:∃x,L[k]?=some x:=⟨_,Ur (by rw[<-p.out];exact B)⟩;have q:Hid (L[k]?=some x):=d;have hp:=h.zq d (j:=0) (v:=vG (sb (kN x.zb))) rfl;simp only[Nat.add_zero]at hp;clear d;have l:((sb (kN x.zb)).toList == s.toList)=decide (kN x.zb=bl s):=by rw[YM,UO]
   by_cases b:kN x.zb=bl s
   ·have hb:((sb (kN x.zb)).toList == s.toList)=true:=by rw[l];simp[b]
    have A:Hid (kN x.zb=bl s):=b;clear b l
    go_wp2
    go_ret
    exact⟨.inl ⟨k,x,rfl,q.out,A.out⟩,rfl⟩
   ·have hb:((sb (kN x.zb)).toList == s.toList)=false:=by rw[l];simp[b]
    clear l
    go_wp2
    go_round
    case rel =>
     refine⟨k+1,o_,by go_num,fun j y f o=>?_⟩
     rcases Nat.lt_or_ge j k with t|t
     ·exact z.out j y t o
     ·obtain rfl:j=k:=o_;rw[q.out]at o;cases o;exact b
    case measure=>simp[intOf];omega
  ·go_wp2
   go_ret
   refine⟨.inr ⟨fun x d=>?_,rfl⟩,rfl⟩
   obtain⟨j,f⟩:=Vh d
   exact z.out j x (by have:=(Uy.1 f).1;have:=p.out;omega) f
def xg (l:List Bs)(first:Bs):Int:=if (l.all UB)=false then 1 else if first=[] then 2 else 0
theorem i9a:(prog.info? 9).map (fun i=>(i.size,i.bytes))=some (1,16):=k_
theorem i9b:(prog.info? 9).bind (fun i=>i.zero)=some (vG ⟨#[]⟩):=k_
theorem inf9:Wx 9 1 16:=XD i9a i9b rfl
theorem cE:prog.underlying 46=some (.slice 9):=k_
theorem mu(first:ByteArray)(v:Value)(l:List ByteArray)(H:∀s∈l,s.size<=2000000)(I:l.length<=100)(w:World)
  (A:∃f w',(∀L,(Builtin.append_ #[46,46] L #[v,vS w.heap.size 1 1]).run prog (w.alloc (.cells #[vG first] 9))=.ok f w')/\∃g cap,f=vS g l.length cap/\l.length<=cap/\cap<=maxLen/\g<w'.heap.size/\Bw w w'/\∀(k:Nat) s,l[k]?=some s->w'.cell? (vA g k)=some (vG s)) :
  Calls prog 132 #[vG first,v] w fun e w'=>e=vR (vI (xg (l.map bl) (bl first)))/\Bw w w':=by
 have t:=fun s (b:s∈l) W=>bH s (H s b) W
 obtain⟨n,B⟩:∃n,n=l.length:=⟨_,rfl⟩;rw[<-B]at A I;have C:Hid (n=l.length):=B;clear B
 go_enter func132,ntmps132
 go_wp2_with (at_builtin;refine Vk r_ _ _ _ _ rfl _ _ rfl r_ A ?_;rintro a D ⟨g1,T,rfl,Q,R,K,z,u⟩)
 clear A
 go_loopw [12] (fun i wr=>∃k:Nat,k<=n/\i=vI k/\((l.map bl).take k).all UB=true/\Bw D wr) (fun i _=>n-(intOf i).toNat)
 case atStart=>exact⟨0,Nat.zero_le _,rfl,rfl,Below.refl _ _⟩
 case round =>
  obtain⟨k,P,rfl,h,j⟩:=hrel;have r:Hid (((l.map bl).take k).all UB=true):=h;clear h
  by_cases G:k<n
  ·have x:k<l.length:=by rw[<-C.out];exact G
   obtain⟨s,b⟩:∃s,l[k]?=some s:=⟨_,Ur x⟩;have O:=(j.cell (p:=vA g1 k) K).trans (u k s b);have q:=t s (Uq b);have F:Hid ((l.map bl).take (k+1)=(l.map bl).take k++[bl s]):=by
    show _=_
    rw[VT (j_ x)];rw[Ur x]at b;cases b;simp
   have E:Hid (bl s∈l.map bl):=UC.2 ⟨s,Uq b,rfl⟩;clear b u t;have S:(k:Int)<n:=o_;have N:(0:Int)<=k:=o_
   cases o:UB (bl s)
   ·rw[o]at q
    go_wp2_with (go_at_call 62;refine(q _).mono ?_;rintro e M ⟨rfl,y⟩)
    go_ret
    have c:xg (l.map bl) (bl first)=1:=by
     unfold xg
     exact if_pos (List.all_eq_false.2 ⟨_,E.out,by simp[o]⟩)
    exact⟨by rw[c];rfl,s5 (s5 z j) y⟩
   ·rw[o]at q
    go_wp2_with (go_at_call 62;refine(q _).mono ?_;rintro e M ⟨rfl,y⟩)
    refine⟨⟨k+1,o_,by go_num,?_,s5 j y⟩,by simp[intOf];omega⟩
    rw[F.out,List.all_append,r.out]
    simp[o]
  ·have h:(l.map bl).all UB=true:=by
    have:=r.out
    rwa[Vl (by simp;have:=C.out;omega)]at this
   have m:Hid (xg (l.map bl) (bl first)=if bl first=[] then 2 else 0):=by
    show _=_
    unfold xg;rw[h];simp
   clear h r u t
   by_cases d:bl first=[]
   ·have J:first=⟨#[]⟩:=Wy (d.trans XP.symm);have c:xg (l.map bl) (bl first)=2:=by rw[m.out,if_pos d]
    subst J;have H1:Hid (xg (l.map bl) (bl ⟨#[]⟩)=2):=c;clear c m d
    go_wp2
    go_ret
    exact⟨by rw[H1.out];rfl,s5 z j⟩
   ·have hq:(first.toList.isEmpty)=false:=by rw[V4];simpa using d
    have c:xg (l.map bl) (bl first)=0:=by rw[m.out,if_neg d]
    have H1:Hid (xg (l.map bl) (bl first)=0):=c;clear c m d
    go_wp2
    go_ret
    exact⟨by rw[H1.out];rfl,s5 z j⟩
theorem cJ(first:ByteArray)(d:first.size<=2000000)(w:World):Calls prog 132 #[vG first,v0_] w fun e w'=>e=vR (vI (xg [bl first] (bl first)))/\Bw w w':=by
 refine mu first v0_ [first] (fun s h=>by simp at h;subst h;exact d) s_ w ?_
 have hb:zg (w.alloc (.cells #[vG first] 9)) w.heap.size 9 #[vG first]:=zg.new w 9 _;obtain⟨f,w',c,g,cap,rfl,R⟩:=Wv cE inf9 o_ (w.alloc (.cells #[vG first] 9)) v0_ 0 [] (Vx _ _ _ _) w.heap.size 1 1 o_ [vG first] rfl hb (fun u b=>by simp at b;subst b;rfl) (by unfold maxLen;omega) o_
 refine⟨_,w',c,g,cap,rfl,R.le,R.mx,UI R.own rfl,?_,fun k s a=>?_⟩
 ·have a:=R.zf
  exact(((Below.refl _ _).alloc (Nat.le_refl _) _:Bw w (w.alloc (.cells #[vG first] 9)))).trans ⟨a.os,a.tape,a.output,a.size,fun k i=>a.block k t_ (by simp[Value.ownBlock])⟩
 ·have:=R.own.cells (g:=g) rfl k (vG s) (by
   cases k with
   |zero=>simp at a;subst a;rfl
   |succ k=>simp at a)
  rwa[Addr.add_lit,Nat.zero_add]at this
theorem dJ(s:Bs):xg [s] s=if UB s=false then 1 else if s=[] then 2 else 0:=by
 unfold xg;simp
def strs (l:List Bs):List Value:=l.map fun x=>vG (sb x)
theorem mg:(prog.info? 9).map (fun i=>(i.zero,i.size,i.bytes))=some (some (vG ⟨#[]⟩),1,16):=k_
def qw (s:Bs)(w:World)(e:Ending)(w':World):Prop :=
 (UB s=false/\e=vT #[v0_,.bool false]) \/
 (UB s=true/\∃sl,e=vT #[sl,.bool true]/\w'.ownsRow w.heap.size 9 1 sl (s4 s).length (strs (s4 s)))
theorem rU(p xs:List Bs)(x y:Bs)(b:List Bs)(c:UInt8)(s r:Bs)(f:s≠[])(h:wN s=xs++(x++c::y)::b)(hb:Wz c=false\/4<=x.length):UB s=false:=by
 have e:s4 s=wN s:=by simp[s4,f]
 rw[VY,e,h]
 cases d:UL (xs++(x++c::y)::b)
 ·rfl
 ·have a:=WO d (n:=x++c::y) s_
  rcases hb with hb|hb
  ·simp[Vs,hb]at a
  ·have:=(Yw a).2;simp at this;omega
theorem h0(s:Bs)(f:s≠[])(a b:List Bs)(h:wN s=a++[]::b):UB s=false:=by
 have e:s4 s=wN s:=by simp[s4,f]
 rw[VY,e,h]
 cases d:UL (a++[]::b)
 ·rfl
 ·have c:=WO d (n:=[]) s_
  simp[Vs]at c
theorem so(s:Bs)(b:s≠[])(xs:List Bs)(h:wN s=xs)(c:xs.all Vs=true):UB s=true/\s4 s=xs:=by
 have a:s4 s=wN s:=by simp[s4,b]
 rw[VY,a,h];exact⟨c,rfl⟩
theorem hj(y:Bs)(h:y.all Wz=true)(b:y.length<=4)(a:1<=y.length):Vs y=true:=by
 unfold Vs;rw[h];simp;omega
theorem jK(y:Bs):(sb y).toList.isEmpty=y.isEmpty:=by rw[V4,UO]
theorem dt(xs:List Bs)(y:Bs):strs (xs++[y])=strs xs++[vG (sb y)]:=by simp[strs]
theorem bA(s:ByteArray)(ia:s.size<=2000000)(w:World):
  Calls prog 113 #[vG s] w fun e w'=>qw (bl s) w e w'/\Bw w w':=by
 by_cases B:bl s=[]
 ·have ba:s=⟨#[]⟩:=Wy (B.trans XP.symm);subst ba
  go_enter func113,ntmps113
  go_wp2
  go_ret2
  exact⟨.inr ⟨rfl,_,rfl,Vx _ _ _ _⟩,Below.refl _ _⟩
 have hq:(s.toList.isEmpty)=false:=by rw[V4];simpa using B
 have A:Hid (bl s≠[]):=B;clear B;obtain⟨i0,V,T,R,S⟩:=info_parts mg
 go_enter func113,ntmps113
 go_wp2
 go_loopw [4,5,6] (fun o x i wr=>∃(k:Nat) (xs:List Bs) (y:Bs),i=vI k/\x=vG (sb y)/\wr.ownsRow w.heap.size 9 1 o xs.length (strs xs)/\Bw w wr/\xs.all Vs=true/\y.all Wz=true/\y.length<=4/\xs.length<=k /\
   ((k<=s.size/\wN ((bl s).take k)=xs++[y])\/(k=s.size+1/\wN (bl s)=xs)))
  (fun _ _ i _=>s.size+2-(intOf i).toNat)
 case atStart=>exact⟨0,[],[],rfl,rfl,Vx _ _ _ _,Below.refl _ _,rfl,rfl,s_,Nat.le_refl _,.inl ⟨Nat.zero_le _,by simp[wN]⟩⟩
 case round =>
  obtain⟨k,xs,y,rfl,rfl,n,a,Z,X,P,ka,g⟩:=hrel;have C:Hid (xs.all Vs=true):=Z;have G:Hid (y.all Wz=true):=X;clear Z X
  rcases g with ⟨W,g⟩|⟨W,g⟩
  ·have u:Hid (wN ((bl s).take k)=xs++[y]):=g;clear g
   by_cases Q:k<s.size
   ·have F:Hid ((bl s).drop k=s[k]::(bl s).drop (k+1)):=jA s k Q;have O:Hid ((bl s).take (k+1)=(bl s).take k++[s[k]]):=jB s k Q
    by_cases r:s[k]=47
    ·have N:Hid (s[k]=47):=r;have hb:((s[k].toNat:Int) != 47)=false:=by rw[r];rfl
     clear r;have Y:wN (bl s)=xs++y::wN ((bl s).drop (k+1)):=by
      have q:=Zp ((bl s).take k) ((bl s).drop (k+1));have z:=List.take_append_drop k (bl s);rw[F.out,N.out]at z;rw[z,u.out]at q;rw[q];simp
     have m:Hid (wN (bl s)=xs++y::wN ((bl s).drop (k+1))):=Y;clear Y;have v:=jK y
     cases b:y.isEmpty
     ·rw[b]at v;have D:Hid (Vs y=true):=hj y G.out P (by cases y<;>simp at b ⊢)
      go_wp2_with (at_builtin;refine wpList_append_own _ rfl _ _ 46 rfl w.heap.size 9 i0 (vG ⟨#[]⟩) 1 16 underlying46 V T R S rfl d_ _ _ _ rfl (n.alloc _) (vA wr.heap.size 0) 1 1 [vG (sb y)] rfl rfl (cell_one_new _ _ _) (by simp[Value.oneCell']) (by unfold maxLen;omega) o_ (l_ a.size) ?_;intro f ca H L _)
      go_roundw
      case rel =>
       refine⟨k+1,xs++[y],[],by go_num,rfl,by rw[dt];simpa using H,?_,by simp[C.out,D.out],rfl,s_,by simp;omega,.inl ⟨o_,?_⟩⟩
       ·exact(a.alloc a.size _).grown L (l_ a.size) (fun j J=>(n.lt j J).1)
       ·rw[O.out,N.out,show(bl s).take k++[47]=(bl s).take k++47::[] from rfl,Zp,u.out];simp[wN]
      case measure=>simp[intOf];omega
     ·rw[b]at v;have d:UB (bl s)=false:=h0 _ A.out xs _ (by
       have:=m.out
       cases y with
       |nil=>exact this
       |cons c y=>simp at b)
      go_wp2
      go_ret2
      exact⟨.inl ⟨d,rfl⟩,a⟩
    ·have hb:((s[k].toNat:Int) != 47)=true:=by
      have:=mt (eG s[k] 47 o_).1 r
      simpa using this
     obtain⟨I,l,M⟩:=Zs ((bl s).drop (k+1));have m:Hid (wN (bl s)=xs++(y++s[k]::I)::l):=by
      have q:wN ((bl s).drop k)=(s[k]::I)::l:=by rw[F.out];simp only[wN];rw[if_neg r,M]
      have z:=cK ((bl s).take k) ((bl s).drop k) u.out q;rw[List.take_append_drop]at z;exact z
     have E:Hid (Wz s[k]=(decide (97<=(s[k].toNat:Int))&&decide ((s[k].toNat:Int)<=122))):=gY _;have ga:=Wq y
     by_cases hgood:Wz s[k]=true/\y.length<4
     ·obtain⟨t,U⟩:=hgood;have aa:Hid (Wz s[k]=true):=t;have ea:97<=(s[k].toNat:Int):=by have:=E.out;rw[t]at this;simp at this;omega
      have ja:(s[k].toNat:Int)<=122:=by have:=E.out;rw[t]at this;simp at this;omega
      have ha:((y.length:Int) == 4)=false:=by simp only[beq_eq_false_iff_ne,ne_eq];omega
      clear t M
      go_wp2
      refine⟨⟨k+1,xs,y++[s[k]],by go_num,?_,n,a,C.out,by rw[List.all_append,G.out];simp[aa.out],by simp;omega,o_,.inl ⟨o_,?_⟩⟩,by simp[intOf];omega⟩
      ·exact congrArg vG (Wy (by
        rw[YY,UO,UO,YB,F.out];simp))
      ·rw[O.out,cK ((bl s).take k) [s[k]] u.out (by simp only[wN];rw[if_neg r])]
     ·have d:UB (bl s)=false:=rU [] xs y I l s[k] (bl s) [] A.out m.out (by
       cases K:Wz s[k]
       ·exact .inl rfl
       ·right
        have:¬y.length<4:=fun h=>hgood ⟨K,h⟩
        omega)
      have p:¬(97<=(s[k].toNat:Int))\/¬((s[k].toNat:Int)<=122)\/(y.length:Int)=4:=by
       have q:=E.out
       by_cases a1:97<=(s[k].toNat:Int)
       ·by_cases a2:(s[k].toNat:Int)<=122
        ·right;right
         have K:Wz s[k]=true:=by rw[q];simp[a1,a2]
         have:¬y.length<4:=fun h=>hgood ⟨K,h⟩
         omega
        ·exact .inr (.inl a2)
       ·exact .inl a1
      clear hgood M
      rcases p with p|p|p
      ·go_wp2
       all_goals (go_ret2;exact⟨.inl ⟨d,rfl⟩,a⟩)
      ·go_wp2
       all_goals (go_ret2;exact⟨.inl ⟨d,rfl⟩,a⟩)
      ·have da:((y.length:Int) == 4)=true:=by simp[p]
       clear p
       go_wp2
       all_goals (go_ret2;exact⟨.inl ⟨d,rfl⟩,a⟩)
   ·obtain rfl:k=s.size:=o_;have m:Hid (wN (bl s)=xs++[y]):=by
     have:=u.out
     rwa[Vl (by rw[Wo];omega)]at this
    have v:=jK y
    cases b:y.isEmpty
    ·rw[b]at v;have D:Hid (Vs y=true):=hj y G.out P (by cases y<;>simp at b ⊢)
     go_wp2_with (at_builtin;refine wpList_append_own _ rfl _ _ 46 rfl w.heap.size 9 i0 (vG ⟨#[]⟩) 1 16 underlying46 V T R S rfl d_ _ _ _ rfl (n.alloc _) (vA wr.heap.size 0) 1 1 [vG (sb y)] rfl rfl (cell_one_new _ _ _) (by simp[Value.oneCell']) (by unfold maxLen;omega) o_ (l_ a.size) ?_;intro f ca H L _)
     go_roundw
     case rel =>
      refine⟨s.size+1,xs++[y],[],by go_num,rfl,by rw[dt];simpa using H,?_,by simp[C.out,D.out],rfl,s_,by simp<;>omega,.inr ⟨rfl,m.out⟩⟩
      exact(a.alloc a.size _).grown L (l_ a.size) (fun j J=>(n.lt j J).1)
     case measure=>simp[intOf]
    ·rw[b]at v;have d:UB (bl s)=false:=h0 _ A.out xs [] (by
      have:=m.out
      cases y with
      |nil=>exact this
      |cons c y=>simp at b)
     go_wp2
     go_ret2
     exact⟨.inl ⟨d,rfl⟩,a⟩
  ·obtain⟨t,U⟩:=so _ A.out xs g C.out;subst W;clear g
   go_wp2
   go_ret2
   exact⟨.inr ⟨t,_,rfl,by rw[U];exact n⟩,a⟩
theorem oU(k:List Bs)(h:∀x∈k,x.length<=1000):(kN k).length<=1001*k.length:=by
 induction k with
 |nil=>simp[kN]
 |cons a r c =>
  have d:=h a s_
  by_cases e:r=[]
  ·subst e;simp[kN];omega
  ·rw[XV a r e];have:=c (fun x b=>h x (by simp[b]));simp;omega
theorem iW(ao:Option Addr)(cap:Nat)(l:List Bs)(w:World)(A:l.length<=2000000)(c:∀x∈l,x.length<=1000)(v:l.length<=1000)
  (q:∀(j:Nat) (x:Bs),l[j]?=some x->∃g,ao=some (vA g 0)/\w.cell? (vA g j)=some (vG (sb x))) :
  Calls prog 122 #[.slice ao l.length cap] w fun e w'=>e=vR (vG (sb (kN l)))/\w'=w:=by
 obtain⟨n,f⟩:∃n,n=l.length:=⟨_,rfl⟩;rw[<-f]at A v ⊢;have b:Hid (n=l.length):=f;clear f
 go_enter func122,ntmps122
 go_wp2
 go_loop [3,4] (fun s i=>∃k:Nat,k<=n/\i=vI k/\s=vG (sb (kN (l.take k)))) (fun _ i=>n-(intOf i).toNat)
 case atStart=>exact⟨0,Nat.zero_le _,rfl,rfl⟩
 case round =>
  obtain⟨k,E,rfl,rfl⟩:=hrel
  by_cases t:k<n
  ·have d:k<l.length:=by rw[<-b.out];exact t
   obtain⟨x,a⟩:∃x,l[k]?=some x:=⟨_,Ur d⟩;have p:Hid (l.take (k+1)=l.take k++[x]):=by
    rw[VT d];rw[Ur d]at a;cases a;rfl
   obtain⟨g,u,C⟩:=q k x a;have F:(sb x).size<=1000:=by rw[Wq];exact c x (Uq a)
   have r:(sb (kN (l.take k))).size<=2000000:=by
    rw[Wq];have:=oU (l.take k) (fun y B=>c y (List.mem_of_mem_take B));simp at this;omega
   obtain⟨h,m⟩:∃h,h=sb (kN (l.take k)):=⟨_,rfl⟩;rw[<-m]at r ⊢;have o:Hid (h=sb (kN (l.take k))):=m;clear a q c m;subst u
   rcases Nat.eq_zero_or_pos k with rfl|D
   ·go_wp2
    go_round
    case rel =>
     refine⟨1,o_,by go_num,congrArg vG (Wy ?_)⟩
     have:=p.out
     rw[Nat.zero_add]at this;rw[YY,o.out,UO,UO,UO,this];simp[kN]
    case measure=>simp[intOf];omega
   ·go_wp2
    go_round
    case rel =>
     refine⟨k+1,o_,by go_num,congrArg vG (Wy ?_)⟩
     rw[YY,YY,o.out,UO,UO,UO,p.out,gP _ _ (fun e=>by have z:=congrArg List.length e;rw[List.length_take,List.length_nil]at z;have:=b.out;omega)]
     simp[bl]
    case measure=>simp[intOf];omega
  ·go_wp2
   go_ret
   refine⟨jO (by rw[Vl (by rw[<-b.out];omega)]),rfl⟩
def Uz (L:List zx)(s:Bs):List zx:=L.filter fun e=>e.zj&&xc (kN e.zb) s
def xj (l:List zx):Int:=(l.map (·.n0)).sum
def xi (l:List zx):Int:=(l.map (·.n1)).sum
theorem eL(l:List zx)(h:∀n∈l,0<=n.n0/\n.n0<=1000):0<=xj l/\xj l<=1000*l.length:=by
 induction l with
 |nil=>simp[xj]
 |cons a l d =>
  have b:=d (fun n c=>h n (by simp[c]));have e:=h a s_
  simp[xj]at b ⊢;omega
theorem eM(l:List zx)(h:∀n∈l,0<=n.n1/\n.n1<=1000):0<=xi l/\xi l<=1000*l.length:=by
 induction l with
 |nil=>simp[xi]
 |cons a l d =>
  have b:=d (fun n c=>h n (by simp[c]));have e:=h a s_
  simp[xi]at b ⊢;omega
structure ym (L:List zx):Prop where
 ok:∀e∈L,UL e.zb=true/\e.zb.length<=4
 zm:∀e∈L,(0<=e.n0/\e.n0<=1000)/\(0<=e.n1/\e.n1<=1000)
 len:L.length<=20
 pos:0<L.length
theorem ym.small{L:List zx}(h:ym L){e:zx}(a:e∈L):(sb (kN e.zb)).size<=2000000:=by
 rw[Wq];have:=XY _ (h.ok e a).1;have:=(h.ok e a).2;omega
theorem Zr{g:Nat}{L:List zx}(h:VV w br g cap L a c v3)(E:ym L)(s:ByteArray)(aa:s.size<=2000000):
  Calls prog 203 #[vP br,vG s] w fun e w'=>e=vR (.agg #[vI (xj (Uz L (bl s))),vI (xi (Uz L (bl s)))])/\Bw w w':=by
 have U:=h.zl.lt;obtain⟨n,A⟩:∃n,n=L.length:=⟨_,rfl⟩;have V:=E.len;rw[<-A]at V;have C:Hid (n=L.length):=A;have X:w.cell? (vA br 0)=some (vS g n cap):=by have:=h.zl.cell 0;rw[A];simpa using this
 clear A
 go_enter func203,ntmps203
 go_wp2
 go_loopw [6] (fun i wr=>∃k:Nat,k<=n/\i=vI k/\Bw w wr/\zg wr w.heap.size 35 #[vI 0,vI 0]/\zg wr (w.heap.size+1) 35 #[vI (xj (Uz (L.take k) (bl s))),vI (xi (Uz (L.take k) (bl s)))])
  (fun i _=>n-(intOf i).toNat)
 case atStart=>exact⟨0,Nat.zero_le _,rfl,cl,s6,by refine zg.new' ?_;simp⟩
 case round =>
  obtain⟨k,ka,rfl,q,d,b⟩:=hrel;have u:=h.below q;have ja:=(q.cell (p:=vA br 0) U).trans X
  by_cases T:k<n
  ·have F:k<L.length:=by rw[<-C.out];exact T
   obtain⟨x,f⟩:∃x,L[k]?=some x:=⟨_,Ur F⟩;have S:Hid (L.take (k+1)=L.take k++[x]):=by
    rw[VT F];rw[Ur F]at f;cases f;rfl
   have G:=Uq f;have ca:=u.zq f (j:=0) (v:=vG (sb (kN x.zb))) rfl;have O:=u.zq f (j:=1) (v:=.bool x.zj) rfl;have la:=u.zq f (j:=2) (v:=vI x.n0) rfl;have ma:=u.zq f (j:=3) (v:=vI x.n1) rfl;simp only[Nat.add_zero]at ca;have l:=fun W=>X3 (sb (kN x.zb)) s W (E.small G) aa
   rw[UO]at l;have oa:=(E.zm x G).1;have pa:=(E.zm x G).2;have D:∀e∈Uz (L.take k) (bl s),e∈L:=fun e t=>List.mem_of_mem_take (Vu.1 t).1
   have s0:=eL (Uz (L.take k) (bl s)) (fun e t=>(E.zm e (D e t)).1);have ea:=eM (Uz (L.take k) (bl s)) (fun e t=>(E.zm e (D e t)).2);have ga:(Uz (L.take k) (bl s)).length<=20:=by
    refine Nat.le_trans (Wt _ _) ?_
    simp;have:=C.out;omega
   have P:Uz (L.take (k+1)) (bl s)=Uz (L.take k) (bl s)++(if x.zj&&xc (kN x.zb) (bl s) then [x] else []):=by
    unfold Uz;rw[S.out,List.filter_append];simp[VW]
   have B:Hid (Uz (L.take (k+1)) (bl s)=Uz (L.take k) (bl s)++(if x.zj&&xc (kN x.zb) (bl s) then [x] else [])):=P;clear P;clear f;obtain⟨m,H⟩:∃m,m=xj (Uz (L.take k) (bl s)):=⟨_,rfl⟩;obtain⟨o,I⟩:∃o,o=xi (Uz (L.take k) (bl s)):=⟨_,rfl⟩;rw[<-H]at b s0;rw[<-I]at b ea;have K:Hid (m=xj (Uz (L.take k) (bl s))):=H;have J:Hid (o=xi (Uz (L.take k) (bl s))):=I;clear H I D;have d0:=b.cell 0;have d1:=b.cell 1;have Y:=b.frozen 0;have Z:=b.frozen 1;simp only[s7]at d0 d1;have ha:¬(g=w.heap.size+1):=fun e=>by have:=(h.row.lt g rfl).2;omega
   have na:¬(br=w.heap.size+1):=fun e=>by omega
   cases z:x.zj
   ·rw[z]at O
    go_wp2_with (go_at_call 121;refine(l _).mono ?_;rintro e R ⟨rfl,r⟩;subst r)
    refine⟨⟨k+1,o_,by go_num,q,d,?_⟩,by simp[intOf];omega⟩
    have:=B.out;rw[z]at this;rw[this];have:=K.out;have:=J.out;subst m o;simpa using b
   ·rw[z]at O
    cases y:xc (kN x.zb) (bl s)
    ·rw[y]at l
     go_wp2_with (go_at_call 121;refine(l _).mono ?_;rintro e R ⟨rfl,r⟩;subst r)
     refine⟨⟨k+1,o_,by go_num,q,d,?_⟩,by simp[intOf];omega⟩
     have:=B.out;rw[y]at this;rw[this];have:=K.out;have:=J.out;subst m o;simpa using b
    ·rw[y]at l
     go_wp2_with (go_at_call 121;refine(l _).mono ?_;rintro e R ⟨rfl,r⟩;subst r)
     clear l
     go_region
     go_wp2
     go_region
     go_wp2
     refine⟨⟨k+1,o_,by go_num,((q.setCell s_ _).setCell s_ _).drew.drew,((d.other _ _ s_).other _ _ s_).drew.drew,?_⟩,by simp[intOf];omega⟩
     have ba:=(((b.set 0 (vI (m+x.n0))).set 1 (vI (o+x.n1)))).drew.drew;have M:=B.out;rw[z,y]at M;rw[M];have ia:=K.out;have h3:=J.out;subst m o
     simpa [xj,xi] using ba
  ·have d0:=b.cell 0;have d1:=b.cell 1;have c0:=d.cell 0;have c1:=d.cell 1;have Y:=d.frozen 0;have Z:=d.frozen 1;simp only[s7]at d0 d1 c0 c1
   go_wp2
   have Q:L.take k=L:=Vl (by rw[<-C.out];omega);have da:=(d.set 0 (vI (xj (Uz (L.take k) (bl s))))).set 1 (vI (xi (Uz (L.take k) (bl s))));have N:=da.cell;rw[Q]at N
   refine Us (v:=.agg #[vI (xj (Uz L (bl s))),vI (xi (Uz L (bl s)))]) ?_ rfl ⟨rfl,cl⟩
   rw[Q]
   simp[results,results133,go_sem,N]
end
end Go.Proofs.YtphclnolomgjoaaGreatDoor
