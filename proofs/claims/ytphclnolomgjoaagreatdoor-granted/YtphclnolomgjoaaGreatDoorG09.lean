import Derived.Test.YtphclnolomgjoaaGreatDoorG07
import Derived.Sort.LoopGhostIn
import Derived.LaidEqlPtr
set_option linter.unusedVariables false
set_option linter.unusedSimpArgs false
set_option maxRecDepth 100000
set_option maxHeartbeats 4000000
namespace Go.Proofs.YtphclnolomgjoaaGreatDoor
open Tryz
section
open Go.RowKit Go.Shelf
variable {nodes:List Node}{m n:Node}{W:World}
attribute [local go_sem] Oper.semAt_some
theorem qta(w:World):(binOp .neq 97 (.pointer none) (.pointer none)).run prog w=.ok (.bool false) w:=by
 kernel_rfl
def ups (nodes:List Node):Nat->Node->List Node
 |0,n=>[n]
 |f+1,n=>if n.key=[] then [n] else n::(match findKey nodes n.key.dropLast with|some p=>ups nodes f p|none=>[])
def upsO (nodes:List Node)(f:Nat):Option Node->List Node
 |none=>[]
 |some c=>ups nodes f c
theorem qv8(T:Tree nodes){c:Node}(hc:c∈nodes){f:Nat}(hf:c.key.length<=f):∃(o:Option Node),ups nodes f c=c::upsO nodes (f-1) o/\c.up=o.map (·.blk)/\(∀p,o=some p->p∈nodes/\p.key.length<=f-1):=by
 by_cases hk:c.key=[]
 ·refine⟨none,?_,?_,fun p h=>by cases h⟩
  ·cases f with
   |zero=>rfl
   |succ f=>simp[ups,hk,upsO]
  ·rw[T.top c hc hk];rfl
 ·obtain⟨k,x,hZ⟩:∃k x,c.key=k++[x]:=⟨_,_,(List.dropLast_concat_getLast hk).symm⟩;obtain⟨p,hp,dM,_,dg⟩:=T.par c hc k x hZ;have ay:c.key.length=k.length+1:=by rw[hZ];simp
  refine⟨some p,?_,by rw[dg];rfl,fun q h=>by cases h;exact⟨hp,by rw[dM];omega⟩⟩
  obtain⟨g,rfl⟩:∃g,f=g+1:=⟨f-1,by omega⟩;have kS:findKey nodes c.key.dropLast=some p:=by rw[hZ,List.dropLast_concat];exact qcc T hp dM
  simp only[ups,if_neg hk,kS,upsO,Nat.add_sub_cancel]
theorem qjp(T:Tree nodes):∀(f:Nat) (c:Node),c∈nodes->c.key.length<=f->∀m,m∈ups nodes f c↔(m∈nodes/\m.key <+: c.key):=by
 intro f
 induction f with
 |zero =>
  intro c hc hl m;have hk:c.key=[]:=List.eq_nil_of_length_eq_zero (by omega);simp only[ups,List.mem_singleton]
  constructor
  ·rintro rfl;exact⟨hc,List.prefix_refl _⟩
  ·rintro⟨hm,hp⟩
   rw[hk]at hp
   exact T.inj m hm c hc (by rw[hk];exact List.prefix_nil.1 hp)
 |succ f ih =>
  intro c hc hl m
  by_cases hk:c.key=[]
  ·simp only[ups,if_pos hk,List.mem_singleton]
   constructor
   ·rintro rfl;exact⟨hc,List.prefix_refl _⟩
   ·rintro⟨hm,hp⟩
    rw[hk]at hp
    exact T.inj m hm c hc (by rw[hk];exact List.prefix_nil.1 hp)
  ·obtain⟨k,x,hZ⟩:∃k x,c.key=k++[x]:=⟨_,_,(List.dropLast_concat_getLast hk).symm⟩;obtain⟨p,hp,dM,_,dg⟩:=T.par c hc k x hZ;have ay:c.key.length=k.length+1:=by rw[hZ];simp
   have kS:findKey nodes c.key.dropLast=some p:=by rw[hZ,List.dropLast_concat];exact qcc T hp dM
   simp only[ups,if_neg hk,kS,List.mem_cons,ih p hp (by rw[dM];omega) m];rw[dM]
   constructor
   ·rintro(rfl|⟨h1,h2⟩)
    ·exact⟨hc,List.prefix_refl _⟩
    ·exact⟨h1,by rw[hZ];exact h2.trans (xry _ _)⟩
   ·rintro⟨hm,ax⟩
    rw[hZ]at ax
    rcases List.prefix_concat_iff.1 ax with h|h
    ·left;exact T.inj m hm c hc (by rw[h,hZ])
    ·right;exact⟨hm,h⟩
theorem qx2(nodes:List Node):∀(f:Nat) (c:Node),(ups nodes f c).length<=f+1:=by
 intro f
 induction f with
 |zero=>intro c;simp[ups]
 |succ f ih =>
  intro c;simp only[ups]
  split
  ·simp
  ·split
   ·rename_i p _;have:=ih p;simp;omega
   ·simp
theorem que(T:Tree nodes)(hn:n∈nodes)(w:World)(hN:∀n∈nodes,qaf w n):
  Calls prog 191 #[nptr n.blk] w fun e w'=>e=.returned (.func (.func 223) #[] #[.pointer (some ⟨w.heap.size,0,none⟩)])/\w'=w.alloc (.cells #[nptr n.blk] 97) /\
   ∀Tm:Nat->Prop,(∀n∈nodes,¬Tm n.blk/\∀g,n.sl.ownBlock=some g->¬Tm g)->SeqK prog 223 #[.pointer (some ⟨w.heap.size,0,none⟩)] (fun x:Node=>nptr x.blk) (fun _=>False) Tm (ups nodes 4 n) w':=by
 have jJ:∀(fn:Fn) (first cap:Array Value) (w:World),(Instr.makeFunc fn first cap).run prog w=.ok (.func fn first cap) w:=fun _ _ _ _=>rfl
 have key:∀Tm:Nat->Prop,(∀n∈nodes,¬Tm n.blk/\∀g,n.sl.ownBlock=some g->¬Tm g)->SeqK prog 223 #[.pointer (some ⟨w.heap.size,0,none⟩)] (fun x:Node=>nptr x.blk) (fun _=>False) Tm (ups nodes 4 n) (w.alloc (.cells #[nptr n.blk] 97)):=by
  intro Tm hT m l J Jx W hW hl hJ jz hY h0;have bu:∀k:Nat,Fence.wide.depth.isSome=true->1<=k:=fun k h=>by simp[Fence.wide]at h
  have ke:∀n∈nodes,qaf W n:=fun n hn=>(hN n hn).below (qac ((Below.refl _ _).alloc (Nat.le_refl _) _) hW)
  have hb:W.cell? ⟨w.heap.size,0,none⟩=some (nptr n.blk):=((Box.new w 97 (nptr n.blk)).below hW (by simp)).cell;have Ch:=(T.ok n hn).2;have eZ:=qwr;generalize hXS:ups nodes 4 n=XS at hY ⊢
  refine callsIn_of_wp func223 rfl trivial ?_ rfl
  unfold nptr at hb;simp only[ntmps223,List.size_toArray,List.length_cons,List.length_nil,Nat.reduceAdd,Nat.reduceSub,Array.replicate_succ,Array.replicate_zero,List.push_toArray,List.append_toArray,List.nil_append,List.cons_append]
  gi_wp2
  gi_loopg [3] 5 (fun q v wr=>∃(pre:List Node) (o:Option Node) (f:Nat),v=uptr (o.map (·.blk))/\XS=pre++upsO nodes f o/\(∀c,o=some c->c∈nodes/\c.key.length<=f)/\(upsO nodes f o).length<=q/\J pre wr/\Keep Tm W wr)
  case atStart=>exact⟨[],some n,4,rfl,by rw[<-hXS];rfl,fun c h=>by cases h;exact⟨hn,Ch⟩,qx2 _ _ _,h0,Keep.refl _ _⟩
  case round =>
   obtain⟨pre,o,f,rfl,hx,ho,hq,yF,hk⟩:=hrel;have zl:=qta;have HX:Hid (XS=pre++upsO nodes f o):=hx;clear hx h0 hb hXS
   cases o with
   |none =>
    simp only[uptr,Option.map_none];have aV:J XS wr:=by rw[HX.out];simpa [upsO] using yF
    gi_wp2
    refine⟨fun f h=>(by cases h),?_⟩
    gi_wp2
    go_end0
    exact⟨⟨_,rfl⟩,.inl aV⟩
   |some c =>
    obtain⟨hc,BD⟩:=ho c rfl;obtain⟨o',he,dg,gP⟩:=qv8 T hc BD;have kg:pre++[c] <+: XS:=by rw[HX.out,show upsO nodes f (some c)=c::upsO nodes (f-1) o' from he];exact⟨upsO nodes (f-1) o',by simp⟩
    obtain⟨fn,tmps,assign,body,hy,hR⟩:=hY (m-1) pre c wr yF kg;have oe:=qe1 hT ke hk;have cU:=hR.mono (R':=fun e W'=>(e=.returned (.bool true)/\J (pre++[c]) W'/\Keep Tm wr W'/\W'.cell? ⟨c.blk,6,none⟩=some (uptr (o'.map (·.blk))))\/(e=.returned (.bool false)/\Jx (pre++[c]) W'))
     (fun e W' h=>h.elim (fun ⟨he,hj,hk⟩=>.inl ⟨he,hj,hk,by rw[<-dg];exact((oe c hc).keep hk (hT c hc).1 (hT c hc).2).cell rfl⟩) .inr)
    have HQ:Hid (upsO nodes f (some c)=c::upsO nodes (f-1) o'):=he;clear hR hY he dg;simp only[uptr,Option.map_some];unfold nptr at hy
    gi_wp2_with (refine⟨bu _,?_⟩;refine cU.mono ?_;clear cU;rintro e W2 (⟨rfl,jy,aY,eT⟩|⟨rfl,ji⟩))
    ·gi_roundg ((upsO nodes (f-1) o').length)
     case measure=>have:=HQ.out;rw[this]at hq;simp at hq;omega
     case rel=>exact⟨pre++[c],o',f-1,rfl,by rw[HX.out,HQ.out];simp,gP,Nat.le_refl _,jy,hk.trans aY⟩
    ·go_end0
     exact⟨⟨_,rfl⟩,.inr ⟨_,kg,ji⟩⟩
 unfold nptr at key ⊢
 go_enter func191,ntmps191
 go_wp2
 go_ret
 exact⟨rfl,rfl,key⟩
attribute [local go_sem] Oper.semAt_some
def qa2 (nodes:List Node):Prop:=∀a∈nodes,∀b∈nodes,a.blk=b.blk->a=b
theorem un93:prog.underlying 97=some (.pointer 136):=by kernel_rfl
theorem qzz:(prog.info? 136).map (fun i=>i.size)=some 8:=by kernel_rfl
theorem qxk:∃j,prog.info? 136=some j/\j.size≠0:=by
 have h:=qzz
 cases hi:prog.info? 136 with
 |none=>rw[hi]at h;cases h
 |some j=>rw[hi]at h;simp at h;exact⟨j,rfl,by omega⟩
theorem qsc{x:Node}(hx:qaf W x)(hm:qaf W m):(binOp .eql 97 (.pointer (some ⟨x.blk,0,none⟩)) (.pointer (some ⟨m.blk,0,none⟩))).run prog W=.ok (.bool (x.blk == m.blk)) W:=by
 obtain⟨j,hj,hs⟩:=qxk
 by_cases h:x.blk=m.blk
 ·rw[h,beq_self_eq_true]
  exact run_eql_ptr_same _ _ un93 hj
 ·have hb:(x.blk == m.blk)=false:=by simp[h]
  rw[hb]
  exact run_eql_ptr_other _ un93 hj hs (fun e=>h (by injection e)) hx.at_ hm.at_
theorem qn6(T:Tree nodes)(hB:qa2 nodes)(hn:n∈nodes)(hm:m∈nodes)(w:World)(hN:∀n∈nodes,qaf w n):
  Calls prog 142 #[nptr n.blk,nptr m.blk] w fun e w'=>e=.returned (.bool (m.key.isPrefixOf n.key))/\Below w.heap.size w w':=by
 have bu:∀k:Nat,Fence.wide.depth.isSome=true->1<=k:=fun k h=>by simp[Fence.wide]at h
 have dg:∀W,(∀n∈nodes,qaf W n)->_:=fun W hW=>que T hn W hW
 have af:=qjp T 4 n hn (T.ok n hn).2;generalize hX:ups nodes 4 n=X at dg af
 refine(xrv (n:=3)).1 ?_
 refine callsIn_of_wp_marks func142 rfl trivial ?_ rfl
 unfold nptr at dg ⊢;simp only[ntmps142,List.size_toArray,List.length_cons,List.length_nil,Nat.reduceAdd,Nat.reduceSub,Array.replicate_succ,Array.replicate_zero,List.push_toArray,List.append_toArray,List.nil_append,List.cons_append]
 gi_wp2_with ((first|refine⟨trivial,bu _,?_⟩|refine⟨trivial,?_⟩);gi_at_call 191;refine(xrv.2 (dg _ (fun n hn=>(hN n hn).below (by exact bel1)))).mono ?_;rintro e W ⟨rfl,rfl,aB⟩)
 obtain⟨W,hW⟩:∃W,W=((w.alloc (.cells #[.pointer (some ⟨m.blk,0,none⟩)] 97)).alloc (.cells #[.bool false] 4)).alloc (.cells #[.pointer (some ⟨n.blk,0,none⟩)] 97):=⟨_,rfl⟩;have df:W.heap.size=w.heap.size+3:=by rw[hW];simp
 have e2:((w.alloc (.cells #[.pointer (some ⟨m.blk,0,none⟩)] 97)).alloc (.cells #[.bool false] 4)).heap.size=w.heap.size+1+1:=by simp
 have db:Box W w.heap.size 97 (.pointer (some ⟨m.blk,0,none⟩)):=by rw[hW];exact((Box.new w 97 _).alloc _).alloc _
 have aa:Box W (w.heap.size+1) 4 (.bool false):=by
  rw[hW];have:=Box.new (w.alloc (.cells #[.pointer (some ⟨m.blk,0,none⟩)] 97)) 4 (.bool false);rw[xrt]at this;exact this.alloc _
 have b_:Below w.heap.size w W:=by rw[hW];exact bel1
 rw[e2]at aB;simp only[<-hW]at aB ⊢;have hq:=aB (fun b=>b=w.heap.size+1\/W.heap.size<=b) (fun k hk=>⟨fun h=>by have:=(hN k hk).lt;omega,fun g hg h=>by have:=((hN k hk).row.lt g hg).2;omega⟩);clear aB dg e2 hW;have aA:∀b,b<W.heap.size->¬(False\/W.heap.size<=b):=fun b hb h=>by rcases h with h|h;exact h;omega
 refine qfp (T:=fun b=>b=w.heap.size+1) (S:=fun _=>False) rfl (enters_of func223 (by kernel_rfl) rfl) hq (Below.refl _ _) rfl (fun b h=>h.elim) (fun b h=>by omega)
  (fun pre A=>m ∉ pre/\Box A w.heap.size 97 (.pointer (some ⟨m.blk,0,none⟩))/\Box A (w.heap.size+1) 4 (.bool false)/\Below w.heap.size w A)
  (fun c pre A=>c=.ret/\m∈pre/\Box A (w.heap.size+1) 4 (.bool true)/\Below w.heap.size w A)
  (fun pre A B hs hk=>⟨hs.1,hs.2.1.keep hk (aA _ (by omega)),hs.2.2.1.keep hk (aA _ (by omega)),hs.2.2.2.trans (hk.toBelow hs.2.2.2.size (fun b bg=>aA b (by omega)))⟩)
  (fun c pre A B hs hk=>⟨hs.1,hs.2.1,hs.2.2.1.keep hk (aA _ (by omega)),hs.2.2.2.trans (hk.toBelow hs.2.2.2.size (fun b bg=>aA b (by omega)))⟩)
  ⟨by simp,db,aa,b_⟩
  (fun x=>{tmps:=#[.pointer (some ⟨n.blk,0,none⟩),.pointer (some ⟨m.blk,0,none⟩),undef,.pointer (some ⟨w.heap.size,0,none⟩),.pointer (some ⟨w.heap.size+1,0,none⟩),.pointer (some ⟨x.blk,0,none⟩),.pointer (some ⟨n.blk,0,none⟩),
   .func (.func 223) #[] #[.pointer (some ⟨w.heap.size+1+1,0,none⟩)],.pointer (some ⟨x.blk,0,none⟩),undef,undef,undef],defers:=[]}) ?assign ?body ?done ?stop
 case assign =>
  intro l x W K hK
  gi_wp2
  exact hK
 case body =>
  rintro l pre x W2 ⟨aC,vK,aU,ah⟩ eL ax
  have bZ:=((af x).1 (ax.subset (by simp))).1;have yV:=vK.cell;have hc:=aU.cell;have hf:=aU.frozen;have gH:=qsc ((hN x bZ).below ah) ((hN m hm).below ah)
  by_cases he:x.blk=m.blk
  ·have xz:x=m:=hB x bZ m hm he;subst xz;rw[beq_self_eq_true]at gH;have et:Hid (x ∉ pre):=aC;clear aC he
   gi_wp2
   exact⟨(Keep.refl (fun b=>b=w.heap.size+1) _).setCell (p:=⟨w.heap.size+1,0,none⟩) rfl _,rfl,by simp,aU.set _,ah.setCell (by simp) _⟩
  ·have xz:m≠x:=fun e=>he (by rw[e])
   have BI:(x.blk == m.blk)=false:=by simp[he]
   rw[BI]at gH
   gi_wp2
   exact⟨Keep.refl _ _,by simp[aC,xz],vK,aU,ah⟩
 case done =>
  rintro A ⟨aC,vK,aU,ah⟩ hD
  have hc:=aU.cell;have hf:=aU.frozen
  gi_wp2
  have fV:(A.setCell ⟨w.heap.size+1,0,none⟩ (.bool false)).heap[W.heap.size]?=some (.deferred (some [])):=(Below.heap_setCell _ _ _ _ (by simp;omega)).trans hD;have ag:=((aU.set (.bool false)).put W.heap.size (.deferred none) (by omega)).cell
  refine⟨by simp,.inl ⟨_,_,rfl,run_takeDeferred fV,?_⟩⟩
  refine⟨.bool false,by simp[results,results142,go_sem,ag],qbt ?_,qa0 (ah.setCell (by simp) _) _ _ (by omega)⟩
  cases hp:m.key.isPrefixOf n.key with
  |false=>rfl
  |true=>exact absurd ((af m).2 ⟨hm,xrw.1 hp⟩) aC
 case stop =>
  rintro c pre A ax ⟨rfl,hv,aU,ah⟩ hD
  gi_wp2
  have ag:=(aU.put W.heap.size (.deferred none) (by omega)).cell
  refine⟨by simp,.inl ⟨_,_,rfl,run_takeDeferred hD,?_⟩⟩
  refine⟨.bool true,by simp[results,results142,go_sem,ag],qbt ?_,qa0 ah _ _ (by omega)⟩
  exact(xrw.2 ((af m).1 (ax.subset hv)).2).symm
end
section
open Go.RowKit
variable {W W' w:World}{nodes:List Node}{v va:Value}{B b bt i rr:Nat}{m n:Node}{t:TypeId}{vs:Array Value}
structure Pw where
 blk:Nat
 x:Wk
 q:Nat
variable {l:List Pw}{p:Pw}
def Pw.cells(p:Pw):Array Value:=#[.int .i64 p.x.num,nptr p.q,.int .i64 p.x.d0,.int .i64 p.x.d1]
def qa1 (l:List Pw):List Value:=l.map fun p=>nptr p.blk
structure qid (W:World) (nodes:List Node) (v:Value) (l:List Pw):Prop where
 row:W.ownsRow 0 95 1 v l.length (qa1 l)
 works:∀p∈l,Blk W p.blk 105 p.cells
 leaf:∀p∈l,∃n∈nodes,n.blk=p.q/\n.key=p.x.key
 num:∀p∈l,(0<=p.x.d0/\p.x.d0<=1000)/\(0<=p.x.d1/\p.x.d1<=1000)
 len:l.length<=24
theorem qid.below(h:qid W nodes v l)(hb:Below W.heap.size W W'):qid W' nodes v l :=
 ⟨qae (T:=fun _=>False) h.row (Keep.new hb) (fun _ _ e=>e),fun p hp=>(h.works p hp).below hb (h.works p hp).lt,h.leaf,h.num,h.len⟩
theorem qid.at_(h:qid W nodes v l)(hi:l[i]?=some p):∃g cap,v=.slice (some ⟨g,0,none⟩) l.length cap/\g<W.heap.size/\l.length<=cap/\cap<=maxLen/\W.cell? ⟨g,i,none⟩=some (nptr p.blk):=by
 obtain⟨g,cap,rfl,h1,h2⟩:=qa9 h.row (Nat.lt_of_le_of_lt (Nat.zero_le _) (xr0.1 hi).1)
 have:=h.row.cells (g:=g) rfl i (nptr p.blk) (by unfold qa1;rw[xrs,hi];rfl)
 rw[Addr.add_lit,Nat.zero_add]at this
 exact⟨g,cap,rfl,qar h.row rfl,h1,h2,this⟩
theorem qid.form(h:qid W nodes v l):∃a cap,v=.slice a l.length cap:=by
 rcases h.row.2 with ⟨rfl,h0⟩|⟨g,cap,aG,rfl,_⟩
 ·exact⟨none,0,by rw[h0]⟩
 ·exact⟨_,_,rfl⟩
def pun (l:List Pw)(k:List Bs):List Wk:=(l.map (·.x)).filter fun x=>k.isPrefixOf x.key
theorem qvw(l:List Pw)(p:Pw)(k:List Bs):pun (l++[p]) k=pun l k++(if k.isPrefixOf p.x.key then [p.x] else []):=by
 unfold pun;rw[List.map_append,List.filter_append];simp[xrz]
theorem qth(h:∀p∈l,(0<=p.x.d0/\p.x.d0<=1000)/\(0<=p.x.d1/\p.x.d1<=1000))(hl:l.length<=24)(k:List Bs):(0<=ws0 (pun l k)/\ws0 (pun l k)<=24000)/\(0<=ws1 (pun l k)/\ws1 (pun l k)<=24000):=by
 have aD:∀x∈pun l k,∃p∈l,p.x=x:=fun x hx=>by
  obtain⟨p,hp,e⟩:=xrq.1 (xrr.1 hx).1;exact⟨p,hp,e⟩
 have ay:(pun l k).length<=24:=Nat.le_trans (xrh _ _) (by simpa using hl);have s0:=qwx (pun l k) (fun x hx=>by obtain⟨p,hp,rfl⟩:=aD x hx;exact(h p hp).1);have s1:=qwy (pun l k) (fun x hx=>by obtain⟨p,hp,rfl⟩:=aD x hx;exact(h p hp).2)
 omega
theorem qhv(T:Tree nodes)(hB:qa2 nodes)(w:World)(hN:∀n∈nodes,qaf w n)(bt:Nat)(cP:w.cell? ⟨bt,3,none⟩=some va)(hA:qid w nodes va l)(hm:m∈nodes):
  Calls prog 106 #[.pointer (some ⟨bt,1,none⟩),nptr m.blk] w fun e w'=>e=.returned (.agg #[.int .i64 (ws0 (pun l m.key)),.int .i64 (ws1 (pun l m.key))])/\Below w.heap.size w w':=by
 have cC:=xrb w _ cP
 simp only at cC
 have bL:=fun W (hW:Below w.heap.size w W) p (hp:p∈l)=>(show Calls prog 142 #[nptr p.q,nptr m.blk] W fun e w'=>e=.returned (.bool (m.key.isPrefixOf p.x.key))/\Below W.heap.size W w' from by
  obtain⟨n,hn,e1,e2⟩:=hA.leaf p hp;rw[<-e1,<- e2]
  exact qn6 T hB hn hm W (fun k hk=>(hN k hk).below hW))
 obtain⟨a,cap,sw⟩:=hA.form;have bG:=fun W (hW:Below w.heap.size w W) i p (hi:l[i]?=some p)=>(hA.below hW).at_ hi
 obtain⟨n,hn⟩:∃n,n=l.length:=⟨_,rfl⟩;have ay:=hA.len;rw[<-hn]at ay sw bG;have HN:Hid (n=l.length):=hn;clear hn;rw[sw]at cP bG;unfold nptr at bL ⊢;have Et:(w.alloc (.cells #[.int .i64 0,.int .i64 0] 35)).heap.size=w.heap.size+1:=by simp
 go_enter func106,ntmps106
 go_wp2
 go_loopw [13] (fun i wr=>∃k:Nat,k<=n/\i=.int .i64 k/\Below w.heap.size w wr/\Blk wr w.heap.size 35 #[.int .i64 0,.int .i64 0]/\Blk wr (w.heap.size+1) 35 #[.int .i64 (ws0 (pun (l.take k) m.key)),.int .i64 (ws1 (pun (l.take k) m.key))]) (fun i _=>n-(intOf i).toNat)
 case atStart=>exact⟨0,Nat.zero_le _,rfl,by exact bel2,by exact blk2,by refine Blk.new' ?_;simp⟩
 case round =>
  obtain⟨k,hk,rfl,ah,bm,bO⟩:=hrel
  by_cases an:k<n
  ·have bM:k<l.length:=by rw[<-HN.out];exact an
   obtain⟨p,hp⟩:∃p,l[k]?=some p:=⟨_,xr1 bM⟩;have cm:=xr2 hp;have HT:Hid (l.take (k+1)=l.take k++[p]):=by
    show _=_
    rw[xrf bM];rw[xr1 bM]at hp;cases hp;rfl
   obtain⟨g,av,he,bK,cL,eT,zd⟩:=bG _ ah k p hp;injection he with oF _ BJ;subst oF BJ;have mi:=(hA.works p cm).below ah (hA.works p cm).lt;have dR:=(hA.works p cm).lt;have x1:=mi.cell 1;have ry:=fun W hW=>bL W hW p cm
   have iF:=qth (l:=l.take k) (fun q hq=>hA.num q (List.mem_of_mem_take hq)) (by simp;omega) m.key;have gl:=hA.num p cm;unfold Pw.cells nptr at x1 mi;simp only[xq0,xq1,xq2]at x1;have jH:(k:Int)<n:=by omega
   have eV:(0:Int)<=k:=by omega
   clear hp bG bL;unfold nptr at zd;have dW:Hid (∀(W:World) (e0 e1:Int),Below w.heap.size w W->Blk W w.heap.size 35 #[.int .i64 0,.int .i64 0]->Blk W (w.heap.size+1) 35 #[.int .i64 e0,.int .i64 e1]->e0=ws0 (pun (l.take (k+1)) m.key)->e1=ws1 (pun (l.take (k+1)) m.key)->(∃nz:Nat,nz<=n/\Value.int .i64 ((k:Int)+1)=Value.int .i64 nz/\Below w.heap.size w W/\Blk W w.heap.size 35 #[.int .i64 0,.int .i64 0]/\Blk W (w.heap.size+1) 35 #[.int .i64 (ws0 (pun (l.take nz) m.key)),.int .i64 (ws1 (pun (l.take nz) m.key))])/\n-(intOf (Value.int .i64 ((k:Int)+1))).toNat<n-(intOf (Value.int .i64 (k:Int))).toNat) :=
    fun W e0 e1 h1 h2 h3 h4 h5=>⟨⟨k+1,by omega,by go_num,h1,h2,by rw[<-h4,<- h5];exact h3⟩,by simp[intOf];omega⟩
   have HS:Hid (pun (l.take (k+1)) m.key=pun (l.take k) m.key++(if m.key.isPrefixOf p.x.key then [p.x] else [])):=by
    show _=_
    rw[HT.out,qvw]
   obtain⟨e0,nG⟩:∃e0,e0=ws0 (pun (l.take k) m.key):=⟨_,rfl⟩;obtain⟨e1,oF⟩:∃e1,e1=ws1 (pun (l.take k) m.key):=⟨_,rfl⟩;rw[<-nG,<- oF]at bO iF;have xP:Hid (e0=ws0 (pun (l.take k) m.key)):=nG;have xQ:Hid (e1=ws1 (pun (l.take k) m.key)):=oF;clear nG oF
   go_wp2_with fail
   refine(ry _ ah).mono ?_
   rintro e w1 ⟨rfl,aa⟩
   have au:Below w.heap.size w w1:=qac ah aa;have As:=bm.below aa bm.lt;have lP:=bO.below aa bO.lt;have uF:=mi.below aa mi.lt;clear ry bm bO mi zd x1
   cases ax:m.key.isPrefixOf p.x.key
   ·go_wp2_with fail
    refine dW.out _ e0 e1 au As lP ?_ ?_
    ·rw[HS.out,ax,xP.out];simp
    ·rw[HS.out,ax,xQ.out];simp
   ·have z0:=lP.cell 0;have z1:=lP.cell 1;have y2:=uF.cell 2;have y3:=uF.cell 3;have r0:=lP.frozen 0;have r1:=lP.frozen 1;simp only[xq0,xq1,xq2]at z0 z1 y2 y3;have fq:=fun W=>qir e0 e1 p.x.d0 p.x.d1 W (by omega) (by omega) (by omega) (by omega) (by omega) (by omega) (by omega) (by omega)
    have uq:Hid (∀W:World,Below w.heap.size w W->Blk W w.heap.size 35 #[.int .i64 0,.int .i64 0]->Blk W (w.heap.size+1) 35 #[.int .i64 (e0+p.x.d0),.int .i64 (e1+p.x.d1)]->(∃nz:Nat,nz<=n/\Value.int .i64 ((k:Int)+1)=Value.int .i64 nz/\Below w.heap.size w W/\Blk W w.heap.size 35 #[.int .i64 0,.int .i64 0]/\Blk W (w.heap.size+1) 35 #[.int .i64 (ws0 (pun (l.take nz) m.key)),.int .i64 (ws1 (pun (l.take nz) m.key))])/\n-(intOf (Value.int .i64 ((k:Int)+1))).toNat<n-(intOf (Value.int .i64 (k:Int))).toNat):=fun W h1 h2 h3=>dW.out W _ _ h1 h2 h3 (by rw[HS.out,ax,xP.out];simp[ws0]) (by rw[HS.out,ax,xQ.out];simp[ws1])
    clear dW HS ax;have lb:=lP.lt;have lp:=uF.lt
    go_upto_region 6 with fail
    go_region_with (go_at_call 139;refine(fq _).mono ?_;rintro e w2 ⟨rfl,ag⟩;have aR:Below w.heap.size w w2:=qac (by exact bel2) ag;have At:Blk w2 w.heap.size 35 #[.int .i64 0,.int .i64 0]:=Blk.below (by exact blk2) ag (by first|omega|(simp<;>omega));have mu:Blk w2 (w.heap.size+1) 35 #[.int .i64 e0,.int .i64 e1]:=Blk.below (by exact blk2) ag (by first|omega|(simp<;>omega));have q0:=mu.cell 0;have q1:=mu.cell 1;have s0:=mu.frozen 0;have s1:=mu.frozen 1;simp only[xq0,xq1,xq2]at q0 q1)
    all_goals go_wp2_with fail
    all_goals refine uq.out _ ((aR.setCell (by simp) _).setCell (by simp) _) ((At.other _ _ (by simp)).other _ _ (by simp)) ?_
    all_goals have:=(mu.set 0 (.int .i64 (e0+p.x.d0))).set 1 (.int .i64 (e1+p.x.d1))
    all_goals simpa using this
  ·have d0:=bO.cell 0;have d1:=bO.cell 1;have c0:=bm.cell 0;have c1:=bm.cell 1;have f0:=bm.frozen 0;have f1:=bm.frozen 1;simp only[xq0,xq1,xq2]at d0 d1 c0 c1
   go_wp2
   have xX:l.take k=l:=xrd (by rw[<-HN.out];omega);have vF:=(bm.set 0 (.int .i64 (ws0 (pun (l.take k) m.key)))).set 1 (.int .i64 (ws1 (pun (l.take k) m.key)));have mK:=vF.cell;rw[xX]at mK
   refine xrn (v:=.agg #[.int .i64 (ws0 (pun l m.key)),.int .i64 (ws1 (pun l m.key))]) ?_ rfl ⟨rfl,by exact bel2⟩
   rw[xX]
   simp[results,results106,go_sem,mK]
def abv (a c:Int):Int:=max 0 (a-c)
theorem qgj(a b c d:Int)(w:World)(h1:0<=a)(h2:a<=100000)(h3:0<=b)(h4:b<=100000)(h5:0<=c)(h6:c<=100000)(h7:0<=d)(h8:d<=100000):
  Calls prog 189 #[.agg #[.int .i64 a,.int .i64 b],.agg #[.int .i64 c,.int .i64 d]] w fun e w'=>e=.returned (.agg #[.int .i64 (abv a c),.int .i64 (abv b d)])/\Below w.heap.size w w':=by
 go_enter func189,ntmps189
 go_wp2
 refine wp_loop_rounds 3 ?_
 rw[rounds_succ];go_wp2
 go_region
 all_goals go_wp2
 all_goals rw[rounds_succ]
 all_goals go_wp2
 all_goals go_region
 all_goals go_wp2
 all_goals rw[rounds_succ]
 all_goals go_wp2
 all_goals refine xrn (v:=.agg #[.int .i64 (abv a c),.int .i64 (abv b d)]) ?_ rfl ⟨rfl,by exact bel1⟩
 all_goals simp[results,results189,go_sem]
 all_goals (unfold abv;omega)
def pn0 (nodes:List Node)(k:List Bs):Int:=sum0 (under nodes k)
def pn1 (nodes:List Node)(k:List Bs):Int:=sum1 (under nodes k)
theorem qna(T:Tree nodes)(k:List Bs):(0<=pn0 nodes k/\pn0 nodes k<=20000)/\(0<=pn1 nodes k/\pn1 nodes k<=20000):=by
 have aD:∀n∈under nodes k,n∈nodes:=fun n hn=>(xrr.1 hn).1
 have ay:(under nodes k).length<=20:=Nat.le_trans (xrh _ _) T.len;have s0:=qt0 (under nodes k) (fun n hn=>(T.num n (aD n hn)).1);have s1:=qt2 (under nodes k) (fun n hn=>(T.num n (aD n hn)).2.1);unfold pn0 pn1
 omega
theorem qcy(T:Tree nodes)(hn:n∈nodes)(w:World)(hN:∀n∈nodes,qaf w n):
  Calls prog 85 #[nptr n.blk] w fun e w'=>e=.returned (.agg #[.int .i64 (pn0 nodes n.key),.int .i64 (pn1 nodes n.key)])/\Below w.heap.size w w':=by
 obtain⟨ch,K⟩:=T.ch;have h:=qoj T K hn (by have:=qo4 T K hn;omega) w hN;rw[qv3 T K hn,qv4 T K hn]at h
 exact h
theorem qkm(T:Tree nodes)(hn:n∈nodes)(w:World)(hN:∀n∈nodes,qaf w n):
  Calls prog 190 #[nptr n.blk] w fun e w'=>e=.returned (.agg #[.int .i64 (pn0 nodes n.key+n.b0),.int .i64 (pn1 nodes n.key+n.b1)])/\Below w.heap.size w w':=by
 have jL:=fun W (hW:Below w.heap.size w W)=>qcy T hn W (fun k hk=>(hN k hk).below hW)
 have iF:=qna T n.key;have ej:=(T.num n hn).2.2.1;have wK:=(T.num n hn).2.2.2.1;have fq:=fun W=>qir (pn0 nodes n.key) (pn1 nodes n.key) n.b0 n.b1 W (by omega) (by omega) (by omega) (by omega) (by omega) (by omega) (by omega) (by omega)
 have yJ:=fun W (hW:Below w.heap.size w W)=>(hN n hn).below hW
 have bj:∀W,Below w.heap.size w W->W.cell? ⟨n.blk,4,none⟩=some (.int .i64 n.b0)/\W.cell? ⟨n.blk,5,none⟩=some (.int .i64 n.b1):=fun W hW=>⟨(yJ W hW).cell rfl,(yJ W hW).cell rfl⟩
 have an:=(hN n hn).lt;generalize pn0 nodes n.key=e0 at *;generalize pn1 nodes n.key=e1 at *;have b0:Blk (w.alloc (.cells #[.int .i64 0,.int .i64 0] 35)) w.heap.size 35 #[.int .i64 0,.int .i64 0]:=Blk.new w 35 _;have bh:Below w.heap.size w (w.alloc (.cells #[.int .i64 0,.int .i64 0] 35)):=by exact bel2
 obtain⟨c4,c5⟩:=bj _ bh;unfold nptr at jL ⊢
 go_enter func190,ntmps190
 go_upto_region 1 with fail
 generalize (w.alloc (.cells #[.int .i64 0,.int .i64 0] 35))=W0 at b0 bh c4 c5 ⊢;have lb:=b0.lt
 go_region_with (first
  |(go_at_call 139;refine(fq _).mono ?_;rintro e w2 ⟨rfl,ag⟩;have aR:Below w.heap.size w w2:=qac (by exact bel2) ag;have b2:Blk w2 w.heap.size 35 #[.int .i64 0,.int .i64 0]:=Blk.below (by exact blk2) ag b1.lt;have q0:=b2.cell 0;have q1:=b2.cell 1;have q2:=b2.frozen 0;have q3:=b2.frozen 1;simp only[xq0,xq1,xq2]at q0 q1)
  |(go_at_call 85;refine(jL _ ?_).mono ?_;(focus exact bel2);rintro e w1 ⟨rfl,aa⟩;have au:Below w.heap.size w w1:=qac (by exact bel2) aa;have b1:Blk w1 w.heap.size 35 #[.int .i64 0,.int .i64 0]:=Blk.below (by exact blk2) aa (by first|omega|(simp<;>omega));obtain⟨d4,d5⟩:=bj _ au))
 all_goals go_wp2_with fail
 all_goals have b3:=(b2.set 0 (.int .i64 (e0+n.b0))).set 1 (.int .i64 (e1+n.b1))
 all_goals have qW:=b3.cell
 all_goals refine xrn (v:=.agg #[.int .i64 (e0+n.b0),.int .i64 (e1+n.b1)]) (by simp[results,results190,go_sem,qW]) rfl ⟨rfl,by exact bel2⟩
structure Rd (W:World) (nodes:List Node) (bt rr:Nat) (va:Value) (l:List Pw):Prop where
 ins:∀n∈nodes,qaf W n
 bk:W.cell? ⟨rr,1,none⟩=some (.pointer (some ⟨bt,1,none⟩))
 ad:W.cell? ⟨bt,3,none⟩=some va
 ps:qid W nodes va l
theorem Rd.below(h:Rd W nodes bt rr va l)(hb:Below W.heap.size W W'):Rd W' nodes bt rr va l :=
 ⟨fun n hn=>(h.ins n hn).below hb,(hb.cell (p:=⟨rr,1,none⟩) (xrb _ _ h.bk)).trans h.bk,(hb.cell (p:=⟨bt,3,none⟩) (xrb _ _ h.ad)).trans h.ad,h.ps.below hb⟩
theorem Rd.qx3(h:Rd W nodes bt rr va l)(T:Tree nodes)(hB:qa2 nodes)(hm:m∈nodes):
  Calls prog 106 #[.pointer (some ⟨bt,1,none⟩),nptr m.blk] W fun e w'=>e=.returned (.agg #[.int .i64 (ws0 (pun l m.key)),.int .i64 (ws1 (pun l m.key))])/\Below W.heap.size W w' :=
 qhv T hB W h.ins bt h.ad h.ps hm
theorem Rd.ubd(h:Rd W nodes bt rr va l)(k:List Bs):(0<=ws0 (pun l k)/\ws0 (pun l k)<=24000)/\(0<=ws1 (pun l k)/\ws1 (pun l k)<=24000):=qth h.ps.num h.ps.len k
theorem qdn{x y:Value}(h:Blk W b 35 #[x,y])(p q:Value):Blk ((W.setCell ⟨b,0,none⟩ p).setCell ⟨b,1,none⟩ q) b 35 #[p,q]:=by
 have:=(h.set 0 p).set 1 q
 simpa using this
theorem qfu{c:Nat}(h:Blk W c t vs)(hn:c≠b)(p q:Value):Blk ((W.setCell ⟨b,0,none⟩ p).setCell ⟨b,1,none⟩ q) c t vs:=(h.other _ _ hn).other _ _ hn
theorem qbu(h:Below B w W)(hb:B<=b)(p q:Value):Below B w ((W.setCell ⟨b,0,none⟩ p).setCell ⟨b,1,none⟩ q):=(h.setCell hb _).setCell hb _
theorem qks(T:Tree nodes)(hB:qa2 nodes)(h:Rd w nodes bt rr va l)(hm:m∈nodes)(a b:Int)(ha:0<=a/\a<=1000)(hb:0<=b/\b<=1000):
  Calls prog 216 #[.pointer (some ⟨rr,0,none⟩),nptr m.blk,.agg #[.int .i64 a,.int .i64 b]] w fun e w'=>e=.returned (.agg #[.int .i64 (abv (ws0 (pun l m.key)+a) (pn0 nodes m.key+m.b0)),.int .i64 (abv (ws1 (pun l m.key)+b) (pn1 nodes m.key+m.b1))])/\Below w.heap.size w w':=by
 have ic:=fun W (hW:Below w.heap.size w W)=>(h.below hW).qx3 T hB hm
 have fP:=fun W (hW:Below w.heap.size w W)=>qkm T hm W (h.below hW).ins
 have tW:rr<w.heap.size:=xrb _ _ h.bk;have iG:=fun W (hW:Below w.heap.size w W)=>(h.below hW).bk
 have ubd:=h.ubd m.key;have sZ:=qna T m.key;have ej:=(T.num m hm).2.2.1;have wK:=(T.num m hm).2.2.2.1;generalize ws0 (pun l m.key)=u0 at *;generalize ws1 (pun l m.key)=u1 at *;generalize pn0 nodes m.key=n0 at *;generalize pn1 nodes m.key=n1 at *;have fq:=fun W=>qir u0 u1 a b W (by omega) (by omega) (by omega) (by omega) (by omega) (by omega) (by omega) (by omega)
 have dY:=fun W=>qgj (u0+a) (u1+b) (n0+m.b0) (n1+m.b1) W (by omega) (by omega) (by omega) (by omega) (by omega) (by omega) (by omega) (by omega)
 have b5:Blk ((w.alloc (.cells #[.int .i64 a,.int .i64 b] 35)).alloc (.cells #[.int .i64 0,.int .i64 0] 35)) w.heap.size 35 #[.int .i64 a,.int .i64 b]:=by exact blk2
 have b6:Blk ((w.alloc (.cells #[.int .i64 a,.int .i64 b] 35)).alloc (.cells #[.int .i64 0,.int .i64 0] 35)) (w.heap.size+1) 35 #[.int .i64 0,.int .i64 0]:=Blk.new' (by simp);have bh:Below w.heap.size w ((w.alloc (.cells #[.int .i64 a,.int .i64 b] 35)).alloc (.cells #[.int .i64 0,.int .i64 0] 35)):=by exact bel2
 unfold nptr at ic fP ⊢
 go_enter func216,ntmps216
 go_upto_region 1 with fail
 generalize ((w.alloc (.cells #[.int .i64 a,.int .i64 b] 35)).alloc (.cells #[.int .i64 0,.int .i64 0] 35))=W0 at b5 b6 bh ⊢;have fK:=bh.size;have k1:=iG _ bh;have z0:=b5.cell 0;have z1:=b5.cell 1;have l5:=b5.lt;have l6:=b6.lt;simp only[xq0,xq1,xq2]at z0 z1;have xD:¬(w.heap.size=W0.heap.size):=(by omega);have sS:¬(rr=W0.heap.size):=(by omega);have xE:¬(W0.heap.size=w.heap.size):=(by omega);have sU:¬(W0.heap.size=rr):=(by omega)
 go_cut [7] from 8 (fun q wx=>∃b7,q=.pointer (some ⟨b7,0,none⟩)/\Below w.heap.size w wx/\Blk wx (w.heap.size+1) 35 #[.int .i64 0,.int .i64 0]/\Blk wx b7 35 #[.int .i64 (u0+a),.int .i64 (u1+b)]/\w.heap.size+1<b7)
 case first =>
  go_region_held3 (fun w'=>w'.cell? ⟨rr,1,none⟩=some (.pointer (some ⟨bt,1,none⟩))/\w'.cell? ⟨w.heap.size,0,none⟩=some (.int .i64 a)/\w'.cell? ⟨w.heap.size,1,none⟩=some (.int .i64 b)) (go_keep)
   (first
   |(go_at_call 106;refine(ic _ ?_).mono ?_;(focus exact bel2);rintro e w1 ⟨rfl,aa⟩;have au:Below w.heap.size w w1:=qac (by exact bel2) aa;have lP:Blk w1 w.heap.size 35 #[.int .i64 a,.int .i64 b]:=Blk.below (by exact blk2) aa (by first|omega|(simp<;>omega));have ie:Blk w1 (w.heap.size+1) 35 #[.int .i64 0,.int .i64 0]:=Blk.below (by exact blk2) aa (by first|omega|(simp<;>omega));have k2:=iG _ au;have y0:=lP.cell 0;have y1:=lP.cell 1;have EI:=lP.lt;have sP:=ie.lt;have dv:=au.size;have sV:¬(w.heap.size=w1.heap.size):=(by omega);have xF:¬(rr=w1.heap.size):=(by omega);have CY:¬(w1.heap.size=w.heap.size):=(by omega);have zL:¬(w1.heap.size=rr):=(by omega);simp only[xq0,xq1,xq2]at y0 y1;(try (have fL:Blk w1 W0.heap.size 35 #[.int .i64 0,.int .i64 0]:=Blk.below (by first|(with_reducible exact Blk.new' (by simp))|(with_reducible exact Blk.drew (Blk.new' (by simp)))) aa (by simp);have xA:=fL.lt)))
   |(go_at_call 139;refine(fq _).mono ?_;rintro e w2 ⟨rfl,ag⟩;have aR:Below w.heap.size w w2:=qac (by exact bel2) ag;have mu:Blk w2 w.heap.size 35 #[.int .i64 a,.int .i64 b]:=Blk.below (by exact blk2) ag (by first|omega|(simp<;>omega));have fT:Blk w2 (w.heap.size+1) 35 #[.int .i64 0,.int .i64 0]:=Blk.below (by exact blk2) ag (by first|omega|(simp<;>omega));have k3:=iG _ aR;have x0:=mu.cell 0;have x1:=mu.cell 1;have EJ:=mu.lt;have CR:=fT.lt;have fm:=aR.size;have sX:¬(w.heap.size=w2.heap.size):=(by omega);have xG:¬(rr=w2.heap.size):=(by omega);have Da:¬(w2.heap.size=w.heap.size):=(by omega);have zM:¬(w2.heap.size=rr):=(by omega);simp only[xq0,xq1,xq2]at x0 x1;(try (have eR:Blk w2 W0.heap.size 35 #[.int .i64 0,.int .i64 0]:=Blk.below (by with_reducible exact fL) ag (by omega);have c7:=eR.cell;have g7:=eR.frozen;have xB:=eR.lt));(try (have eR:Blk w2 w1.heap.size 35 #[.int .i64 0,.int .i64 0]:=Blk.below (by first|(with_reducible exact Blk.new' (by simp))|(with_reducible exact Blk.drew (Blk.new' (by simp)))) ag (by simp);have c7:=eR.cell;have g7:=eR.frozen;have xB:=eR.lt))))
  all_goals go_wp2_with fail
  ·go_meet
   exact⟨_,rfl,aR.alloc fm _,fT.alloc _,Blk.new' rfl,by omega⟩
  ·go_meet
   exact⟨_,rfl,qbu aR (by omega) ..,qfu fT (by omega) ..,qdn eR ..,by omega⟩
  ·go_meet
   exact⟨_,rfl,qbu aR (by omega) ..,qfu fT (by omega) ..,qdn eR ..,by omega⟩
 case rest =>
  obtain⟨b7,rfl,dD,uE,kv,rL⟩:=hcut;clear b5 b6 bh z0 z1 k1 xD sS xE sU ic fq iG;have z0:=kv.cell 0;have z1:=kv.cell 1;have CS:=uE.lt;have CT:=kv.lt;simp only[xq0,xq1,xq2]at z0 z1
  go_upto_region 2 with fail
  go_region_with (first
   |(go_at_call 189;refine(dY _).mono ?_;rintro e w2 ⟨rfl,ag⟩;have aR:Below w.heap.size w w2:=qac (by exact bel2) ag;have fT:Blk w2 (w.heap.size+1) 35 #[.int .i64 0,.int .i64 0]:=Blk.below (by exact blk2) ag (by first|exact ie.lt|omega|(simp<;>omega));have q0:=fT.cell 0;have q1:=fT.cell 1;have q2:=fT.frozen 0;have q3:=fT.frozen 1;simp only[xq0,xq1,xq2]at q0 q1)
   |(go_at_call 190;refine(fP _ ?_).mono ?_;(focus exact bel2);rintro e w1 ⟨rfl,aa⟩;have au:Below w.heap.size w w1:=qac (by exact bel2) aa;have ie:Blk w1 (w.heap.size+1) 35 #[.int .i64 0,.int .i64 0]:=Blk.below (by exact blk2) aa (by first|omega|(simp<;>omega));have fL:Blk w1 b7 35 #[.int .i64 (u0+a),.int .i64 (u1+b)]:=Blk.below (by exact blk2) aa (by first|omega|(simp<;>omega));have y0:=fL.cell 0;have y1:=fL.cell 1;have sP:=ie.lt;simp only[xq0,xq1,xq2]at y0 y1))
  all_goals go_wp2_with fail
  all_goals have mv:=qdn fT (.int .i64 (abv (u0+a) (n0+m.b0))) (.int .i64 (abv (u1+b) (n1+m.b1)))
  all_goals have qW:=mv.cell
  all_goals exact xrn (v:=.agg #[.int .i64 (abv (u0+a) (n0+m.b0)),.int .i64 (abv (u1+b) (n1+m.b1))]) (by simp[results,results216,go_sem,qW]) rfl ⟨rfl,qbu aR (by omega) ..⟩
structure PwIn (W:World) (nodes:List Node) (p:Pw):Prop where
 at_:Blk W p.blk 105 p.cells
 leaf:∃n∈nodes,n.blk=p.q/\n.key=p.x.key
 num:(0<=p.x.d0/\p.x.d0<=1000)/\(0<=p.x.d1/\p.x.d1<=1000)
theorem PwIn.below(h:PwIn W nodes p)(hb:Below W.heap.size W W'):PwIn W' nodes p:=⟨h.at_.below hb h.at_.lt,h.leaf,h.num⟩
theorem qid.one(h:qid W nodes v l)(hp:p∈l):PwIn W nodes p:=⟨h.works p hp,h.leaf p hp,h.num p hp⟩
theorem PwIn.cells(h:PwIn W nodes p):W.cell? ⟨p.blk,0,none⟩=some (.int .i64 p.x.num)/\W.cell? ⟨p.blk,1,none⟩=some (.pointer (some ⟨p.q,0,none⟩))/\W.cell? ⟨p.blk,2,none⟩=some (.int .i64 p.x.d0)/\W.cell? ⟨p.blk,3,none⟩=some (.int .i64 p.x.d1) :=
 ⟨h.at_.cell 0,h.at_.cell 1,h.at_.cell 2,h.at_.cell 3⟩
theorem qj1(T:Tree nodes)(hB:qa2 nodes)(h:Rd w nodes bt rr va l)(hp:PwIn w nodes p):
  Calls prog 207 #[.pointer (some ⟨rr,0,none⟩),nptr p.blk] w fun e w'=>e=.returned (.agg #[.int .i64 (abv (ws0 (pun l p.x.key)+p.x.d0) (pn0 nodes p.x.key)),.int .i64 (abv (ws1 (pun l p.x.key)+p.x.d1) (pn1 nodes p.x.key))])/\Below w.heap.size w w':=by
 obtain⟨m,hm,kZ,cR⟩:=hp.leaf;have ic:=fun W (hW:Below w.heap.size w W)=>(h.below hW).qx3 T hB hm
 have fP:=fun W (hW:Below w.heap.size w W)=>qcy T hm W (h.below hW).ins
 have tW:rr<w.heap.size:=xrb _ _ h.bk;have dR:=hp.at_.lt;have iG:=fun W (hW:Below w.heap.size w W)=>(h.below hW).bk
 have lr:=fun W (hW:Below w.heap.size w W)=>(hp.below hW).cells.2
 have ubd:=h.ubd m.key;have sZ:=qna T m.key;have tH:=hp.num.1;have oE:=hp.num.2;rw[cR]at ic fP ubd sZ;rw[kZ]at ic fP;generalize ws0 (pun l p.x.key)=u0 at *;generalize ws1 (pun l p.x.key)=u1 at *;generalize pn0 nodes p.x.key=n0 at *;generalize pn1 nodes p.x.key=n1 at *;generalize p.x.d0=a at *;generalize p.x.d1=b at *;generalize p.blk=pb at *;generalize p.q=pq at *;have fq:=fun W=>qir u0 u1 a b W (by omega) (by omega) (by omega) (by omega) (by omega) (by omega) (by omega) (by omega)
 have dY:=fun W=>qgj (u0+a) (u1+b) n0 n1 W (by omega) (by omega) (by omega) (by omega) (by omega) (by omega) (by omega) (by omega)
 have b6:Blk (w.alloc (.cells #[.int .i64 0,.int .i64 0] 35)) w.heap.size 35 #[.int .i64 0,.int .i64 0]:=Blk.new' (by simp);have bh:Below w.heap.size w (w.alloc (.cells #[.int .i64 0,.int .i64 0] 35)):=by exact bel2
 clear h hp hm kZ cR;unfold nptr at ic fP ⊢
 go_enter func207,ntmps207
 go_upto_region 1 with fail
 generalize (w.alloc (.cells #[.int .i64 0,.int .i64 0] 35))=W0 at b6 bh ⊢;have fK:=bh.size;have k1:=iG _ bh;obtain⟨z1,z2,z3⟩:=lr _ bh;have l6:=b6.lt;have sS:¬(rr=W0.heap.size):=(by omega);have sU:¬(W0.heap.size=rr):=(by omega);have CW:¬(pb=W0.heap.size):=(by omega);have CX:¬(W0.heap.size=pb):=(by omega)
 go_cut [5] from 6 (fun q wx=>∃b7,q=.pointer (some ⟨b7,0,none⟩)/\Below w.heap.size w wx/\Blk wx w.heap.size 35 #[.int .i64 0,.int .i64 0]/\Blk wx b7 35 #[.int .i64 (u0+a),.int .i64 (u1+b)]/\w.heap.size<b7)
 case first =>
  go_region_held3 (fun w'=>w'.cell? ⟨rr,1,none⟩=some (.pointer (some ⟨bt,1,none⟩))/\w'.cell? ⟨pb,1,none⟩=some (.pointer (some ⟨pq,0,none⟩))/\w'.cell? ⟨pb,2,none⟩=some (.int .i64 a)/\w'.cell? ⟨pb,3,none⟩=some (.int .i64 b)) (go_keep)
   (first
   |(go_at_call 106;refine(ic _ ?_).mono ?_;(focus exact bel2);rintro e w1 ⟨rfl,aa⟩;have au:Below w.heap.size w w1:=qac (by exact bel2) aa;have ie:Blk w1 w.heap.size 35 #[.int .i64 0,.int .i64 0]:=Blk.below (by exact blk2) aa (by first|omega|(simp<;>omega));have k2:=iG _ au;obtain⟨y1,y2,y3⟩:=lr _ au;have sP:=ie.lt;have dv:=au.size;have xF:¬(rr=w1.heap.size):=(by omega);have zL:¬(w1.heap.size=rr):=(by omega);have sW:¬(pb=w1.heap.size):=(by omega);have E_:¬(w1.heap.size=pb):=(by omega);(try (have fL:Blk w1 W0.heap.size 35 #[.int .i64 0,.int .i64 0]:=Blk.below (by first|(with_reducible exact Blk.new' (by simp))|(with_reducible exact Blk.drew (Blk.new' (by simp)))) aa (by simp);have xA:=fL.lt)))
   |(go_at_call 139;refine(fq _).mono ?_;rintro e w2 ⟨rfl,ag⟩;have aR:Below w.heap.size w w2:=qac (by exact bel2) ag;have fT:Blk w2 w.heap.size 35 #[.int .i64 0,.int .i64 0]:=Blk.below (by exact blk2) ag (by first|omega|(simp<;>omega));have k3:=iG _ aR;obtain⟨x1,x2,x3⟩:=lr _ aR;have CR:=fT.lt;have fm:=aR.size;have xG:¬(rr=w2.heap.size):=(by omega);have zM:¬(w2.heap.size=rr):=(by omega);have zN:¬(pb=w2.heap.size):=(by omega);have Fa:¬(w2.heap.size=pb):=(by omega);(try (have eR:Blk w2 W0.heap.size 35 #[.int .i64 0,.int .i64 0]:=Blk.below (by with_reducible exact fL) ag (by omega);have c7:=eR.cell;have g7:=eR.frozen;have xB:=eR.lt));(try (have eR:Blk w2 w1.heap.size 35 #[.int .i64 0,.int .i64 0]:=Blk.below (by first|(with_reducible exact Blk.new' (by simp))|(with_reducible exact Blk.drew (Blk.new' (by simp)))) ag (by simp);have c7:=eR.cell;have g7:=eR.frozen;have xB:=eR.lt))))
  all_goals go_wp2_with fail
  ·go_meet
   exact⟨_,rfl,aR.alloc fm _,fT.alloc _,Blk.new' rfl,by omega⟩
  ·go_meet
   exact⟨_,rfl,qbu aR (by omega) ..,qfu fT (by omega) ..,qdn eR ..,by omega⟩
  ·go_meet
   exact⟨_,rfl,qbu aR (by omega) ..,qfu fT (by omega) ..,qdn eR ..,by omega⟩
 case rest =>
  obtain⟨b7,rfl,dD,uE,kv,rL⟩:=hcut;clear b6 bh z1 z2 z3 k1 sS sU CW CX ic fq iG;have z0:=kv.cell 0;have z1:=kv.cell 1;have CS:=uE.lt;have CT:=kv.lt;obtain⟨z2,_,_⟩:=lr _ dD;simp only[xq0,xq1,xq2]at z0 z1
  go_upto_region 2 with fail
  go_region_with (first
   |(go_at_call 189;refine(dY _).mono ?_;rintro e w2 ⟨rfl,ag⟩;have aR:Below w.heap.size w w2:=qac (by exact bel2) ag;have fT:Blk w2 w.heap.size 35 #[.int .i64 0,.int .i64 0]:=Blk.below (by exact blk2) ag (by first|exact ie.lt|omega|(simp<;>omega));have q0:=fT.cell 0;have q1:=fT.cell 1;have q2:=fT.frozen 0;have q3:=fT.frozen 1;simp only[xq0,xq1,xq2]at q0 q1)
   |(go_at_call 85;refine(fP _ ?_).mono ?_;(focus exact bel2);rintro e w1 ⟨rfl,aa⟩;have au:Below w.heap.size w w1:=qac (by exact bel2) aa;have ie:Blk w1 w.heap.size 35 #[.int .i64 0,.int .i64 0]:=Blk.below (by exact blk2) aa (by first|omega|(simp<;>omega));have fL:Blk w1 b7 35 #[.int .i64 (u0+a),.int .i64 (u1+b)]:=Blk.below (by exact blk2) aa (by first|omega|(simp<;>omega));have y0:=fL.cell 0;have y1:=fL.cell 1;have sP:=ie.lt;simp only[xq0,xq1,xq2]at y0 y1))
  all_goals go_wp2_with fail
  all_goals have mv:=qdn fT (.int .i64 (abv (u0+a) n0)) (.int .i64 (abv (u1+b) n1))
  all_goals have qW:=mv.cell
  all_goals exact xrn (v:=.agg #[.int .i64 (abv (u0+a) n0),.int .i64 (abv (u1+b) n1)]) (by simp[results,results207,go_sem,qW]) rfl ⟨rfl,qbu aR (by omega) ..⟩
end
section
variable {i j:Nat}
def swp {α : Type}(ys:List α)(i j:Nat)(a b : α):List α := (ys.set i b).set j a
theorem qlw{α : Type}(ys:List α)(i j:Nat)(a b : α):(swp ys i j a b).length=ys.length:=by simp[swp]
theorem qt6{α : Type}{ys:List α}{a b : α}(hi:ys[i]?=some a)(hj:ys[j]?=some b)(m:Nat):(swp ys i j a b)[m]?=if m=j then some a else if m=i then some b else ys[m]?:=by
 have h1:=(xr0.1 hi).1;have h2:=(xr0.1 hj).1;unfold swp;rw[List.getElem?_set,List.length_set,List.getElem?_set]
 by_cases e1:m=j
 ·subst e1;simp[h2]
 ·rw[if_neg (fun e=>e1 e.symm),if_neg e1]
  by_cases e2:m=i
  ·subst e2;simp[h1]
  ·rw[if_neg (fun e=>e2 e.symm),if_neg e2]
theorem set_perm{α : Type}{l:List α}{a : α}(hi:l[i]?=some a)(b : α):(b::l).Perm (a::l.set i b):=by
 induction l generalizing i with
 |nil=>simp at hi
 |cons x l ih =>
  cases i with
  |zero=>simp at hi;subst hi;simp;exact List.Perm.swap ..
  |succ i =>
   simp at hi
   have h1:=ih hi;simp only[xr7]
   exact((List.Perm.swap x b l).trans (h1.cons x)).trans (List.Perm.swap a x _)
theorem qio{α : Type}{ys:List α}{a b : α}(ma:i≠j)(hi:ys[i]?=some a)(hj:ys[j]?=some b):(swp ys i j a b).Perm ys:=by
 unfold swp;have h1:=set_perm hi b;have pR:(ys.set i b)[j]?=some b:=by rw[List.getElem?_set,if_neg ma];exact hj
 have h2:=set_perm pR a
 exact(List.perm_cons b).1 (h2.symm.trans h1.symm)
structure Ord {α : Type} (lt : α -> α -> Bool):Prop where
 asymm:∀a b,lt a b=true->lt b a=false
 trans:∀a b c,lt a b=false->lt b c=false->lt a c=false
def qb1 {α : Type}(lt : α -> α -> Bool)(ys:List α):Prop:=∀(j:Nat) (a b : α),0<j->ys[j]?=some a->ys[(j-1) / 2]?=some b->lt a b=false
structure qgi {α : Type} (lt : α -> α -> Bool) (ys:List α) (k:Nat):Prop where
 one:∀(j:Nat) (a b : α),0<j->j≠k->ys[j]?=some a->ys[(j-1) / 2]?=some b->lt a b=false
 two:∀(j:Nat) (a b : α),0<j->(j-1) / 2=k->0<k->ys[j]?=some a->ys[(k-1) / 2]?=some b->lt a b=false
structure qb7 {α : Type} (lt : α -> α -> Bool) (ys:List α) (k:Nat):Prop where
 one:∀(j:Nat) (a b : α),0<j->(j-1) / 2≠k->ys[j]?=some a->ys[(j-1) / 2]?=some b->lt a b=false
 two:∀(j:Nat) (a b : α),0<j->(j-1) / 2=k->0<k->ys[j]?=some a->ys[(k-1) / 2]?=some b->lt a b=false
theorem qgi.zero{α : Type}{lt : α -> α -> Bool}{ys:List α}(h:qgi lt ys 0):qb1 lt ys:=fun j a b hj=>h.one j a b hj (by omega)
theorem qgi.stop{α : Type}{lt : α -> α -> Bool}{ys:List α}{k:Nat}(h:qgi lt ys k){a b : α}(ha:ys[k]?=some a)(hb:ys[(k-1) / 2]?=some b)(hl:lt a b=false):qb1 lt ys:=by
 intro j x y hj hx hy
 by_cases e:j=k
 ·subst e;rw[ha]at hx;rw[hb]at hy;cases hx;cases hy;exact hl
 ·exact h.one j x y hj e hx hy
theorem qgi.step{α : Type}{lt : α -> α -> Bool}(O:Ord lt){ys:List α}{k:Nat}(hk:0<k)(h:qgi lt ys k){a b : α}(ha:ys[k]?=some a)(hb:ys[(k-1) / 2]?=some b)(hl:lt a b=true):qgi lt (swp ys k ((k-1) / 2) a b) ((k-1) / 2):=by
 have G:=qt6 ha hb;obtain⟨p,hp⟩:∃p,p=(k-1) / 2:=⟨_,rfl⟩;rw[<-hp]at hb G ⊢;have dM:p<k:=by omega
 have gY:=O.asymm a b hl
 refine⟨fun j x y hj BZ hx hy=>?_,fun j x y hj hq fD hx hy=>?_⟩
 ·rw[G]at hx hy;rw[if_neg BZ]at hx
  by_cases e:j=k
  ·subst e;rw[if_pos rfl]at hx;rw[if_pos (by omega)]at hy
   cases hx;cases hy;exact gY
  ·rw[if_neg e]at hx
   by_cases e1:(j-1) / 2=p
   ·rw[if_pos e1]at hy;cases hy
    exact O.trans x b a (h.one j x b hj e hx (by rw[e1];exact hb)) gY
   ·rw[if_neg e1]at hy
    by_cases e2:(j-1) / 2=k
    ·rw[if_pos e2]at hy;cases hy
     exact h.two j x b hj e2 hk hx (by rw[<-hp];exact hb)
    ·rw[if_neg e2]at hy
     exact h.one j x y hj e hx hy
 ·rw[G]at hx hy;rw[if_neg (by omega),if_neg (by omega)]at hy;rw[if_neg (by omega)]at hx;have mI:lt b y=false:=h.one p b y fD (by omega) hb hy
  by_cases e:j=k
  ·rw[if_pos e]at hx;cases hx;exact mI
  ·rw[if_neg e]at hx
   exact O.trans x b y (h.one j x b hj e hx (by rw[hq];exact hb)) mI
theorem qb7.stop{α : Type}{lt : α -> α -> Bool}{ys:List α}{k:Nat}(h:qb7 lt ys k){a : α}(ha:ys[k]?=some a)(h1:∀b,ys[2*k+1]?=some b->lt b a=false)(h2:∀b,ys[2*k+2]?=some b->lt b a=false):qb1 lt ys:=by
 intro j x y hj hx hy
 by_cases e:(j-1) / 2=k
 ·rw[e,ha]at hy;cases hy
  rcases(by omega:j=2*k+1\/j=2*k+2) with rfl|rfl
  ·exact h1 x hx
  ·exact h2 x hx
 ·exact h.one j x y hj e hx hy
theorem qb7.step{α : Type}{lt : α -> α -> Bool}(O:Ord lt){ys:List α}{k f:Nat}(hf:f=2*k+1\/f=2*k+2)(h:qb7 lt ys k){a b : α}(ha:ys[k]?=some a)(hb:ys[f]?=some b)(hl:lt b a=true)(hc:∀c x,(c=2*k+1\/c=2*k+2)->ys[c]?=some x->c≠f->lt x b=false):qb7 lt (swp ys k f a b) f:=by
 have G:=qt6 ha hb;have By:=O.asymm b a hl
 refine⟨fun j x y hj hq hx hy=>?_,fun j x y hj hq y_ hx hy=>?_⟩
 ·rw[G]at hx hy;rw[if_neg hq]at hy
  by_cases e:j=f
  ·rw[if_pos e]at hx;rw[if_pos (by omega)]at hy
   cases hx;cases hy;exact By
  ·rw[if_neg e]at hx
   by_cases e1:j=k
   ·rw[if_pos e1]at hx;cases hx;rw[if_neg (by omega)]at hy
    exact h.two f b y (by omega) (by omega) (by omega) hb (by rw[<-e1];exact hy)
   ·rw[if_neg e1]at hx
    by_cases e2:(j-1) / 2=k
    ·rw[if_pos e2]at hy;cases hy
     exact hc j x (by omega) hx e
    ·rw[if_neg e2]at hy
     exact h.one j x y hj e2 hx hy
 ·rw[G]at hx hy;rw[if_neg (by omega),if_neg (by omega)]at hx;rw[if_neg (by omega),if_pos (by omega)]at hy
  cases hy
  exact h.one j x b hj (by omega) hx (by rw[hq];exact hb)
theorem qb1.min{α : Type}{lt : α -> α -> Bool}(O:Ord lt){ys:List α}(h:qb1 lt ys){m : α}(hm:ys[0]?=some m)(mZ:lt m m=false):∀(j:Nat) (a : α),ys[j]?=some a->lt a m=false:=by
 intro j
 induction j using Nat.strongRecOn with
 |_ j ih =>
  intro a ha
  by_cases e:j=0
  ·subst e;rw[hm]at ha;cases ha;exact mZ
  ·have an:=(xr0.1 ha).1;obtain⟨b,hb⟩:∃b,ys[(j-1) / 2]?=some b:=⟨_,xr1 (by omega)⟩
   exact O.trans a b m (h j a b (by omega) ha hb) (ih _ (by omega) b hb)
theorem qb1.push{α : Type}{lt : α -> α -> Bool}{ys:List α}(h:qb1 lt ys)(x : α):qgi lt (ys++[x]) ys.length:=by
 refine⟨fun j a b hj hn ha hb=>?_,fun j a b hj hq hk ha hb=>?_⟩
 ·have an:=(xr0.1 ha).1
  simp at an
  rw[xrp (by omega)]at ha hb
  exact h j a b hj ha hb
 ·have an:=(xr0.1 ha).1
  simp at an
  omega
theorem qb1.pop{α : Type}{lt : α -> α -> Bool}{ys:List α}(h:qb1 lt ys)(b : α):qb7 lt ((ys.set 0 b).take (ys.length-1)) 0:=by
 refine⟨fun j x y hj hq hx hy=>?_,fun j x y hj hq hk=>by omega⟩
 have an:=(xr0.1 hx).1
 simp at an
 rw[List.getElem?_take_of_lt (by omega),List.getElem?_set,if_neg (by omega)]at hx hy
 exact h j x y hj hx hy
theorem qpn{α : Type}{ys:List α}{a b : α}(ha:ys[0]?=some a)(hb:ys[ys.length-1]?=some b):(a::(ys.set 0 b).take (ys.length-1)).Perm ys:=by
 cases ys with
 |nil=>simp at ha
 |cons x l =>
  simp at ha;subst ha
  rcases List.eq_nil_or_concat l with rfl|⟨l',z,rfl⟩
  ·simp
  ·have hz:b=z:=by simp at hb;exact hb.symm
   subst hz;simp only[xr8,List.length_cons,List.concat_eq_append,List.length_append,List.length_nil];rw[show l'.length+1+1-1=l'.length+1 by omega,List.take_succ_cons,List.take_left']
   ·exact(List.perm_append_singleton b l').symm.cons x
   ·rfl
end
end Go.Proofs.YtphclnolomgjoaaGreatDoor
