import Derived.Test.YtphclnolomgjoaaGreatDoorB07
import Derived.Sort.LoopGhostIn
import Derived.LaidEqlPtr
set_option linter.unusedVariables false
set_option linter.unusedSimpArgs false
set_option maxRecDepth 100000
set_option maxHeartbeats 4000000
namespace Go.Proofs.YtphclnolomgjoaaGreatDoor
open Tryz
section
open Go.RowKit Go.Shelf
variable {nodes:List Node}{m n:Node}{W:World}
attribute [local go_sem] Oper.semAt_some
theorem qth(w:World):(binOp .neq 97 (.pointer none) (.pointer none)).run prog w=.ok (.bool false) w:=by
 kernel_rfl
def ups (nodes:List Node):Nat->Node->List Node
 |0,n=>[n]
 |f+1,n=>if n.key=[] then [n] else n::(match findKey nodes n.key.dropLast with|some p=>ups nodes f p|none=>[])
def upsO (nodes:List Node)(f:Nat):Option Node->List Node
 |none=>[]
 |some c=>ups nodes f c
theorem qwj(T:Tree nodes){c:Node}(hc:c∈nodes){f:Nat}(hf:c.key.length<=f):∃(o:Option Node),ups nodes f c=c::upsO nodes (f-1) o/\c.up=o.map (·.blk)/\(∀p,o=some p->p∈nodes/\p.key.length<=f-1):=by
 by_cases hk:c.key=[]
 ·refine⟨none,?_,?_,fun p h=>by cases h⟩
  ·cases f with
   |zero=>rfl
   |succ f=>simp[ups,hk,upsO]
  ·rw[T.top c hc hk];rfl
 ·obtain⟨k,x,h_⟩:∃k x,c.key=k++[x]:=⟨_,_,(List.dropLast_concat_getLast hk).symm⟩;obtain⟨p,hp,dS,_,di⟩:=T.par c hc k x h_;have a9:c.key.length=k.length+1:=by rw[h_];simp
  refine⟨some p,?_,by rw[di];rfl,fun q h=>by cases h;exact⟨hp,by rw[dS];omega⟩⟩
  obtain⟨g,rfl⟩:∃g,f=g+1:=⟨f-1,by omega⟩;have kY:findKey nodes c.key.dropLast=some p:=by rw[h_,List.dropLast_concat];exact qb0 T hp dS
  simp only[ups,if_neg hk,kY,upsO,Nat.add_sub_cancel]
theorem qjl(T:Tree nodes):∀(f:Nat) (c:Node),c∈nodes->c.key.length<=f->∀m,m∈ups nodes f c↔(m∈nodes/\m.key <+: c.key):=by
 intro f
 induction f with
 |zero =>
  intro c hc hl m;have hk:c.key=[]:=List.eq_nil_of_length_eq_zero (by omega);simp only[ups,List.mem_singleton]
  constructor
  ·rintro rfl;exact⟨hc,List.prefix_refl _⟩
  ·rintro⟨hm,hp⟩
   rw[hk]at hp
   exact T.inj m hm c hc (by rw[hk];exact List.prefix_nil.1 hp)
 |succ f ih =>
  intro c hc hl m
  by_cases hk:c.key=[]
  ·simp only[ups,if_pos hk,List.mem_singleton]
   constructor
   ·rintro rfl;exact⟨hc,List.prefix_refl _⟩
   ·rintro⟨hm,hp⟩
    rw[hk]at hp
    exact T.inj m hm c hc (by rw[hk];exact List.prefix_nil.1 hp)
  ·obtain⟨k,x,h_⟩:∃k x,c.key=k++[x]:=⟨_,_,(List.dropLast_concat_getLast hk).symm⟩;obtain⟨p,hp,dS,_,di⟩:=T.par c hc k x h_;have a9:c.key.length=k.length+1:=by rw[h_];simp
   have kY:findKey nodes c.key.dropLast=some p:=by rw[h_,List.dropLast_concat];exact qb0 T hp dS
   simp only[ups,if_neg hk,kY,List.mem_cons,ih p hp (by rw[dS];omega) m];rw[dS]
   constructor
   ·rintro(rfl|⟨h1,h2⟩)
    ·exact⟨hc,List.prefix_refl _⟩
    ·exact⟨h1,by rw[h_];exact h2.trans (xry _ _)⟩
   ·rintro⟨hm,ax⟩
    rw[h_]at ax
    rcases List.prefix_concat_iff.1 ax with h|h
    ·left;exact T.inj m hm c hc (by rw[h,h_])
    ·right;exact⟨hm,h⟩
theorem qx9(nodes:List Node):∀(f:Nat) (c:Node),(ups nodes f c).length<=f+1:=by
 intro f
 induction f with
 |zero=>intro c;simp[ups]
 |succ f ih =>
  intro c;simp only[ups]
  split
  ·simp
  ·split
   ·rename_i p _;have:=ih p;simp;omega
   ·simp
theorem qum(T:Tree nodes)(hn:n∈nodes)(w:World)(hN:∀n∈nodes,qag w n):
  Calls prog 191 #[nptr n.blk] w fun e w'=>e=.returned (.func (.func 223) #[] #[.pointer (some ⟨w.heap.size,0,none⟩)])/\w'=w.alloc (.cells #[nptr n.blk] 97) /\
   ∀Tm:Nat->Prop,(∀n∈nodes,¬Tm n.blk/\∀g,n.sl.ownBlock=some g->¬Tm g)->SeqK prog 223 #[.pointer (some ⟨w.heap.size,0,none⟩)] (fun x:Node=>nptr x.blk) (fun _=>False) Tm (ups nodes 4 n) w':=by
 have jL:∀(fn:Fn) (first cap:Array Value) (w:World),(Instr.makeFunc fn first cap).run prog w=.ok (.func fn first cap) w:=fun _ _ _ _=>rfl
 have key:∀Tm:Nat->Prop,(∀n∈nodes,¬Tm n.blk/\∀g,n.sl.ownBlock=some g->¬Tm g)->SeqK prog 223 #[.pointer (some ⟨w.heap.size,0,none⟩)] (fun x:Node=>nptr x.blk) (fun _=>False) Tm (ups nodes 4 n) (w.alloc (.cells #[nptr n.blk] 97)):=by
  intro Tm hT m l J Jx W hW hl hJ jz hY h0;have bz:∀k:Nat,Fence.wide.depth.isSome=true->1<=k:=fun k h=>by simp[Fence.wide]at h
  have kl:∀n∈nodes,qag W n:=fun n hn=>(hN n hn).below (qab ((Below.refl _ _).alloc (Nat.le_refl _) _) hW)
  have hb:W.cell? ⟨w.heap.size,0,none⟩=some (nptr n.blk):=((Box.new w 97 (nptr n.blk)).below hW (by simp)).cell;have Cd:=(T.ok n hn).2;have eY:=qw1;generalize hXS:ups nodes 4 n=XS at hY ⊢
  refine callsIn_of_wp func223 rfl trivial ?_ rfl
  unfold nptr at hb;simp only[ntmps223,List.size_toArray,List.length_cons,List.length_nil,Nat.reduceAdd,Nat.reduceSub,Array.replicate_succ,Array.replicate_zero,List.push_toArray,List.append_toArray,List.nil_append,List.cons_append]
  gi_wp2
  gi_loopg [3] 5 (fun q v wr=>∃(pre:List Node) (o:Option Node) (f:Nat),v=uptr (o.map (·.blk))/\XS=pre++upsO nodes f o/\(∀c,o=some c->c∈nodes/\c.key.length<=f)/\(upsO nodes f o).length<=q/\J pre wr/\Keep Tm W wr)
  case atStart=>exact⟨[],some n,4,rfl,by rw[<-hXS];rfl,fun c h=>by cases h;exact⟨hn,Cd⟩,qx9 _ _ _,h0,Keep.refl _ _⟩
  case round =>
   obtain⟨pre,o,f,rfl,hx,ho,hq,yI,hk⟩:=hrel;have zq:=qth;have HX:Hid (XS=pre++upsO nodes f o):=hx;clear hx h0 hb hXS
   cases o with
   |none =>
    simp only[uptr,Option.map_none];have aV:J XS wr:=by rw[HX.out];simpa [upsO] using yI
    gi_wp2
    refine⟨fun f h=>(by cases h),?_⟩
    gi_wp2
    go_end0
    exact⟨⟨_,rfl⟩,.inl aV⟩
   |some c =>
    obtain⟨hc,BA⟩:=ho c rfl;obtain⟨o',he,di,gR⟩:=qwj T hc BA;have km:pre++[c] <+: XS:=by rw[HX.out,show upsO nodes f (some c)=c::upsO nodes (f-1) o' from he];exact⟨upsO nodes (f-1) o',by simp⟩
    obtain⟨fn,tmps,assign,body,hy,hR⟩:=hY (m-1) pre c wr yI km;have oh:=qe2 hT kl hk;have cX:=hR.mono (R':=fun e W'=>(e=.returned (.bool true)/\J (pre++[c]) W'/\Keep Tm wr W'/\W'.cell? ⟨c.blk,6,none⟩=some (uptr (o'.map (·.blk))))\/(e=.returned (.bool false)/\Jx (pre++[c]) W'))
     (fun e W' h=>h.elim (fun ⟨he,hj,hk⟩=>.inl ⟨he,hj,hk,by rw[<-di];exact((oh c hc).keep hk (hT c hc).1 (hT c hc).2).cell rfl⟩) .inr)
    have HQ:Hid (upsO nodes f (some c)=c::upsO nodes (f-1) o'):=he;clear hR hY he di;simp only[uptr,Option.map_some];unfold nptr at hy
    gi_wp2_with (refine⟨bz _,?_⟩;refine cX.mono ?_;clear cX;rintro e W2 (⟨rfl,jy,aY,fl⟩|⟨rfl,jh⟩))
    ·gi_roundg ((upsO nodes (f-1) o').length)
     case measure=>have:=HQ.out;rw[this]at hq;simp at hq;omega
     case rel=>exact⟨pre++[c],o',f-1,rfl,by rw[HX.out,HQ.out];simp,gR,Nat.le_refl _,jy,hk.trans aY⟩
    ·go_end0
     exact⟨⟨_,rfl⟩,.inr ⟨_,km,jh⟩⟩
 unfold nptr at key ⊢
 go_enter func191,ntmps191
 go_wp2
 go_ret
 exact⟨rfl,rfl,key⟩
attribute [local go_sem] Oper.semAt_some
def qa1 (nodes:List Node):Prop:=∀a∈nodes,∀b∈nodes,a.blk=b.blk->a=b
theorem un93:prog.underlying 97=some (.pointer 136):=by kernel_rfl
theorem qz8:(prog.info? 136).map (fun i=>i.size)=some 8:=by kernel_rfl
theorem qxq:∃j,prog.info? 136=some j/\j.size≠0:=by
 have h:=qz8
 cases hi:prog.info? 136 with
 |none=>rw[hi]at h;cases h
 |some j=>rw[hi]at h;simp at h;exact⟨j,rfl,by omega⟩
theorem qsk{x:Node}(hx:qag W x)(hm:qag W m):(binOp .eql 97 (.pointer (some ⟨x.blk,0,none⟩)) (.pointer (some ⟨m.blk,0,none⟩))).run prog W=.ok (.bool (x.blk == m.blk)) W:=by
 obtain⟨j,hj,hs⟩:=qxq
 by_cases h:x.blk=m.blk
 ·rw[h,beq_self_eq_true]
  exact run_eql_ptr_same _ _ un93 hj
 ·have hb:(x.blk == m.blk)=false:=by simp[h]
  rw[hb]
  exact run_eql_ptr_other _ un93 hj hs (fun e=>h (by injection e)) hx.at_ hm.at_
theorem qn2(T:Tree nodes)(hB:qa1 nodes)(hn:n∈nodes)(hm:m∈nodes)(w:World)(hN:∀n∈nodes,qag w n):
  Calls prog 142 #[nptr n.blk,nptr m.blk] w fun e w'=>e=.returned (.bool (m.key.isPrefixOf n.key))/\Below w.heap.size w w':=by
 have bz:∀k:Nat,Fence.wide.depth.isSome=true->1<=k:=fun k h=>by simp[Fence.wide]at h
 have di:∀W,(∀n∈nodes,qag W n)->_:=fun W hW=>qum T hn W hW
 have af:=qjl T 4 n hn (T.ok n hn).2;generalize hX:ups nodes 4 n=X at di af
 refine(xrv (n:=3)).1 ?_
 refine callsIn_of_wp_marks func142 rfl trivial ?_ rfl
 unfold nptr at di ⊢;simp only[ntmps142,List.size_toArray,List.length_cons,List.length_nil,Nat.reduceAdd,Nat.reduceSub,Array.replicate_succ,Array.replicate_zero,List.push_toArray,List.append_toArray,List.nil_append,List.cons_append]
 gi_wp2_with ((first|refine⟨trivial,bz _,?_⟩|refine⟨trivial,?_⟩);gi_at_call 191;refine(xrv.2 (di _ (fun n hn=>(hN n hn).below (by exact bel1)))).mono ?_;rintro e W ⟨rfl,rfl,aB⟩)
 obtain⟨W,hW⟩:∃W,W=((w.alloc (.cells #[.pointer (some ⟨m.blk,0,none⟩)] 97)).alloc (.cells #[.bool false] 4)).alloc (.cells #[.pointer (some ⟨n.blk,0,none⟩)] 97):=⟨_,rfl⟩;have cY:W.heap.size=w.heap.size+3:=by rw[hW];simp
 have e2:((w.alloc (.cells #[.pointer (some ⟨m.blk,0,none⟩)] 97)).alloc (.cells #[.bool false] 4)).heap.size=w.heap.size+1+1:=by simp
 have cN:Box W w.heap.size 97 (.pointer (some ⟨m.blk,0,none⟩)):=by rw[hW];exact((Box.new w 97 _).alloc _).alloc _
 have aa:Box W (w.heap.size+1) 4 (.bool false):=by
  rw[hW];have:=Box.new (w.alloc (.cells #[.pointer (some ⟨m.blk,0,none⟩)] 97)) 4 (.bool false);rw[xrt]at this;exact this.alloc _
 have bZ:Below w.heap.size w W:=by rw[hW];exact bel1
 rw[e2]at aB;simp only[<-hW]at aB ⊢;have hq:=aB (fun b=>b=w.heap.size+1\/W.heap.size<=b) (fun k hk=>⟨fun h=>by have:=(hN k hk).lt;omega,fun g hg h=>by have:=((hN k hk).row.lt g hg).2;omega⟩);clear aB di e2 hW;have ay:∀b,b<W.heap.size->¬(False\/W.heap.size<=b):=fun b hb h=>by rcases h with h|h;exact h;omega
 refine qfo (T:=fun b=>b=w.heap.size+1) (S:=fun _=>False) rfl (enters_of func223 (by kernel_rfl) rfl) hq (Below.refl _ _) rfl (fun b h=>h.elim) (fun b h=>by omega)
  (fun pre A=>m ∉ pre/\Box A w.heap.size 97 (.pointer (some ⟨m.blk,0,none⟩))/\Box A (w.heap.size+1) 4 (.bool false)/\Below w.heap.size w A)
  (fun c pre A=>c=.ret/\m∈pre/\Box A (w.heap.size+1) 4 (.bool true)/\Below w.heap.size w A)
  (fun pre A B hs hk=>⟨hs.1,hs.2.1.keep hk (ay _ (by omega)),hs.2.2.1.keep hk (ay _ (by omega)),hs.2.2.2.trans (hk.toBelow hs.2.2.2.size (fun b bh=>ay b (by omega)))⟩)
  (fun c pre A B hs hk=>⟨hs.1,hs.2.1,hs.2.2.1.keep hk (ay _ (by omega)),hs.2.2.2.trans (hk.toBelow hs.2.2.2.size (fun b bh=>ay b (by omega)))⟩)
  ⟨by simp,cN,aa,bZ⟩
  (fun x=>{tmps:=#[.pointer (some ⟨n.blk,0,none⟩),.pointer (some ⟨m.blk,0,none⟩),undef,.pointer (some ⟨w.heap.size,0,none⟩),.pointer (some ⟨w.heap.size+1,0,none⟩),.pointer (some ⟨x.blk,0,none⟩),.pointer (some ⟨n.blk,0,none⟩),
   .func (.func 223) #[] #[.pointer (some ⟨w.heap.size+1+1,0,none⟩)],.pointer (some ⟨x.blk,0,none⟩),undef,undef,undef],defers:=[]}) ?assign ?body ?done ?stop
 case assign =>
  intro l x W K hK
  gi_wp2
  exact hK
 case body =>
  rintro l pre x W2 ⟨aC,vM,aU,ah⟩ eO ax
  have cm:=((af x).1 (ax.subset (by simp))).1;have vN:=vM.cell;have hc:=aU.cell;have hf:=aU.frozen;have gm:=qsk ((hN x cm).below ah) ((hN m hm).below ah)
  by_cases he:x.blk=m.blk
  ·have x6:x=m:=hB x cm m hm he;subst x6;rw[beq_self_eq_true]at gm;have ey:Hid (x ∉ pre):=aC;clear aC he
   gi_wp2
   exact⟨(Keep.refl (fun b=>b=w.heap.size+1) _).setCell (p:=⟨w.heap.size+1,0,none⟩) rfl _,rfl,by simp,aU.set _,ah.setCell (by simp) _⟩
  ·have x6:m≠x:=fun e=>he (by rw[e])
   have BF:(x.blk == m.blk)=false:=by simp[he]
   rw[BF]at gm
   gi_wp2
   exact⟨Keep.refl _ _,by simp[aC,x6],vM,aU,ah⟩
 case done =>
  rintro A ⟨aC,vM,aU,ah⟩ hD
  have hc:=aU.cell;have hf:=aU.frozen
  gi_wp2
  have fU:(A.setCell ⟨w.heap.size+1,0,none⟩ (.bool false)).heap[W.heap.size]?=some (.deferred (some [])):=(Below.heap_setCell _ _ _ _ (by simp;omega)).trans hD;have ag:=((aU.set (.bool false)).put W.heap.size (.deferred none) (by omega)).cell
  refine⟨by simp,.inl ⟨_,_,rfl,run_takeDeferred fU,?_⟩⟩
  refine⟨.bool false,by simp[results,results142,go_sem,ag],qbt ?_,qay (ah.setCell (by simp) _) _ _ (by omega)⟩
  cases hp:m.key.isPrefixOf n.key with
  |false=>rfl
  |true=>exact absurd ((af m).2 ⟨hm,xrw.1 hp⟩) aC
 case stop =>
  rintro c pre A ax ⟨rfl,hv,aU,ah⟩ hD
  gi_wp2
  have ag:=(aU.put W.heap.size (.deferred none) (by omega)).cell
  refine⟨by simp,.inl ⟨_,_,rfl,run_takeDeferred hD,?_⟩⟩
  refine⟨.bool true,by simp[results,results142,go_sem,ag],qbt ?_,qay ah _ _ (by omega)⟩
  exact(xrw.2 ((af m).1 (ax.subset hv)).2).symm
end
section
open Go.RowKit
variable {W W' w:World}{nodes:List Node}{v va:Value}{B b bt i rr:Nat}{m n:Node}{t:TypeId}{vs:Array Value}
structure Pw where
 blk:Nat
 x:Wk
 q:Nat
variable {l:List Pw}{p:Pw}
def Pw.cells(p:Pw):Array Value:=#[.int .i64 p.x.num,nptr p.q,.int .i64 p.x.d0,.int .i64 p.x.d1]
def qa0 (l:List Pw):List Value:=l.map fun p=>nptr p.blk
structure qh7 (W:World) (nodes:List Node) (v:Value) (l:List Pw):Prop where
 row:W.ownsRow 0 95 1 v l.length (qa0 l)
 works:∀p∈l,Blk W p.blk 105 p.cells
 leaf:∀p∈l,∃n∈nodes,n.blk=p.q/\n.key=p.x.key
 num:∀p∈l,(0<=p.x.d0/\p.x.d0<=1000)/\(0<=p.x.d1/\p.x.d1<=1000)
 len:l.length<=24
theorem qh7.below(h:qh7 W nodes v l)(hb:Below W.heap.size W W'):qh7 W' nodes v l :=
 ⟨qaf (T:=fun _=>False) h.row (Keep.new hb) (fun _ _ e=>e),fun p hp=>(h.works p hp).below hb (h.works p hp).lt,h.leaf,h.num,h.len⟩
theorem qh7.at_(h:qh7 W nodes v l)(hi:l[i]?=some p):∃g cap,v=.slice (some ⟨g,0,none⟩) l.length cap/\g<W.heap.size/\l.length<=cap/\cap<=maxLen/\W.cell? ⟨g,i,none⟩=some (nptr p.blk):=by
 obtain⟨g,cap,rfl,h1,h2⟩:=qa9 h.row (Nat.lt_of_le_of_lt (Nat.zero_le _) (xr0.1 hi).1)
 have:=h.row.cells (g:=g) rfl i (nptr p.blk) (by unfold qa0;rw[xrs,hi];rfl)
 rw[Addr.add_lit,Nat.zero_add]at this
 exact⟨g,cap,rfl,qap h.row rfl,h1,h2,this⟩
theorem qh7.form(h:qh7 W nodes v l):∃a cap,v=.slice a l.length cap:=by
 rcases h.row.2 with ⟨rfl,h0⟩|⟨g,cap,aH,rfl,_⟩
 ·exact⟨none,0,by rw[h0]⟩
 ·exact⟨_,_,rfl⟩
def pun (l:List Pw)(k:List Bs):List Wk:=(l.map (·.x)).filter fun x=>k.isPrefixOf x.key
theorem qv7(l:List Pw)(p:Pw)(k:List Bs):pun (l++[p]) k=pun l k++(if k.isPrefixOf p.x.key then [p.x] else []):=by
 unfold pun;rw[List.map_append,List.filter_append];simp[xrz]
theorem qtp(h:∀p∈l,(0<=p.x.d0/\p.x.d0<=1000)/\(0<=p.x.d1/\p.x.d1<=1000))(hl:l.length<=24)(k:List Bs):(0<=ws0 (pun l k)/\ws0 (pun l k)<=24000)/\(0<=ws1 (pun l k)/\ws1 (pun l k)<=24000):=by
 have aD:∀x∈pun l k,∃p∈l,p.x=x:=fun x hx=>by
  obtain⟨p,hp,e⟩:=xrq.1 (xrr.1 hx).1;exact⟨p,hp,e⟩
 have a9:(pun l k).length<=24:=Nat.le_trans (xrh _ _) (by simpa using hl);have s0:=qur (pun l k) (fun x hx=>by obtain⟨p,hp,rfl⟩:=aD x hx;exact(h p hp).1);have s1:=qus (pun l k) (fun x hx=>by obtain⟨p,hp,rfl⟩:=aD x hx;exact(h p hp).2)
 omega
theorem qhq(T:Tree nodes)(hB:qa1 nodes)(w:World)(hN:∀n∈nodes,qag w n)(bt:Nat)(cQ:w.cell? ⟨bt,3,none⟩=some va)(hA:qh7 w nodes va l)(hm:m∈nodes):
  Calls prog 106 #[.pointer (some ⟨bt,1,none⟩),nptr m.blk] w fun e w'=>e=.returned (.agg #[.int .i64 (ws0 (pun l m.key)),.int .i64 (ws1 (pun l m.key))])/\Below w.heap.size w w':=by
 have cD:=xrb w _ cQ
 simp only at cD
 have bD:=fun W (hW:Below w.heap.size w W) p (hp:p∈l)=>(show Calls prog 142 #[nptr p.q,nptr m.blk] W fun e w'=>e=.returned (.bool (m.key.isPrefixOf p.x.key))/\Below W.heap.size W w' from by
  obtain⟨n,hn,e1,e2⟩:=hA.leaf p hp;rw[<-e1,<- e2]
  exact qn2 T hB hn hm W (fun k hk=>(hN k hk).below hW))
 obtain⟨a,cap,sr⟩:=hA.form;have bJ:=fun W (hW:Below w.heap.size w W) i p (hi:l[i]?=some p)=>(hA.below hW).at_ hi
 obtain⟨n,hn⟩:∃n,n=l.length:=⟨_,rfl⟩;have a9:=hA.len;rw[<-hn]at a9 sr bJ;have HN:Hid (n=l.length):=hn;clear hn;rw[sr]at cQ bJ;unfold nptr at bD ⊢;have Ej:(w.alloc (.cells #[.int .i64 0,.int .i64 0] 35)).heap.size=w.heap.size+1:=by simp
 go_enter func106,ntmps106
 go_wp2
 go_loopw [13] (fun i wr=>∃k:Nat,k<=n/\i=.int .i64 k/\Below w.heap.size w wr/\Blk wr w.heap.size 35 #[.int .i64 0,.int .i64 0]/\Blk wr (w.heap.size+1) 35 #[.int .i64 (ws0 (pun (l.take k) m.key)),.int .i64 (ws1 (pun (l.take k) m.key))]) (fun i _=>n-(intOf i).toNat)
 case atStart=>exact⟨0,Nat.zero_le _,rfl,by exact bel2,by exact blk2,by refine Blk.new' ?_;simp⟩
 case round =>
  obtain⟨k,hk,rfl,ah,bf,bE⟩:=hrel
  by_cases ak:k<n
  ·have bN:k<l.length:=by rw[<-HN.out];exact ak
   obtain⟨p,hp⟩:∃p,l[k]?=some p:=⟨_,xr1 bN⟩;have cI:=xr2 hp;have HT:Hid (l.take (k+1)=l.take k++[p]):=by
    show _=_
    rw[xrf bN];rw[xr1 bN]at hp;cases hp;rfl
   obtain⟨g,av,he,bK,cS,fl,zh⟩:=bJ _ ah k p hp;injection he with pK _ BG;subst pK BG;have mn:=(hA.works p cI).below ah (hA.works p cI).lt;have dU:=(hA.works p cI).lt;have x1:=mn.cell 1;have rq:=fun W hW=>bD W hW p cI
   have kO:=qtp (l:=l.take k) (fun q hq=>hA.num q (List.mem_of_mem_take hq)) (by simp;omega) m.key;have gx:=hA.num p cI;unfold Pw.cells nptr at x1 mn;simp only[xq0,xq1,xq2]at x1;have ja:(k:Int)<n:=by omega
   have eM:(0:Int)<=k:=by omega
   clear hp bJ bD;unfold nptr at zh;have dY:Hid (∀(W:World) (e0 e1:Int),Below w.heap.size w W->Blk W w.heap.size 35 #[.int .i64 0,.int .i64 0]->Blk W (w.heap.size+1) 35 #[.int .i64 e0,.int .i64 e1]->e0=ws0 (pun (l.take (k+1)) m.key)->e1=ws1 (pun (l.take (k+1)) m.key)->(∃nD:Nat,nD<=n/\Value.int .i64 ((k:Int)+1)=Value.int .i64 nD/\Below w.heap.size w W/\Blk W w.heap.size 35 #[.int .i64 0,.int .i64 0]/\Blk W (w.heap.size+1) 35 #[.int .i64 (ws0 (pun (l.take nD) m.key)),.int .i64 (ws1 (pun (l.take nD) m.key))])/\n-(intOf (Value.int .i64 ((k:Int)+1))).toNat<n-(intOf (Value.int .i64 (k:Int))).toNat) :=
    fun W e0 e1 h1 h2 h3 h4 h5=>⟨⟨k+1,by omega,by go_num,h1,h2,by rw[<-h4,<- h5];exact h3⟩,by simp[intOf];omega⟩
   have HS:Hid (pun (l.take (k+1)) m.key=pun (l.take k) m.key++(if m.key.isPrefixOf p.x.key then [p.x] else [])):=by
    show _=_
    rw[HT.out,qv7]
   obtain⟨e0,oD⟩:∃e0,e0=ws0 (pun (l.take k) m.key):=⟨_,rfl⟩;obtain⟨e1,pK⟩:∃e1,e1=ws1 (pun (l.take k) m.key):=⟨_,rfl⟩;rw[<-oD,<- pK]at bE kO;have xR:Hid (e0=ws0 (pun (l.take k) m.key)):=oD;have xS:Hid (e1=ws1 (pun (l.take k) m.key)):=pK;clear oD pK
   go_wp2_with fail
   refine(rq _ ah).mono ?_
   rintro e w1 ⟨rfl,aa⟩
   have au:Below w.heap.size w w1:=qab ah aa;have Au:=bf.below aa bf.lt;have lU:=bE.below aa bE.lt;have uH:=mn.below aa mn.lt;clear rq bf bE mn zh x1
   cases ax:m.key.isPrefixOf p.x.key
   ·go_wp2_with fail
    refine dY.out _ e0 e1 au Au lU ?_ ?_
    ·rw[HS.out,ax,xR.out];simp
    ·rw[HS.out,ax,xS.out];simp
   ·have z0:=lU.cell 0;have z1:=lU.cell 1;have y2:=uH.cell 2;have y3:=uH.cell 3;have r0:=lU.frozen 0;have r1:=lU.frozen 1;simp only[xq0,xq1,xq2]at z0 z1 y2 y3;have ft:=fun W=>qim e0 e1 p.x.d0 p.x.d1 W (by omega) (by omega) (by omega) (by omega) (by omega) (by omega) (by omega) (by omega)
    have uv:Hid (∀W:World,Below w.heap.size w W->Blk W w.heap.size 35 #[.int .i64 0,.int .i64 0]->Blk W (w.heap.size+1) 35 #[.int .i64 (e0+p.x.d0),.int .i64 (e1+p.x.d1)]->(∃nD:Nat,nD<=n/\Value.int .i64 ((k:Int)+1)=Value.int .i64 nD/\Below w.heap.size w W/\Blk W w.heap.size 35 #[.int .i64 0,.int .i64 0]/\Blk W (w.heap.size+1) 35 #[.int .i64 (ws0 (pun (l.take nD) m.key)),.int .i64 (ws1 (pun (l.take nD) m.key))])/\n-(intOf (Value.int .i64 ((k:Int)+1))).toNat<n-(intOf (Value.int .i64 (k:Int))).toNat):=fun W h1 h2 h3=>dY.out W _ _ h1 h2 h3 (by rw[HS.out,ax,xR.out];simp[ws0]) (by rw[HS.out,ax,xS.out];simp[ws1])
    clear dY HS ax;have lb:=lU.lt;have lp:=uH.lt
    go_upto_region 6 with fail
    go_region_with (go_at_call 139;refine(ft _).mono ?_;rintro e w2 ⟨rfl,ag⟩;have aP:Below w.heap.size w w2:=qab (by exact bel2) ag;have Av:Blk w2 w.heap.size 35 #[.int .i64 0,.int .i64 0]:=Blk.below (by exact blk2) ag (by first|omega|(simp<;>omega));have m9:Blk w2 (w.heap.size+1) 35 #[.int .i64 e0,.int .i64 e1]:=Blk.below (by exact blk2) ag (by first|omega|(simp<;>omega));have q0:=m9.cell 0;have q1:=m9.cell 1;have s0:=m9.frozen 0;have s1:=m9.frozen 1;simp only[xq0,xq1,xq2]at q0 q1)
    all_goals go_wp2_with fail
    all_goals refine uv.out _ ((aP.setCell (by simp) _).setCell (by simp) _) ((Av.other _ _ (by simp)).other _ _ (by simp)) ?_
    all_goals have:=(m9.set 0 (.int .i64 (e0+p.x.d0))).set 1 (.int .i64 (e1+p.x.d1))
    all_goals simpa using this
  ·have d0:=bE.cell 0;have d1:=bE.cell 1;have c0:=bf.cell 0;have c1:=bf.cell 1;have f0:=bf.frozen 0;have f1:=bf.frozen 1;simp only[xq0,xq1,xq2]at d0 d1 c0 c1
   go_wp2
   have xZ:l.take k=l:=xrd (by rw[<-HN.out];omega);have oz:=(bf.set 0 (.int .i64 (ws0 (pun (l.take k) m.key)))).set 1 (.int .i64 (ws1 (pun (l.take k) m.key)));have kR:=oz.cell;rw[xZ]at kR
   refine xrn (v:=.agg #[.int .i64 (ws0 (pun l m.key)),.int .i64 (ws1 (pun l m.key))]) ?_ rfl ⟨rfl,by exact bel2⟩
   rw[xZ]
   simp[results,results106,go_sem,kR]
def abv (a c:Int):Int:=max 0 (a-c)
theorem qgj(a b c d:Int)(w:World)(h1:0<=a)(h2:a<=100000)(h3:0<=b)(h4:b<=100000)(h5:0<=c)(h6:c<=100000)(h7:0<=d)(h8:d<=100000):
  Calls prog 189 #[.agg #[.int .i64 a,.int .i64 b],.agg #[.int .i64 c,.int .i64 d]] w fun e w'=>e=.returned (.agg #[.int .i64 (abv a c),.int .i64 (abv b d)])/\Below w.heap.size w w':=by
 go_enter func189,ntmps189
 go_wp2
 refine wp_loop_rounds 3 ?_
 rw[rounds_succ];go_wp2
 go_region
 all_goals go_wp2
 all_goals rw[rounds_succ]
 all_goals go_wp2
 all_goals go_region
 all_goals go_wp2
 all_goals rw[rounds_succ]
 all_goals go_wp2
 all_goals refine xrn (v:=.agg #[.int .i64 (abv a c),.int .i64 (abv b d)]) ?_ rfl ⟨rfl,by exact bel1⟩
 all_goals simp[results,results189,go_sem]
 all_goals (unfold abv;omega)
def pn0 (nodes:List Node)(k:List Bs):Int:=sum0 (under nodes k)
def pn1 (nodes:List Node)(k:List Bs):Int:=sum1 (under nodes k)
theorem qm6(T:Tree nodes)(k:List Bs):(0<=pn0 nodes k/\pn0 nodes k<=20000)/\(0<=pn1 nodes k/\pn1 nodes k<=20000):=by
 have aD:∀n∈under nodes k,n∈nodes:=fun n hn=>(xrr.1 hn).1
 have a9:(under nodes k).length<=20:=Nat.le_trans (xrh _ _) T.len;have s0:=qt8 (under nodes k) (fun n hn=>(T.num n (aD n hn)).1);have s1:=qua (under nodes k) (fun n hn=>(T.num n (aD n hn)).2.1);unfold pn0 pn1
 omega
theorem qcx(T:Tree nodes)(hn:n∈nodes)(w:World)(hN:∀n∈nodes,qag w n):
  Calls prog 85 #[nptr n.blk] w fun e w'=>e=.returned (.agg #[.int .i64 (pn0 nodes n.key),.int .i64 (pn1 nodes n.key)])/\Below w.heap.size w w':=by
 obtain⟨ch,K⟩:=T.ch;have h:=qoh T K hn (by have:=qo5 T K hn;omega) w hN;rw[qwe T K hn,qwf T K hn]at h
 exact h
theorem qkl(T:Tree nodes)(hn:n∈nodes)(w:World)(hN:∀n∈nodes,qag w n):
  Calls prog 190 #[nptr n.blk] w fun e w'=>e=.returned (.agg #[.int .i64 (pn0 nodes n.key+n.b0),.int .i64 (pn1 nodes n.key+n.b1)])/\Below w.heap.size w w':=by
 have jN:=fun W (hW:Below w.heap.size w W)=>qcx T hn W (fun k hk=>(hN k hk).below hW)
 have kO:=qm6 T n.key;have dI:=(T.num n hn).2.2.1;have wR:=(T.num n hn).2.2.2.1;have ft:=fun W=>qim (pn0 nodes n.key) (pn1 nodes n.key) n.b0 n.b1 W (by omega) (by omega) (by omega) (by omega) (by omega) (by omega) (by omega) (by omega)
 have yN:=fun W (hW:Below w.heap.size w W)=>(hN n hn).below hW
 have bm:∀W,Below w.heap.size w W->W.cell? ⟨n.blk,4,none⟩=some (.int .i64 n.b0)/\W.cell? ⟨n.blk,5,none⟩=some (.int .i64 n.b1):=fun W hW=>⟨(yN W hW).cell rfl,(yN W hW).cell rfl⟩
 have ak:=(hN n hn).lt;generalize pn0 nodes n.key=e0 at *;generalize pn1 nodes n.key=e1 at *;have b0:Blk (w.alloc (.cells #[.int .i64 0,.int .i64 0] 35)) w.heap.size 35 #[.int .i64 0,.int .i64 0]:=Blk.new w 35 _;have bj:Below w.heap.size w (w.alloc (.cells #[.int .i64 0,.int .i64 0] 35)):=by exact bel2
 obtain⟨c4,c5⟩:=bm _ bj;unfold nptr at jN ⊢
 go_enter func190,ntmps190
 go_upto_region 1 with fail
 generalize (w.alloc (.cells #[.int .i64 0,.int .i64 0] 35))=W0 at b0 bj c4 c5 ⊢;have lb:=b0.lt
 go_region_with (first
  |(go_at_call 139;refine(ft _).mono ?_;rintro e w2 ⟨rfl,ag⟩;have aP:Below w.heap.size w w2:=qab (by exact bel2) ag;have b2:Blk w2 w.heap.size 35 #[.int .i64 0,.int .i64 0]:=Blk.below (by exact blk2) ag b1.lt;have q0:=b2.cell 0;have q1:=b2.cell 1;have q2:=b2.frozen 0;have q3:=b2.frozen 1;simp only[xq0,xq1,xq2]at q0 q1)
  |(go_at_call 85;refine(jN _ ?_).mono ?_;(focus exact bel2);rintro e w1 ⟨rfl,aa⟩;have au:Below w.heap.size w w1:=qab (by exact bel2) aa;have b1:Blk w1 w.heap.size 35 #[.int .i64 0,.int .i64 0]:=Blk.below (by exact blk2) aa (by first|omega|(simp<;>omega));obtain⟨d4,d5⟩:=bm _ au))
 all_goals go_wp2_with fail
 all_goals have b3:=(b2.set 0 (.int .i64 (e0+n.b0))).set 1 (.int .i64 (e1+n.b1))
 all_goals have qU:=b3.cell
 all_goals refine xrn (v:=.agg #[.int .i64 (e0+n.b0),.int .i64 (e1+n.b1)]) (by simp[results,results190,go_sem,qU]) rfl ⟨rfl,by exact bel2⟩
structure Rd (W:World) (nodes:List Node) (bt rr:Nat) (va:Value) (l:List Pw):Prop where
 ins:∀n∈nodes,qag W n
 bk:W.cell? ⟨rr,1,none⟩=some (.pointer (some ⟨bt,1,none⟩))
 ad:W.cell? ⟨bt,3,none⟩=some va
 ps:qh7 W nodes va l
theorem Rd.below(h:Rd W nodes bt rr va l)(hb:Below W.heap.size W W'):Rd W' nodes bt rr va l :=
 ⟨fun n hn=>(h.ins n hn).below hb,(hb.cell (p:=⟨rr,1,none⟩) (xrb _ _ h.bk)).trans h.bk,(hb.cell (p:=⟨bt,3,none⟩) (xrb _ _ h.ad)).trans h.ad,h.ps.below hb⟩
theorem Rd.qya(h:Rd W nodes bt rr va l)(T:Tree nodes)(hB:qa1 nodes)(hm:m∈nodes):
  Calls prog 106 #[.pointer (some ⟨bt,1,none⟩),nptr m.blk] W fun e w'=>e=.returned (.agg #[.int .i64 (ws0 (pun l m.key)),.int .i64 (ws1 (pun l m.key))])/\Below W.heap.size W w' :=
 qhq T hB W h.ins bt h.ad h.ps hm
theorem Rd.ubd(h:Rd W nodes bt rr va l)(k:List Bs):(0<=ws0 (pun l k)/\ws0 (pun l k)<=24000)/\(0<=ws1 (pun l k)/\ws1 (pun l k)<=24000):=qtp h.ps.num h.ps.len k
theorem qdi{x y:Value}(h:Blk W b 35 #[x,y])(p q:Value):Blk ((W.setCell ⟨b,0,none⟩ p).setCell ⟨b,1,none⟩ q) b 35 #[p,q]:=by
 have:=(h.set 0 p).set 1 q
 simpa using this
theorem qfv{c:Nat}(h:Blk W c t vs)(hn:c≠b)(p q:Value):Blk ((W.setCell ⟨b,0,none⟩ p).setCell ⟨b,1,none⟩ q) c t vs:=(h.other _ _ hn).other _ _ hn
theorem qbu(h:Below B w W)(hb:B<=b)(p q:Value):Below B w ((W.setCell ⟨b,0,none⟩ p).setCell ⟨b,1,none⟩ q):=(h.setCell hb _).setCell hb _
theorem qks(T:Tree nodes)(hB:qa1 nodes)(h:Rd w nodes bt rr va l)(hm:m∈nodes)(a b:Int)(ha:0<=a/\a<=1000)(hb:0<=b/\b<=1000):
  Calls prog 216 #[.pointer (some ⟨rr,0,none⟩),nptr m.blk,.agg #[.int .i64 a,.int .i64 b]] w fun e w'=>e=.returned (.agg #[.int .i64 (abv (ws0 (pun l m.key)+a) (pn0 nodes m.key+m.b0)),.int .i64 (abv (ws1 (pun l m.key)+b) (pn1 nodes m.key+m.b1))])/\Below w.heap.size w w':=by
 have ic:=fun W (hW:Below w.heap.size w W)=>(h.below hW).qya T hB hm
 have fF:=fun W (hW:Below w.heap.size w W)=>qkl T hm W (h.below hW).ins
 have tZ:rr<w.heap.size:=xrb _ _ h.bk;have im:=fun W (hW:Below w.heap.size w W)=>(h.below hW).bk
 have ubd:=h.ubd m.key;have tb:=qm6 T m.key;have dI:=(T.num m hm).2.2.1;have wR:=(T.num m hm).2.2.2.1;generalize ws0 (pun l m.key)=u0 at *;generalize ws1 (pun l m.key)=u1 at *;generalize pn0 nodes m.key=n0 at *;generalize pn1 nodes m.key=n1 at *;have ft:=fun W=>qim u0 u1 a b W (by omega) (by omega) (by omega) (by omega) (by omega) (by omega) (by omega) (by omega)
 have d_:=fun W=>qgj (u0+a) (u1+b) (n0+m.b0) (n1+m.b1) W (by omega) (by omega) (by omega) (by omega) (by omega) (by omega) (by omega) (by omega)
 have b5:Blk ((w.alloc (.cells #[.int .i64 a,.int .i64 b] 35)).alloc (.cells #[.int .i64 0,.int .i64 0] 35)) w.heap.size 35 #[.int .i64 a,.int .i64 b]:=by exact blk2
 have b6:Blk ((w.alloc (.cells #[.int .i64 a,.int .i64 b] 35)).alloc (.cells #[.int .i64 0,.int .i64 0] 35)) (w.heap.size+1) 35 #[.int .i64 0,.int .i64 0]:=Blk.new' (by simp);have bj:Below w.heap.size w ((w.alloc (.cells #[.int .i64 a,.int .i64 b] 35)).alloc (.cells #[.int .i64 0,.int .i64 0] 35)):=by exact bel2
 unfold nptr at ic fF ⊢
 go_enter func216,ntmps216
 go_upto_region 1 with fail
 generalize ((w.alloc (.cells #[.int .i64 a,.int .i64 b] 35)).alloc (.cells #[.int .i64 0,.int .i64 0] 35))=W0 at b5 b6 bj ⊢;have fM:=bj.size;have k1:=im _ bj;have z0:=b5.cell 0;have z1:=b5.cell 1;have l5:=b5.lt;have l6:=b6.lt;simp only[xq0,xq1,xq2]at z0 z1;have xF:¬(w.heap.size=W0.heap.size):=(by omega);have sW:¬(rr=W0.heap.size):=(by omega);have xG:¬(W0.heap.size=w.heap.size):=(by omega);have sX:¬(W0.heap.size=rr):=(by omega)
 go_cut [7] from 8 (fun q wx=>∃b7,q=.pointer (some ⟨b7,0,none⟩)/\Below w.heap.size w wx/\Blk wx (w.heap.size+1) 35 #[.int .i64 0,.int .i64 0]/\Blk wx b7 35 #[.int .i64 (u0+a),.int .i64 (u1+b)]/\w.heap.size+1<b7)
 case first =>
  go_region_held3 (fun w'=>w'.cell? ⟨rr,1,none⟩=some (.pointer (some ⟨bt,1,none⟩))/\w'.cell? ⟨w.heap.size,0,none⟩=some (.int .i64 a)/\w'.cell? ⟨w.heap.size,1,none⟩=some (.int .i64 b)) (go_keep)
   (first
   |(go_at_call 106;refine(ic _ ?_).mono ?_;(focus exact bel2);rintro e w1 ⟨rfl,aa⟩;have au:Below w.heap.size w w1:=qab (by exact bel2) aa;have lU:Blk w1 w.heap.size 35 #[.int .i64 a,.int .i64 b]:=Blk.below (by exact blk2) aa (by first|omega|(simp<;>omega));have ig:Blk w1 (w.heap.size+1) 35 #[.int .i64 0,.int .i64 0]:=Blk.below (by exact blk2) aa (by first|omega|(simp<;>omega));have k2:=im _ au;have y0:=lU.cell 0;have y1:=lU.cell 1;have ED:=lU.lt;have sR:=ig.lt;have dz:=au.size;have sY:¬(w.heap.size=w1.heap.size):=(by omega);have xH:¬(rr=w1.heap.size):=(by omega);have CS:¬(w1.heap.size=w.heap.size):=(by omega);have zM:¬(w1.heap.size=rr):=(by omega);simp only[xq0,xq1,xq2]at y0 y1;(try (have fN:Blk w1 W0.heap.size 35 #[.int .i64 0,.int .i64 0]:=Blk.below (by first|(with_reducible exact Blk.new' (by simp))|(with_reducible exact Blk.drew (Blk.new' (by simp)))) aa (by simp);have xC:=fN.lt)))
   |(go_at_call 139;refine(ft _).mono ?_;rintro e w2 ⟨rfl,ag⟩;have aP:Below w.heap.size w w2:=qab (by exact bel2) ag;have m9:Blk w2 w.heap.size 35 #[.int .i64 a,.int .i64 b]:=Blk.below (by exact blk2) ag (by first|omega|(simp<;>omega));have fS:Blk w2 (w.heap.size+1) 35 #[.int .i64 0,.int .i64 0]:=Blk.below (by exact blk2) ag (by first|omega|(simp<;>omega));have k3:=im _ aP;have x0:=m9.cell 0;have x1:=m9.cell 1;have EE:=m9.lt;have CL:=fS.lt;have fq:=aP.size;have s_:¬(w.heap.size=w2.heap.size):=(by omega);have xI:¬(rr=w2.heap.size):=(by omega);have CV:¬(w2.heap.size=w.heap.size):=(by omega);have zN:¬(w2.heap.size=rr):=(by omega);simp only[xq0,xq1,xq2]at x0 x1;(try (have eV:Blk w2 W0.heap.size 35 #[.int .i64 0,.int .i64 0]:=Blk.below (by with_reducible exact fN) ag (by omega);have c7:=eV.cell;have g7:=eV.frozen;have xD:=eV.lt));(try (have eV:Blk w2 w1.heap.size 35 #[.int .i64 0,.int .i64 0]:=Blk.below (by first|(with_reducible exact Blk.new' (by simp))|(with_reducible exact Blk.drew (Blk.new' (by simp)))) ag (by simp);have c7:=eV.cell;have g7:=eV.frozen;have xD:=eV.lt))))
  all_goals go_wp2_with fail
  ·go_meet
   exact⟨_,rfl,aP.alloc fq _,fS.alloc _,Blk.new' rfl,by omega⟩
  ·go_meet
   exact⟨_,rfl,qbu aP (by omega) ..,qfv fS (by omega) ..,qdi eV ..,by omega⟩
  ·go_meet
   exact⟨_,rfl,qbu aP (by omega) ..,qfv fS (by omega) ..,qdi eV ..,by omega⟩
 case rest =>
  obtain⟨b7,rfl,dF,uG,kA,rH⟩:=hcut;clear b5 b6 bj z0 z1 k1 xF sW xG sX ic ft im;have z0:=kA.cell 0;have z1:=kA.cell 1;have CM:=uG.lt;have CN:=kA.lt;simp only[xq0,xq1,xq2]at z0 z1
  go_upto_region 2 with fail
  go_region_with (first
   |(go_at_call 189;refine(d_ _).mono ?_;rintro e w2 ⟨rfl,ag⟩;have aP:Below w.heap.size w w2:=qab (by exact bel2) ag;have fS:Blk w2 (w.heap.size+1) 35 #[.int .i64 0,.int .i64 0]:=Blk.below (by exact blk2) ag (by first|exact ig.lt|omega|(simp<;>omega));have q0:=fS.cell 0;have q1:=fS.cell 1;have q2:=fS.frozen 0;have q3:=fS.frozen 1;simp only[xq0,xq1,xq2]at q0 q1)
   |(go_at_call 190;refine(fF _ ?_).mono ?_;(focus exact bel2);rintro e w1 ⟨rfl,aa⟩;have au:Below w.heap.size w w1:=qab (by exact bel2) aa;have ig:Blk w1 (w.heap.size+1) 35 #[.int .i64 0,.int .i64 0]:=Blk.below (by exact blk2) aa (by first|omega|(simp<;>omega));have fN:Blk w1 b7 35 #[.int .i64 (u0+a),.int .i64 (u1+b)]:=Blk.below (by exact blk2) aa (by first|omega|(simp<;>omega));have y0:=fN.cell 0;have y1:=fN.cell 1;have sR:=ig.lt;simp only[xq0,xq1,xq2]at y0 y1))
  all_goals go_wp2_with fail
  all_goals have mA:=qdi fS (.int .i64 (abv (u0+a) (n0+m.b0))) (.int .i64 (abv (u1+b) (n1+m.b1)))
  all_goals have qU:=mA.cell
  all_goals exact xrn (v:=.agg #[.int .i64 (abv (u0+a) (n0+m.b0)),.int .i64 (abv (u1+b) (n1+m.b1))]) (by simp[results,results216,go_sem,qU]) rfl ⟨rfl,qbu aP (by omega) ..⟩
structure PwIn (W:World) (nodes:List Node) (p:Pw):Prop where
 at_:Blk W p.blk 105 p.cells
 leaf:∃n∈nodes,n.blk=p.q/\n.key=p.x.key
 num:(0<=p.x.d0/\p.x.d0<=1000)/\(0<=p.x.d1/\p.x.d1<=1000)
theorem PwIn.below(h:PwIn W nodes p)(hb:Below W.heap.size W W'):PwIn W' nodes p:=⟨h.at_.below hb h.at_.lt,h.leaf,h.num⟩
theorem qh7.one(h:qh7 W nodes v l)(hp:p∈l):PwIn W nodes p:=⟨h.works p hp,h.leaf p hp,h.num p hp⟩
theorem PwIn.cells(h:PwIn W nodes p):W.cell? ⟨p.blk,0,none⟩=some (.int .i64 p.x.num)/\W.cell? ⟨p.blk,1,none⟩=some (.pointer (some ⟨p.q,0,none⟩))/\W.cell? ⟨p.blk,2,none⟩=some (.int .i64 p.x.d0)/\W.cell? ⟨p.blk,3,none⟩=some (.int .i64 p.x.d1) :=
 ⟨h.at_.cell 0,h.at_.cell 1,h.at_.cell 2,h.at_.cell 3⟩
theorem qjz(T:Tree nodes)(hB:qa1 nodes)(h:Rd w nodes bt rr va l)(hp:PwIn w nodes p):
  Calls prog 207 #[.pointer (some ⟨rr,0,none⟩),nptr p.blk] w fun e w'=>e=.returned (.agg #[.int .i64 (abv (ws0 (pun l p.x.key)+p.x.d0) (pn0 nodes p.x.key)),.int .i64 (abv (ws1 (pun l p.x.key)+p.x.d1) (pn1 nodes p.x.key))])/\Below w.heap.size w w':=by
 obtain⟨m,hm,ln,df⟩:=hp.leaf;have ic:=fun W (hW:Below w.heap.size w W)=>(h.below hW).qya T hB hm
 have fF:=fun W (hW:Below w.heap.size w W)=>qcx T hm W (h.below hW).ins
 have tZ:rr<w.heap.size:=xrb _ _ h.bk;have dU:=hp.at_.lt;have im:=fun W (hW:Below w.heap.size w W)=>(h.below hW).bk
 have lB:=fun W (hW:Below w.heap.size w W)=>(hp.below hW).cells.2
 have ubd:=h.ubd m.key;have tb:=qm6 T m.key;have Er:=hp.num.1;have vY:=hp.num.2;rw[df]at ic fF ubd tb;rw[ln]at ic fF;generalize ws0 (pun l p.x.key)=u0 at *;generalize ws1 (pun l p.x.key)=u1 at *;generalize pn0 nodes p.x.key=n0 at *;generalize pn1 nodes p.x.key=n1 at *;generalize p.x.d0=a at *;generalize p.x.d1=b at *;generalize p.blk=pb at *;generalize p.q=pq at *;have ft:=fun W=>qim u0 u1 a b W (by omega) (by omega) (by omega) (by omega) (by omega) (by omega) (by omega) (by omega)
 have d_:=fun W=>qgj (u0+a) (u1+b) n0 n1 W (by omega) (by omega) (by omega) (by omega) (by omega) (by omega) (by omega) (by omega)
 have b6:Blk (w.alloc (.cells #[.int .i64 0,.int .i64 0] 35)) w.heap.size 35 #[.int .i64 0,.int .i64 0]:=Blk.new' (by simp);have bj:Below w.heap.size w (w.alloc (.cells #[.int .i64 0,.int .i64 0] 35)):=by exact bel2
 clear h hp hm ln df;unfold nptr at ic fF ⊢
 go_enter func207,ntmps207
 go_upto_region 1 with fail
 generalize (w.alloc (.cells #[.int .i64 0,.int .i64 0] 35))=W0 at b6 bj ⊢;have fM:=bj.size;have k1:=im _ bj;obtain⟨z1,z2,z3⟩:=lB _ bj;have l6:=b6.lt;have sW:¬(rr=W0.heap.size):=(by omega);have sX:¬(W0.heap.size=rr):=(by omega);have CQ:¬(pb=W0.heap.size):=(by omega);have CR:¬(W0.heap.size=pb):=(by omega)
 go_cut [5] from 6 (fun q wx=>∃b7,q=.pointer (some ⟨b7,0,none⟩)/\Below w.heap.size w wx/\Blk wx w.heap.size 35 #[.int .i64 0,.int .i64 0]/\Blk wx b7 35 #[.int .i64 (u0+a),.int .i64 (u1+b)]/\w.heap.size<b7)
 case first =>
  go_region_held3 (fun w'=>w'.cell? ⟨rr,1,none⟩=some (.pointer (some ⟨bt,1,none⟩))/\w'.cell? ⟨pb,1,none⟩=some (.pointer (some ⟨pq,0,none⟩))/\w'.cell? ⟨pb,2,none⟩=some (.int .i64 a)/\w'.cell? ⟨pb,3,none⟩=some (.int .i64 b)) (go_keep)
   (first
   |(go_at_call 106;refine(ic _ ?_).mono ?_;(focus exact bel2);rintro e w1 ⟨rfl,aa⟩;have au:Below w.heap.size w w1:=qab (by exact bel2) aa;have ig:Blk w1 w.heap.size 35 #[.int .i64 0,.int .i64 0]:=Blk.below (by exact blk2) aa (by first|omega|(simp<;>omega));have k2:=im _ au;obtain⟨y1,y2,y3⟩:=lB _ au;have sR:=ig.lt;have dz:=au.size;have xH:¬(rr=w1.heap.size):=(by omega);have zM:¬(w1.heap.size=rr):=(by omega);have sZ:¬(pb=w1.heap.size):=(by omega);have EV:¬(w1.heap.size=pb):=(by omega);(try (have fN:Blk w1 W0.heap.size 35 #[.int .i64 0,.int .i64 0]:=Blk.below (by first|(with_reducible exact Blk.new' (by simp))|(with_reducible exact Blk.drew (Blk.new' (by simp)))) aa (by simp);have xC:=fN.lt)))
   |(go_at_call 139;refine(ft _).mono ?_;rintro e w2 ⟨rfl,ag⟩;have aP:Below w.heap.size w w2:=qab (by exact bel2) ag;have fS:Blk w2 w.heap.size 35 #[.int .i64 0,.int .i64 0]:=Blk.below (by exact blk2) ag (by first|omega|(simp<;>omega));have k3:=im _ aP;obtain⟨x1,x2,x3⟩:=lB _ aP;have CL:=fS.lt;have fq:=aP.size;have xI:¬(rr=w2.heap.size):=(by omega);have zN:¬(w2.heap.size=rr):=(by omega);have zO:¬(pb=w2.heap.size):=(by omega);have EW:¬(w2.heap.size=pb):=(by omega);(try (have eV:Blk w2 W0.heap.size 35 #[.int .i64 0,.int .i64 0]:=Blk.below (by with_reducible exact fN) ag (by omega);have c7:=eV.cell;have g7:=eV.frozen;have xD:=eV.lt));(try (have eV:Blk w2 w1.heap.size 35 #[.int .i64 0,.int .i64 0]:=Blk.below (by first|(with_reducible exact Blk.new' (by simp))|(with_reducible exact Blk.drew (Blk.new' (by simp)))) ag (by simp);have c7:=eV.cell;have g7:=eV.frozen;have xD:=eV.lt))))
  all_goals go_wp2_with fail
  ·go_meet
   exact⟨_,rfl,aP.alloc fq _,fS.alloc _,Blk.new' rfl,by omega⟩
  ·go_meet
   exact⟨_,rfl,qbu aP (by omega) ..,qfv fS (by omega) ..,qdi eV ..,by omega⟩
  ·go_meet
   exact⟨_,rfl,qbu aP (by omega) ..,qfv fS (by omega) ..,qdi eV ..,by omega⟩
 case rest =>
  obtain⟨b7,rfl,dF,uG,kA,rH⟩:=hcut;clear b6 bj z1 z2 z3 k1 sW sX CQ CR ic ft im;have z0:=kA.cell 0;have z1:=kA.cell 1;have CM:=uG.lt;have CN:=kA.lt;obtain⟨z2,_,_⟩:=lB _ dF;simp only[xq0,xq1,xq2]at z0 z1
  go_upto_region 2 with fail
  go_region_with (first
   |(go_at_call 189;refine(d_ _).mono ?_;rintro e w2 ⟨rfl,ag⟩;have aP:Below w.heap.size w w2:=qab (by exact bel2) ag;have fS:Blk w2 w.heap.size 35 #[.int .i64 0,.int .i64 0]:=Blk.below (by exact blk2) ag (by first|exact ig.lt|omega|(simp<;>omega));have q0:=fS.cell 0;have q1:=fS.cell 1;have q2:=fS.frozen 0;have q3:=fS.frozen 1;simp only[xq0,xq1,xq2]at q0 q1)
   |(go_at_call 85;refine(fF _ ?_).mono ?_;(focus exact bel2);rintro e w1 ⟨rfl,aa⟩;have au:Below w.heap.size w w1:=qab (by exact bel2) aa;have ig:Blk w1 w.heap.size 35 #[.int .i64 0,.int .i64 0]:=Blk.below (by exact blk2) aa (by first|omega|(simp<;>omega));have fN:Blk w1 b7 35 #[.int .i64 (u0+a),.int .i64 (u1+b)]:=Blk.below (by exact blk2) aa (by first|omega|(simp<;>omega));have y0:=fN.cell 0;have y1:=fN.cell 1;have sR:=ig.lt;simp only[xq0,xq1,xq2]at y0 y1))
  all_goals go_wp2_with fail
  all_goals have mA:=qdi fS (.int .i64 (abv (u0+a) n0)) (.int .i64 (abv (u1+b) n1))
  all_goals have qU:=mA.cell
  all_goals exact xrn (v:=.agg #[.int .i64 (abv (u0+a) n0),.int .i64 (abv (u1+b) n1)]) (by simp[results,results207,go_sem,qU]) rfl ⟨rfl,qbu aP (by omega) ..⟩
end
section
variable {i j k:Nat}
def swp {α : Type}(ys:List α)(i j:Nat)(a b : α):List α := (ys.set i b).set j a
theorem qlx{α : Type}(ys:List α)(i j:Nat)(a b : α):(swp ys i j a b).length=ys.length:=by simp[swp]
theorem que{α : Type}{ys:List α}{a b : α}(hi:ys[i]?=some a)(hj:ys[j]?=some b)(m:Nat):(swp ys i j a b)[m]?=if m=j then some a else if m=i then some b else ys[m]?:=by
 have h1:=(xr0.1 hi).1;have h2:=(xr0.1 hj).1;unfold swp;rw[List.getElem?_set,List.length_set,List.getElem?_set]
 by_cases e1:m=j
 ·subst e1;simp[h2]
 ·rw[if_neg (fun e=>e1 e.symm),if_neg e1]
  by_cases e2:m=i
  ·subst e2;simp[h1]
  ·rw[if_neg (fun e=>e2 e.symm),if_neg e2]
theorem set_perm{α : Type}{l:List α}{a : α}(hi:l[i]?=some a)(b : α):(b::l).Perm (a::l.set i b):=by
 induction l generalizing i with
 |nil=>simp at hi
 |cons x l ih =>
  cases i with
  |zero=>simp at hi;subst hi;simp;exact List.Perm.swap ..
  |succ i =>
   simp at hi
   have h1:=ih hi;simp only[xr7]
   exact((List.Perm.swap x b l).trans (h1.cons x)).trans (List.Perm.swap a x _)
theorem qij{α : Type}{ys:List α}{a b : α}(mg:i≠j)(hi:ys[i]?=some a)(hj:ys[j]?=some b):(swp ys i j a b).Perm ys:=by
 unfold swp;have h1:=set_perm hi b;have pP:(ys.set i b)[j]?=some b:=by rw[List.getElem?_set,if_neg mg];exact hj
 have h2:=set_perm pP a
 exact(List.perm_cons b).1 (h2.symm.trans h1.symm)
structure Ord {α : Type} (lt : α -> α -> Bool):Prop where
 asymm:∀a b,lt a b=true->lt b a=false
 trans:∀a b c,lt a b=false->lt b c=false->lt a c=false
def qb2 {α : Type}(lt : α -> α -> Bool)(ys:List α):Prop:=∀(j:Nat) (a b : α),0<j->ys[j]?=some a->ys[(j-1) / 2]?=some b->lt a b=false
structure qgi {α : Type} (lt : α -> α -> Bool) (ys:List α) (k:Nat):Prop where
 one:∀(j:Nat) (a b : α),0<j->j≠k->ys[j]?=some a->ys[(j-1) / 2]?=some b->lt a b=false
 two:∀(j:Nat) (a b : α),0<j->(j-1) / 2=k->0<k->ys[j]?=some a->ys[(k-1) / 2]?=some b->lt a b=false
structure qb8 {α : Type} (lt : α -> α -> Bool) (ys:List α) (k:Nat):Prop where
 one:∀(j:Nat) (a b : α),0<j->(j-1) / 2≠k->ys[j]?=some a->ys[(j-1) / 2]?=some b->lt a b=false
 two:∀(j:Nat) (a b : α),0<j->(j-1) / 2=k->0<k->ys[j]?=some a->ys[(k-1) / 2]?=some b->lt a b=false
theorem qgi.zero{α : Type}{lt : α -> α -> Bool}{ys:List α}(h:qgi lt ys 0):qb2 lt ys:=fun j a b hj=>h.one j a b hj (by omega)
theorem qgi.stop{α : Type}{lt : α -> α -> Bool}{ys:List α}(h:qgi lt ys k){a b : α}(ha:ys[k]?=some a)(hb:ys[(k-1) / 2]?=some b)(hl:lt a b=false):qb2 lt ys:=by
 intro j x y hj hx hy
 by_cases e:j=k
 ·subst e;rw[ha]at hx;rw[hb]at hy;cases hx;cases hy;exact hl
 ·exact h.one j x y hj e hx hy
theorem qgi.step{α : Type}{lt : α -> α -> Bool}(O:Ord lt){ys:List α}(hk:0<k)(h:qgi lt ys k){a b : α}(ha:ys[k]?=some a)(hb:ys[(k-1) / 2]?=some b)(hl:lt a b=true):qgi lt (swp ys k ((k-1) / 2) a b) ((k-1) / 2):=by
 have G:=que ha hb;obtain⟨p,hp⟩:∃p,p=(k-1) / 2:=⟨_,rfl⟩;rw[<-hp]at hb G ⊢;have dS:p<k:=by omega
 have g_:=O.asymm a b hl
 refine⟨fun j x y hj BU hx hy=>?_,fun j x y hj hq gd hx hy=>?_⟩
 ·rw[G]at hx hy;rw[if_neg BU]at hx
  by_cases e:j=k
  ·subst e;rw[if_pos rfl]at hx;rw[if_pos (by omega)]at hy
   cases hx;cases hy;exact g_
  ·rw[if_neg e]at hx
   by_cases e1:(j-1) / 2=p
   ·rw[if_pos e1]at hy;cases hy
    exact O.trans x b a (h.one j x b hj e hx (by rw[e1];exact hb)) g_
   ·rw[if_neg e1]at hy
    by_cases e2:(j-1) / 2=k
    ·rw[if_pos e2]at hy;cases hy
     exact h.two j x b hj e2 hk hx (by rw[<-hp];exact hb)
    ·rw[if_neg e2]at hy
     exact h.one j x y hj e hx hy
 ·rw[G]at hx hy;rw[if_neg (by omega),if_neg (by omega)]at hy;rw[if_neg (by omega)]at hx;have mN:lt b y=false:=h.one p b y gd (by omega) hb hy
  by_cases e:j=k
  ·rw[if_pos e]at hx;cases hx;exact mN
  ·rw[if_neg e]at hx
   exact O.trans x b y (h.one j x b hj e hx (by rw[hq];exact hb)) mN
theorem qb8.stop{α : Type}{lt : α -> α -> Bool}{ys:List α}(h:qb8 lt ys k){a : α}(ha:ys[k]?=some a)(h1:∀b,ys[2*k+1]?=some b->lt b a=false)(h2:∀b,ys[2*k+2]?=some b->lt b a=false):qb2 lt ys:=by
 intro j x y hj hx hy
 by_cases e:(j-1) / 2=k
 ·rw[e,ha]at hy;cases hy
  rcases(by omega:j=2*k+1\/j=2*k+2) with rfl|rfl
  ·exact h1 x hx
  ·exact h2 x hx
 ·exact h.one j x y hj e hx hy
theorem qb8.step{α : Type}{lt : α -> α -> Bool}(O:Ord lt){ys:List α}{f:Nat}(hf:f=2*k+1\/f=2*k+2)(h:qb8 lt ys k){a b : α}(ha:ys[k]?=some a)(hb:ys[f]?=some b)(hl:lt b a=true)(hc:∀c x,(c=2*k+1\/c=2*k+2)->ys[c]?=some x->c≠f->lt x b=false):qb8 lt (swp ys k f a b) f:=by
 have G:=que ha hb;have Bv:=O.asymm b a hl
 refine⟨fun j x y hj hq hx hy=>?_,fun j x y hj hq zd hx hy=>?_⟩
 ·rw[G]at hx hy;rw[if_neg hq]at hy
  by_cases e:j=f
  ·rw[if_pos e]at hx;rw[if_pos (by omega)]at hy
   cases hx;cases hy;exact Bv
  ·rw[if_neg e]at hx
   by_cases e1:j=k
   ·rw[if_pos e1]at hx;cases hx;rw[if_neg (by omega)]at hy
    exact h.two f b y (by omega) (by omega) (by omega) hb (by rw[<-e1];exact hy)
   ·rw[if_neg e1]at hx
    by_cases e2:(j-1) / 2=k
    ·rw[if_pos e2]at hy;cases hy
     exact hc j x (by omega) hx e
    ·rw[if_neg e2]at hy
     exact h.one j x y hj e2 hx hy
 ·rw[G]at hx hy;rw[if_neg (by omega),if_neg (by omega)]at hx;rw[if_neg (by omega),if_pos (by omega)]at hy
  cases hy
  exact h.one j x b hj (by omega) hx (by rw[hq];exact hb)
theorem qb2.min{α : Type}{lt : α -> α -> Bool}(O:Ord lt){ys:List α}(h:qb2 lt ys){m : α}(hm:ys[0]?=some m)(nc:lt m m=false):∀(j:Nat) (a : α),ys[j]?=some a->lt a m=false:=by
 intro j
 induction j using Nat.strongRecOn with
 |_ j ih =>
  intro a ha
  by_cases e:j=0
  ·subst e;rw[hm]at ha;cases ha;exact nc
  ·have ak:=(xr0.1 ha).1;obtain⟨b,hb⟩:∃b,ys[(j-1) / 2]?=some b:=⟨_,xr1 (by omega)⟩
   exact O.trans a b m (h j a b (by omega) ha hb) (ih _ (by omega) b hb)
theorem qb2.push{α : Type}{lt : α -> α -> Bool}{ys:List α}(h:qb2 lt ys)(x : α):qgi lt (ys++[x]) ys.length:=by
 refine⟨fun j a b hj hn ha hb=>?_,fun j a b hj hq hk ha hb=>?_⟩
 ·have ak:=(xr0.1 ha).1
  simp at ak
  rw[xrp (by omega)]at ha hb
  exact h j a b hj ha hb
 ·have ak:=(xr0.1 ha).1
  simp at ak
  omega
theorem qb2.pop{α : Type}{lt : α -> α -> Bool}{ys:List α}(h:qb2 lt ys)(b : α):qb8 lt ((ys.set 0 b).take (ys.length-1)) 0:=by
 refine⟨fun j x y hj hq hx hy=>?_,fun j x y hj hq hk=>by omega⟩
 have ak:=(xr0.1 hx).1
 simp at ak
 rw[List.getElem?_take_of_lt (by omega),List.getElem?_set,if_neg (by omega)]at hx hy
 exact h j x y hj hx hy
theorem qpn{α : Type}{ys:List α}{a b : α}(ha:ys[0]?=some a)(hb:ys[ys.length-1]?=some b):(a::(ys.set 0 b).take (ys.length-1)).Perm ys:=by
 cases ys with
 |nil=>simp at ha
 |cons x l =>
  simp at ha;subst ha
  rcases List.eq_nil_or_concat l with rfl|⟨l',z,rfl⟩
  ·simp
  ·have hz:b=z:=by simp at hb;exact hb.symm
   subst hz;simp only[xr8,List.length_cons,List.concat_eq_append,List.length_append,List.length_nil];rw[show l'.length+1+1-1=l'.length+1 by omega,List.take_succ_cons,List.take_left']
   ·exact(List.perm_append_singleton b l').symm.cons x
   ·rfl
end
end Go.Proofs.YtphclnolomgjoaaGreatDoor
