import Derived.Test.YtphclnolomgjoaaGreatDoorE07
import Derived.Sort.LoopGhostIn
import Derived.LaidEqlPtr
import Derived.Test.YtphclnolomgjoaaGreatDoorE05
import Derived.Lib.SliceRun
set_option linter.unusedVariables false
set_option linter.unusedSimpArgs false
set_option maxRecDepth 100000
set_option maxHeartbeats 4000000
namespace Go.Proofs.YtphclnolomgjoaaGreatDoor
open Tryz
section
open Go.RowKit Go.Shelf
variable {W:World}
attribute [local go_sem] Oper.semAt_some
theorem rD(w:World):(binOp .neq 97 (.pointer none) (.pointer none)).run prog w=.ok (.bool false) w:=by
 kernel_rfl
def ups (za:List zc):Nat->zc->List zc
 |0,n=>[n]
 |f+1,n=>if n.zb=[] then [n] else n::(match zp za n.zb.dropLast with|some p=>ups za f p|none=>[])
def uh (za:List zc)(f:Nat):Option zc->List zc
 |none=>[]
 |some c=>ups za f c
theorem kj{za:List zc}(T:zr za){c:zc}(d:c∈za){f:Nat}(m:c.zb.length<=f):∃(o:Option zc),ups za f c=c::uh za (f-1) o/\c.up=o.map (·.ze)/\(∀p,o=some p->p∈za/\p.zb.length<=f-1):=by
 by_cases a:c.zb=[]
 ·refine⟨none,?_,?_,fun p h=>by cases h⟩
  ·cases f with
   |zero=>rfl
   |succ f=>simp[ups,a,uh]
  ·rw[T.top c d a];rfl
 ·obtain⟨k,x,b⟩:∃k x,c.zb=k++[x]:=⟨_,_,(List.dropLast_concat_getLast a).symm⟩;obtain⟨p,hp,e,_,i⟩:=T.par c d k x b;have l:c.zb.length=k.length+1:=by rw[b];simp
  refine⟨some p,?_,by rw[i];rfl,fun q h=>by cases h;exact⟨hp,by rw[e];omega⟩⟩
  obtain⟨g,rfl⟩:∃g,f=g+1:=⟨f-1,o_⟩;have j:zp za c.zb.dropLast=some p:=by rw[b,List.dropLast_concat];exact Zl T hp e
  simp only[ups,if_neg a,j,uh,Nat.add_sub_cancel]
theorem Z9{za:List zc}(T:zr za):∀(f:Nat) (c:zc),c∈za->c.zb.length<=f->∀m,m∈ups za f c↔(m∈za/\m.zb <+: c.zb):=by
 intro f
 induction f with
 |zero =>
  intro c a n m;have b:c.zb=[]:=List.eq_nil_of_length_eq_zero o_;simp only[ups,List.mem_singleton]
  constructor
  ·rintro rfl;exact⟨a,List.prefix_refl _⟩
  ·rintro⟨d,hp⟩
   rw[b]at hp
   exact T.inj m d c a (by rw[b];exact List.prefix_nil.1 hp)
 |succ f o =>
  intro c a n m
  by_cases b:c.zb=[]
  ·simp only[ups,if_pos b,List.mem_singleton]
   constructor
   ·rintro rfl;exact⟨a,List.prefix_refl _⟩
   ·rintro⟨d,hp⟩
    rw[b]at hp
    exact T.inj m d c a (by rw[b];exact List.prefix_nil.1 hp)
  ·obtain⟨k,x,e⟩:∃k x,c.zb=k++[x]:=⟨_,_,(List.dropLast_concat_getLast b).symm⟩;obtain⟨p,hp,g,_,s⟩:=T.par c a k x e;have r:c.zb.length=k.length+1:=by rw[e];simp
   have q:zp za c.zb.dropLast=some p:=by rw[e,List.dropLast_concat];exact Zl T hp g
   simp only[ups,if_neg b,q,List.mem_cons,o p hp (by rw[g];omega) m];rw[g]
   constructor
   ·rintro(rfl|⟨j,l⟩)
    ·exact⟨a,List.prefix_refl _⟩
    ·exact⟨j,by rw[e];exact l.trans (aE _ _)⟩
   ·rintro⟨d,i⟩
    rw[e]at i
    rcases List.prefix_concat_iff.1 i with h|h
    ·left;exact T.inj m d c a (by rw[h,e])
    ·right;exact⟨d,h⟩
theorem lj(za:List zc):∀(f:Nat) (c:zc),(ups za f c).length<=f+1:=by
 intro f
 induction f with
 |zero=>intro c;simp[ups]
 |succ f a =>
  intro c;simp only[ups]
  split
  ·simp
  ·split
   ·rename_i p _;have:=a p;simp;omega
   ·simp
theorem eH{za:List zc}(T:zr za){n:zc}(r:n∈za)(w:World)(O:∀n∈za,UA w n):
  Calls prog 191 #[zi n.ze] w fun e w'=>e=vR (.func (.func 223) #[] #[vP w.heap.size])/\w'=w.alloc (.cells #[zi n.ze] 97) /\
   ∀a:Nat->Prop,(∀n∈za,¬a n.ze/\∀g,n.sl.ownBlock=some g->¬a g)->SeqK prog 223 #[vP w.heap.size] (fun x:zc=>zi x.ze) (fun _=>False) a (ups za 4 n) w':=by
 have ga:∀(fn:Fn) (first cap:Array Value) (w:World),(Instr.makeFunc fn first cap).run prog w=.ok (.func fn first cap) w:=fun _ _ _ _=>rfl
 have zb:∀a:Nat->Prop,(∀n∈za,¬a n.ze/\∀g,n.sl.ownBlock=some g->¬a g)->SeqK prog 223 #[vP w.heap.size] (fun x:zc=>zi x.ze) (fun _=>False) a (ups za 4 n) (w.alloc (.cells #[zi n.ze] 97)):=by
  intro a t m l J H W E ca ba ha u C;have M:∀k:Nat,Fence.wide.depth.isSome=true->1<=k:=fun k h=>by simp[Fence.wide]at h
  have X:∀n∈za,UA W n:=fun n r=>(O n r).below (s5 ((Below.refl _ _).alloc (Nat.le_refl _) _) E)
  have hb:W.cell? (vA w.heap.size 0)=some (zi n.ze):=((zz.new w 97 (zi n.ze)).below E s_).cell;have K:=(T.ok n r).2;have da:=eS;generalize hXS:ups za 4 n=j at u ⊢
  refine callsIn_of_wp func223 rfl trivial ?_ rfl
  unfold zi at hb;simp only[ntmps223,zC,Nat.reduceAdd,Nat.reduceSub]
  gi_wp2
  gi_loopg [3] 5 (fun q v wr=>∃(pre:List zc) (o:Option zc) (f:Nat),v=vd (o.map (·.ze))/\j=pre++uh za f o/\(∀c,o=some c->c∈za/\c.zb.length<=f)/\(uh za f o).length<=q/\J pre wr/\zd a W wr)
  case atStart=>exact⟨[],some n,4,rfl,by rw[<-hXS];rfl,fun c h=>by cases h;exact⟨r,K⟩,lj _ _ _,C,zd.refl _ _⟩
  case round =>
   obtain⟨pre,o,f,rfl,F,Q,hq,z,i⟩:=hrel;have Z:=rD;have s:Hid (j=pre++uh za f o):=F;clear F C hb hXS
   cases o with
   |none =>
    simp only[vd,Option.map_none];have N:J j wr:=by rw[s.out];simpa [uh] using z
    gi_wp2
    refine⟨fun f h=>(by cases h),?_⟩
    gi_wp2
    go_end0
    exact⟨⟨_,rfl⟩,.inl N⟩
   |some c =>
    obtain⟨p,I⟩:=Q c rfl;obtain⟨b,d,B,S⟩:=kj T p I;have G:pre++[c] <+: j:=by rw[s.out,show uh za f (some c)=c::uh za (f-1) b from d];exact⟨uh za (f-1) b,s_⟩
    obtain⟨fn,tmps,assign,body,R,D⟩:=u (m-1) pre c wr z G;have Y:=Y3 t X i;have A:=D.mono (R':=fun e W'=>(e=vR (.bool true)/\J (pre++[c]) W'/\zd a wr W'/\W'.cell? (vA c.ze 6)=some (vd (b.map (·.ze))))\/(e=vR (.bool false)/\H (pre++[c]) W'))
     (fun e W' h=>h.elim (fun ⟨d,P,i⟩=>.inl ⟨d,P,i,by rw[<-B];exact((Y c p).zf i (t c p).1 (t c p).2).cell rfl⟩) .inr)
    have y:Hid (uh za f (some c)=c::uh za (f-1) b):=d;clear D u d B;simp only[vd,Option.map_some];unfold zi at R
    gi_wp2_with (refine⟨M _,?_⟩;refine A.mono ?_;clear A;rintro e aa (⟨rfl,V,L,ea⟩|⟨rfl,U⟩))
    ·gi_roundg ((uh za (f-1) b).length)
     case measure=>have:=y.out;rw[this]at hq;simp at hq;omega
     case rel=>exact⟨pre++[c],b,f-1,rfl,by rw[s.out,y.out];simp,S,Nat.le_refl _,V,i.trans L⟩
    ·go_end0
     exact⟨⟨_,rfl⟩,.inr ⟨_,G,U⟩⟩
 unfold zi at zb ⊢
 go_enter func191,ntmps191
 go_wp2
 go_ret
 exact⟨rfl,rfl,zb⟩
attribute [local go_sem] Oper.semAt_some
def U_ (za:List zc):Prop:=∀a∈za,∀b∈za,a.ze=b.ze->a=b
theorem un93:prog.underlying 97=some (.pointer 136):=k_
theorem lW:(prog.info? 136).map (fun i=>i.size)=some 8:=k_
theorem kR:∃j,prog.info? 136=some j/\j.size≠0:=by
 have h:=lW
 cases a:prog.info? 136 with
 |none=>rw[a]at h;cases h
 |some j=>rw[a]at h;simp at h;exact⟨j,rfl,o_⟩
theorem eB{x m:zc}(d:UA W x)(b:UA W m):(binOp .eql 97 (vP x.ze) (vP m.ze)).run prog W=.ok (.bool (x.ze == m.ze)) W:=by
 obtain⟨j,a,c⟩:=kR
 by_cases h:x.ze=m.ze
 ·rw[h,beq_self_eq_true]
  exact run_eql_ptr_same _ _ un93 a
 ·have hb:(x.ze == m.ze)=false:=by simp[h]
  rw[hb]
  exact run_eql_ptr_other _ un93 a c (fun e=>h (by injection e)) d.zl b.zl
theorem dY{za:List zc}(T:zr za)(Q:U_ za){n m:zc}(s:n∈za)(F:m∈za)(w:World)(r:∀n∈za,UA w n):
  Calls prog 142 #[zi n.ze,zi m.ze] w fun e w'=>e=vR (.bool (m.zb.isPrefixOf n.zb))/\Bw w w':=by
 have N:∀k:Nat,Fence.wide.depth.isSome=true->1<=k:=fun k h=>by simp[Fence.wide]at h
 have v:∀W,(∀n∈za,UA W n)->_:=fun W j=>eH T s W j
 have u:=Z9 T 4 n s (T.ok n s).2;generalize ia:ups za 4 n=X at v u
 refine(UK (n:=3)).1 ?_
 refine callsIn_of_wp_marks func142 rfl trivial ?_ rfl
 unfold zi at v ⊢;simp only[ntmps142,zC,Nat.reduceAdd,Nat.reduceSub]
 gi_wp2_with ((first|refine⟨trivial,N _,?_⟩|refine⟨trivial,?_⟩);gi_at_call 191;refine(UK.2 (v _ (fun n s=>(r n s).below Vy))).mono ?_;rintro e W ⟨rfl,rfl,t⟩)
 obtain⟨W,j⟩:∃W,W=((w.alloc (.cells #[vP m.ze] 97)).alloc (.cells #[.bool false] 4)).alloc (.cells #[vP n.ze] 97):=⟨_,rfl⟩;have ga:W.heap.size=w.heap.size+3:=by rw[j];simp
 have I:((w.alloc (.cells #[vP m.ze] 97)).alloc (.cells #[.bool false] 4)).heap.size=w.heap.size+1+1:=s_;have O:zz W w.heap.size 97 (vP m.ze):=by rw[j];exact((zz.new w 97 _).alloc _).alloc _
 have M:zz W (w.heap.size+1) 4 (.bool false):=by
  rw[j];have:=zz.new (w.alloc (.cells #[vP m.ze] 97)) 4 (.bool false);rw[Vv]at this;exact this.alloc _
 have P:Bw w W:=by rw[j];exact Vy
 rw[I]at t;simp only[<-j]at t ⊢;have hq:=t (fun b=>b=w.heap.size+1\/W.heap.size<=b) (fun k f=>⟨fun h=>by have:=(r k f).lt;omega,fun g Y h=>by have:=((r k f).row.lt g Y).2;omega⟩);clear t v I j;have q:∀b,b<W.heap.size->¬(False\/W.heap.size<=b):=fun b hb h=>by rcases h with h|h;exact h;omega
 refine XQ (T:=fun b=>b=w.heap.size+1) (S:=fun _=>False) rfl (enters_of func223 k_ rfl) hq (Below.refl _ _) rfl (fun b h=>h.elim) (fun b h=>by omega)
  (fun pre A=>m ∉ pre/\zz A w.heap.size 97 (vP m.ze)/\zz A (w.heap.size+1) 4 (.bool false)/\Bw w A)
  (fun c pre A=>c=.ret/\m∈pre/\zz A (w.heap.size+1) 4 (.bool true)/\Bw w A)
  (fun pre A B a f=>⟨a.1,a.2.1.zf f (q _ o_),a.2.2.1.zf f (q _ o_),a.2.2.2.trans (f.ya a.2.2.2.size (fun b L=>q b o_))⟩)
  (fun c pre A B a f=>⟨a.1,a.2.1,a.2.2.1.zf f (q _ o_),a.2.2.2.trans (f.ya a.2.2.2.size (fun b L=>q b o_))⟩)
  ⟨s_,O,M,P⟩
  (fun x=>{tmps:=#[vP n.ze,vP m.ze,undef,vP w.heap.size,vP (w.heap.size+1),vP x.ze,vP n.ze,
   .func (.func 223) #[] #[vP (w.heap.size+1+1)],vP x.ze,undef,undef,undef],defers:=[]}) ?assign ?body ?done ?stop
 case assign =>
  intro l x W K R
  gi_wp2
  exact R
 case body =>
  rintro l pre x ca ⟨o,z,d,i⟩ ha C
  have H:=((u x).1 (C.subset s_)).1;have ea:=z.cell;have U:=d.cell;have V:=d.frozen;have J:=eB ((r x H).below i) ((r m F).below i)
  by_cases y:x.ze=m.ze
  ·have G:x=m:=Q x H m F y;subst G;rw[beq_self_eq_true]at J;have da:Hid (x ∉ pre):=o;clear o y
   gi_wp2
   exact⟨(zd.refl (fun b=>b=w.heap.size+1) _).setCell (p:=vA (w.heap.size+1) 0) rfl _,rfl,s_,d.set _,i.setCell s_ _⟩
  ·have G:m≠x:=fun e=>y (by rw[e])
   have ba:(x.ze == m.ze)=false:=by simp[y]
   rw[ba]at J
   gi_wp2
   exact⟨zd.refl _ _,by simp[o,G],z,d,i⟩
 case done =>
  rintro A ⟨o,z,d,i⟩ E
  have U:=d.cell;have V:=d.frozen
  gi_wp2
  have aa:(A.setCell (vA (w.heap.size+1) 0) (.bool false)).heap[W.heap.size]?=some (.deferred (some [])):=(Below.heap_setCell _ _ _ _ t_).trans E;have D:=((d.set (.bool false)).put W.heap.size (.deferred none) o_).cell
  refine⟨s_,.inl ⟨_,_,rfl,run_takeDeferred aa,?_⟩⟩
  refine⟨.bool false,by simp[results,results142,go_sem,D],VP ?_,Wn (i.setCell s_ _) _ _ o_⟩
  cases hp:m.zb.isPrefixOf n.zb with
  |false=>rfl
  |true=>exact absurd ((u m).2 ⟨F,WK.1 hp⟩) o
 case stop =>
  rintro c pre A C ⟨rfl,Z,d,i⟩ E
  gi_wp2
  have D:=(d.put W.heap.size (.deferred none) o_).cell
  refine⟨s_,.inl ⟨_,_,rfl,run_takeDeferred E,?_⟩⟩
  refine⟨.bool true,by simp[results,results142,go_sem,D],VP ?_,Wn i _ _ o_⟩
  exact(WK.2 ((u m).1 (C.subset Z)).2).symm
end
section
open Go.RowKit
variable {W W' w:World}{v va:Value}{B b bt c i rr:Nat}{vs:Array Value}
structure Pw where
 ze:Nat
 x:Wk
 q:Nat
variable {l:List Pw}{p:Pw}
def Pw.cells(p:Pw):Array Value:=#[vI p.x.zm,zi p.q,vI p.x.d0,vI p.x.d1]
def UN (l:List Pw):List Value:=l.map fun p=>zi p.ze
structure XF (W:World) (za:List zc) (v:Value) (l:List Pw):Prop where
 row:W.ownsRow 0 95 1 v l.length (UN l)
 zu:∀p∈l,zg W p.ze 105 p.cells
 zj:∀p∈l,∃n∈za,n.ze=p.q/\n.zb=p.x.zb
 zm:∀p∈l,(0<=p.x.d0/\p.x.d0<=1000)/\(0<=p.x.d1/\p.x.d1<=1000)
 len:l.length<=24
theorem XF.below{za:List zc}(h:XF W za v l)(hb:Bw W W'):XF W' za v l :=
 ⟨s8 (T:=fun _=>False) h.row (zd.new hb) (fun _ _ e=>e),fun p hp=>(h.zu p hp).below hb (h.zu p hp).lt,h.zj,h.zm,h.len⟩
theorem XF.zl{za:List zc}(h:XF W za v l)(a:l[i]?=some p):∃g cap,v=vS g l.length cap/\g<W.heap.size/\l.length<=cap/\cap<=maxLen/\W.cell? (vA g i)=some (zi p.ze):=by
 obtain⟨g,cap,rfl,b,c⟩:=VX h.row (Nat.lt_of_le_of_lt (Nat.zero_le _) (Uy.1 a).1)
 have:=h.row.cells (g:=g) rfl i (zi p.ze) (by unfold UN;rw[VB,a];rfl)
 rw[Addr.add_lit,Nat.zero_add]at this
 exact⟨g,cap,rfl,UI h.row rfl,b,c,this⟩
theorem XF.form{za:List zc}(h:XF W za v l):∃a cap,v=.slice a l.length cap:=by
 rcases h.row.2 with ⟨rfl,b⟩|⟨g,cap,c,rfl,_⟩
 ·exact⟨none,0,by rw[b]⟩
 ·exact⟨_,_,rfl⟩
def pun (l:List Pw)(k:List Bs):List Wk:=(l.map (·.x)).filter fun x=>k.isPrefixOf x.zb
theorem j1(l:List Pw)(p:Pw)(k:List Bs):pun (l++[p]) k=pun l k++(if k.isPrefixOf p.x.zb then [p.x] else []):=by
 unfold pun;rw[List.map_append,List.filter_append];simp[VW]
theorem eE(h:∀p∈l,(0<=p.x.d0/\p.x.d0<=1000)/\(0<=p.x.d1/\p.x.d1<=1000))(c:l.length<=24)(k:List Bs):(0<=yf (pun l k)/\yf (pun l k)<=24000)/\(0<=yg (pun l k)/\yg (pun l k)<=24000):=by
 have b:∀x∈pun l k,∃p∈l,p.x=x:=fun x a=>by
  obtain⟨p,hp,e⟩:=UC.1 (Vu.1 a).1;exact⟨p,hp,e⟩
 have d:(pun l k).length<=24:=Nat.le_trans (Wt _ _) (j_ c);have s0:=eI (pun l k) (fun x a=>by obtain⟨p,hp,rfl⟩:=b x a;exact(h p hp).1);have f:=eJ (pun l k) (fun x a=>by obtain⟨p,hp,rfl⟩:=b x a;exact(h p hp).2)
 omega
theorem c_{za:List zc}(T:zr za)(ma:U_ za)(w:World)(na:∀n∈za,UA w n)(bt:Nat)(S:w.cell? (vA bt 3)=some va)(f:XF w za va l){m:zc}(qa:m∈za):
  Calls prog 106 #[.pointer (some (vA bt 1)),zi m.ze] w fun e w'=>e=vR (.agg #[vI (yf (pun l m.zb)),vI (yg (pun l m.zb))])/\Bw w w':=by
 have ia:=VE w _ S
 simp only at ia
 have J:=fun W (u:Bw w W) p (hp:p∈l)=>(show Calls prog 142 #[zi p.q,zi m.ze] W fun e w'=>e=vR (.bool (m.zb.isPrefixOf p.x.zb))/\Bw W w' from by
  obtain⟨n,y,b,ja⟩:=f.zj p hp;rw[<-b,<- ja]
  exact dY T ma y qa W (fun k U=>(na k U).below u))
 obtain⟨a,cap,P⟩:=f.form;have E:=fun W (u:Bw w W) i p (pa:l[i]?=some p)=>(f.below u).zl pa
 obtain⟨n,y⟩:∃n,n=l.length:=⟨_,rfl⟩;have ga:=f.len;rw[<-y]at ga P E;have Q:Hid (n=l.length):=y;clear y;rw[P]at S E;unfold zi at J ⊢;have Ja:(w.alloc (.cells #[vI 0,vI 0] 35)).heap.size=w.heap.size+1:=s_
 go_enter func106,ntmps106
 go_wp2
 go_loopw [13] (fun i wr=>∃k:Nat,k<=n/\i=vI k/\Bw w wr/\zg wr w.heap.size 35 #[vI 0,vI 0]/\zg wr (w.heap.size+1) 35 #[vI (yf (pun (l.take k) m.zb)),vI (yg (pun (l.take k) m.zb))]) (fun i _=>n-(intOf i).toNat)
 case atStart=>exact⟨0,Nat.zero_le _,rfl,cl,s6,by refine zg.new' ?_;simp⟩
 case round =>
  obtain⟨k,U,rfl,D,h,j⟩:=hrel
  by_cases ea:k<n
  ·have G:k<l.length:=by rw[<-Q.out];exact ea
   obtain⟨p,hp⟩:∃p,l[k]?=some p:=⟨_,Ur G⟩;have t:=Uq hp;have ba:Hid (l.take (k+1)=l.take k++[p]):=by
    show _=_
    rw[VT G];rw[Ur G]at hp;cases hp;rfl
   obtain⟨g,cap',oa,Ka,La,Ra,R⟩:=E _ D k p hp;injection oa with A _ ca;subst A ca;have B:=(f.zu p t).below D (f.zu p t).lt;have Oa:=(f.zu p t).lt;have O:=B.cell 1;have X:=fun W u=>J W u p t
   have sa:=eE (l:=l.take k) (fun q hq=>f.zm q (List.mem_of_mem_take hq)) t_ m.zb;have Qa:=f.zm p t;unfold Pw.cells zi at O B;simp only[s7]at O;have Ta:(k:Int)<n:=o_;have Pa:(0:Int)<=k:=o_;clear hp E J;unfold zi at R;have I:Hid (∀(W:World) (c b:Int),Bw w W->zg W w.heap.size 35 #[vI 0,vI 0]->zg W (w.heap.size+1) 35 #[vI c,vI b]->c=yf (pun (l.take (k+1)) m.zb)->b=yg (pun (l.take (k+1)) m.zb)->(∃d:Nat,d<=n/\vI ((k:Int)+1)=vI d/\Bw w W/\zg W w.heap.size 35 #[vI 0,vI 0]/\zg W (w.heap.size+1) 35 #[vI (yf (pun (l.take d) m.zb)),vI (yg (pun (l.take d) m.zb))])/\n-(intOf (vI ((k:Int)+1))).toNat<n-(intOf (vI (k:Int))).toNat) :=
    fun W c b K L h3 ka la=>⟨⟨k+1,o_,by go_num,K,L,by rw[<-ka,<- la];exact h3⟩,by simp[intOf];omega⟩
   have r:Hid (pun (l.take (k+1)) m.zb=pun (l.take k) m.zb++(if m.zb.isPrefixOf p.x.zb then [p.x] else [])):=by
    show _=_
    rw[ba.out,j1]
   obtain⟨c,M⟩:∃c,c=yf (pun (l.take k) m.zb):=⟨_,rfl⟩;obtain⟨b,A⟩:∃b,b=yg (pun (l.take k) m.zb):=⟨_,rfl⟩;rw[<-M,<- A]at j sa;have Z:Hid (c=yf (pun (l.take k) m.zb)):=M;have Y:Hid (b=yg (pun (l.take k) m.zb)):=A;clear M A
   go_wp2_with fail
   refine(X _ D).mono ?_
   rintro e Ea ⟨rfl,C⟩
   have da:Bw w Ea:=s5 D C;have Da:=h.below C h.lt;have o:=j.below C j.lt;have F:=B.below C B.lt;clear X h j B R O
   cases s:m.zb.isPrefixOf p.x.zb
   ·go_wp2_with fail
    refine I.out _ c b da Da o ?_ ?_
    ·rw[r.out,s,Z.out];simp
    ·rw[r.out,s,Y.out];simp
   ·have Ha:=o.cell 0;have Ia:=o.cell 1;have Fa:=F.cell 2;have Ga:=F.cell 3;have Ua:=o.frozen 0;have Va:=o.frozen 1;simp only[s7]at Ha Ia Fa Ga;have ra:=fun W=>Z_ c b p.x.d0 p.x.d1 W o_ o_ o_ o_ o_ o_ o_ o_
    have ta:Hid (∀W:World,Bw w W->zg W w.heap.size 35 #[vI 0,vI 0]->zg W (w.heap.size+1) 35 #[vI (c+p.x.d0),vI (b+p.x.d1)]->(∃d:Nat,d<=n/\vI ((k:Int)+1)=vI d/\Bw w W/\zg W w.heap.size 35 #[vI 0,vI 0]/\zg W (w.heap.size+1) 35 #[vI (yf (pun (l.take d) m.zb)),vI (yg (pun (l.take d) m.zb))])/\n-(intOf (vI ((k:Int)+1))).toNat<n-(intOf (vI (k:Int))).toNat):=fun W K L h3=>I.out W _ _ K L h3 (by rw[r.out,s,Z.out];simp[yf]) (by rw[r.out,s,Y.out];simp[yg])
    clear I r s;have lb:=o.lt;have Sa:=F.lt
    go_upto_region 6 with fail
    go_region_with (go_at_call 139;refine(ra _).mono ?_;rintro e N ⟨rfl,H⟩;have ha:Bw w N:=s5 cl H;have Ca:zg N w.heap.size 35 #[vI 0,vI 0]:=zg.below s6 H g_;have z:zg N (w.heap.size+1) 35 #[vI c,vI b]:=zg.below s6 H g_;have ua:=z.cell 0;have Aa:=z.cell 1;have s0:=z.frozen 0;have Wa:=z.frozen 1;simp only[s7]at ua Aa)
    all_goals go_wp2_with fail
    all_goals refine ta.out _ ((ha.setCell s_ _).setCell s_ _) ((Ca.other _ _ s_).other _ _ s_) ?_
    all_goals have:=(z.set 0 (vI (c+p.x.d0))).set 1 (vI (b+p.x.d1))
    all_goals simpa using this
  ·have d0:=j.cell 0;have d1:=j.cell 1;have c0:=h.cell 0;have c1:=h.cell 1;have Ma:=h.frozen 0;have Na:=h.frozen 1;simp only[s7]at d0 d1 c0 c1
   go_wp2
   have aa:l.take k=l:=Vl (by rw[<-Q.out];omega);have Ba:=(h.set 0 (vI (yf (pun (l.take k) m.zb)))).set 1 (vI (yg (pun (l.take k) m.zb)));have V:=Ba.cell;rw[aa]at V
   refine Us (v:=.agg #[vI (yf (pun l m.zb)),vI (yg (pun l m.zb))]) ?_ rfl ⟨rfl,cl⟩
   rw[aa]
   simp[results,results106,go_sem,V]
def xe (a c:Int):Int:=max 0 (a-c)
theorem s9(a b c d:Int)(w:World)(f:0<=a)(g:a<=100000)(h3:0<=b)(h:b<=100000)(i:0<=c)(j:c<=100000)(k:0<=d)(l:d<=100000):
  Calls prog 189 #[.agg #[vI a,vI b],.agg #[vI c,vI d]] w fun e w'=>e=vR (.agg #[vI (xe a c),vI (xe b d)])/\Bw w w':=by
 go_enter func189,ntmps189
 go_wp2
 refine wp_loop_rounds 3 ?_
 rw[rounds_succ];go_wp2
 go_region
 all_goals go_wp2
 all_goals rw[rounds_succ]
 all_goals go_wp2
 all_goals go_region
 all_goals go_wp2
 all_goals rw[rounds_succ]
 all_goals go_wp2
 all_goals refine Us (v:=.agg #[vI (xe a c),vI (xe b d)]) ?_ rfl ⟨rfl,Vy⟩
 all_goals simp[results,results189,go_sem]
 all_goals (unfold xe;omega)
def xt (za:List zc)(k:List Bs):Int:=xw (under za k)
def xr (za:List zc)(k:List Bs):Int:=xv (under za k)
theorem YT{za:List zc}(T:zr za)(k:List Bs):(0<=xt za k/\xt za k<=20000)/\(0<=xr za k/\xr za k<=20000):=by
 have b:∀n∈under za k,n∈za:=fun n a=>(Vu.1 a).1
 have c:(under za k).length<=20:=Nat.le_trans (Wt _ _) T.len;have s0:=jS (under za k) (fun n a=>(T.zm n (b n a)).1);have d:=jT (under za k) (fun n a=>(T.zm n (b n a)).2.1);unfold xt xr
 omega
theorem Zo{za:List zc}(T:zr za){n:zc}(a:n∈za)(w:World)(b:∀n∈za,UA w n):
  Calls prog 85 #[zi n.ze] w fun e w'=>e=vR (.agg #[vI (xt za n.zb),vI (xr za n.zb)])/\Bw w w':=by
 obtain⟨ch,K⟩:=T.ch;have h:=nV T K a (h_ (an T K a)) w b;rw[kh T K a,ki T K a]at h
 exact h
theorem g8{za:List zc}(T:zr za){n:zc}(b:n∈za)(w:World)(c:∀n∈za,UA w n):
  Calls prog 190 #[zi n.ze] w fun e w'=>e=vR (.agg #[vI (xt za n.zb+n.b0),vI (xr za n.zb+n.b1)])/\Bw w w':=by
 have m:=fun W (a:Bw w W)=>Zo T b W (fun k u=>(c k u).below a)
 have H:=YT T n.zb;have E:=(T.zm n b).2.2.1;have A:=(T.zm n b).2.2.2.1;have x:=fun W=>Z_ (xt za n.zb) (xr za n.zb) n.b0 n.b1 W o_ o_ o_ o_ o_ o_ o_ o_
 have d:=fun W (a:Bw w W)=>(c n b).below a
 have g:∀W,Bw w W->W.cell? (vA n.ze 4)=some (vI n.b0)/\W.cell? (vA n.ze 5)=some (vI n.b1):=fun W a=>⟨(d W a).cell rfl,(d W a).cell rfl⟩
 have C:=(c n b).lt;generalize xt za n.zb=j at *;generalize xr za n.zb=l at *;have b0:zg (w.alloc (.cells #[vI 0,vI 0] 35)) w.heap.size 35 #[vI 0,vI 0]:=zg.new w 35 _;have f:Bw w (w.alloc (.cells #[vI 0,vI 0] 35)):=cl;obtain⟨s,t⟩:=g _ f;unfold zi at m ⊢
 go_enter func190,ntmps190
 go_upto_region 1 with fail
 generalize (w.alloc (.cells #[vI 0,vI 0] 35))=B at b0 f s t ⊢;have lb:=b0.lt
 go_region_with (first
  |(go_at_call 139;refine(x _).mono ?_;rintro e p ⟨rfl,i⟩;have D:Bw w p:=s5 cl i;have b2:zg p w.heap.size 35 #[vI 0,vI 0]:=zg.below s6 i b1.lt;have y:=b2.cell 0;have z:=b2.cell 1;have q2:=b2.frozen 0;have I:=b2.frozen 1;simp only[s7]at y z)
  |(go_at_call 85;refine(m _ ?_).mono ?_;(focus exact cl);rintro e o ⟨rfl,h⟩;have r:Bw w o:=s5 cl h;have b1:zg o w.heap.size 35 #[vI 0,vI 0]:=zg.below s6 h g_;obtain⟨F,G⟩:=g _ r))
 all_goals go_wp2_with fail
 all_goals have b3:=(b2.set 0 (vI (j+n.b0))).set 1 (vI (l+n.b1))
 all_goals have q:=b3.cell
 all_goals refine Us (v:=.agg #[vI (j+n.b0),vI (l+n.b1)]) (by simp[results,results190,go_sem,q]) rfl ⟨rfl,cl⟩
structure Rd (W:World) (za:List zc) (bt rr:Nat) (va:Value) (l:List Pw):Prop where
 yj:∀n∈za,UA W n
 bk:W.cell? (vA rr 1)=some (.pointer (some (vA bt 1)))
 ad:W.cell? (vA bt 3)=some va
 ps:XF W za va l
theorem Rd.below{za:List zc}(h:Rd W za bt rr va l)(hb:Bw W W'):Rd W' za bt rr va l :=
 ⟨fun n a=>(h.yj n a).below hb,(hb.cell (p:=vA rr 1) (VE _ _ h.bk)).trans h.bk,(hb.cell (p:=vA bt 3) (VE _ _ h.ad)).trans h.ad,h.ps.below hb⟩
theorem Rd.cF{za:List zc}(h:Rd W za bt rr va l)(T:zr za)(a:U_ za){m:zc}(b:m∈za):
  Calls prog 106 #[.pointer (some (vA bt 1)),zi m.ze] W fun e w'=>e=vR (.agg #[vI (yf (pun l m.zb)),vI (yg (pun l m.zb))])/\Bw W w' :=
 c_ T a W h.yj bt h.ad h.ps b
theorem Rd.ubd{za:List zc}(h:Rd W za bt rr va l)(k:List Bs):(0<=yf (pun l k)/\yf (pun l k)<=24000)/\(0<=yg (pun l k)/\yg (pun l k)<=24000):=eE h.ps.zm h.ps.len k
theorem XC{x y:Value}(h:zg W b 35 #[x,y])(p q:Value):zg ((W.setCell (vA b 0) p).setCell (vA b 1) q) b 35 #[p,q]:=by
 have:=(h.set 0 p).set 1 q
 simpa using this
theorem ZC{t:TypeId}(h:zg W c t vs)(a:c≠b)(p q:Value):zg ((W.setCell (vA b 0) p).setCell (vA b 1) q) c t vs:=(h.other _ _ a).other _ _ a
theorem Xr(h:Below B w W)(hb:B<=b)(p q:Value):Below B w ((W.setCell (vA b 0) p).setCell (vA b 1) q):=(h.setCell hb _).setCell hb _
theorem hE{za:List zc}(T:zr za)(ba:U_ za)(h:Rd w za bt rr va l){m:zc}(A:m∈za)(a b:Int)(La:0<=a/\a<=1000)(hb:0<=b/\b<=1000):
  Calls prog 216 #[vP rr,zi m.ze,.agg #[vI a,vI b]] w fun e w'=>e=vR (.agg #[vI (xe (yf (pun l m.zb)+a) (xt za m.zb+m.b0)),vI (xe (yg (pun l m.zb)+b) (xr za m.zb+m.b1))])/\Bw w w':=by
 have H:=fun W (t:Bw w W)=>(h.below t).cF T ba A
 have N:=fun W (t:Bw w W)=>g8 T A W (h.below t).yj
 have ka:rr<w.heap.size:=VE _ _ h.bk;have y:=fun W (t:Bw w W)=>(h.below t).bk
 have ubd:=h.ubd m.zb;have na:=YT T m.zb;have Ia:=(T.zm m A).2.2.1;have oa:=(T.zm m A).2.2.2.1;generalize yf (pun l m.zb)=o at *;generalize yg (pun l m.zb)=p at *;generalize xt za m.zb=n0 at *;generalize xr za m.zb=n1 at *;have M:=fun W=>Z_ o p a b W o_ o_ o_ o_ o_ o_ o_ o_
 have aa:=fun W=>s9 (o+a) (p+b) (n0+m.b0) (n1+m.b1) W o_ o_ o_ o_ o_ o_ o_ o_
 have r:zg ((w.alloc (.cells #[vI a,vI b] 35)).alloc (.cells #[vI 0,vI 0] 35)) w.heap.size 35 #[vI a,vI b]:=s6;have E:zg ((w.alloc (.cells #[vI a,vI b] 35)).alloc (.cells #[vI 0,vI 0] 35)) (w.heap.size+1) 35 #[vI 0,vI 0]:=zg.new' s_;have x:Bw w ((w.alloc (.cells #[vI a,vI b] 35)).alloc (.cells #[vI 0,vI 0] 35)):=cl;unfold zi at H N ⊢
 go_enter func216,ntmps216
 go_upto_region 1 with fail
 generalize ((w.alloc (.cells #[vI a,vI b] 35)).alloc (.cells #[vI 0,vI 0] 35))=n at r E x ⊢;have Ka:=x.size;have ea:=y _ x;have B:=r.cell 0;have C:=r.cell 1;have Oa:=r.lt;have Pa:=E.lt;simp only[s7]at B C;have U:¬(w.heap.size=n.heap.size):=o_;have Q:¬(rr=n.heap.size):=o_;have V:¬(n.heap.size=w.heap.size):=o_;have R:¬(n.heap.size=rr):=o_
 go_cut [7] from 8 (fun q J=>∃s,q=vP s/\Bw w J/\zg J (w.heap.size+1) 35 #[vI 0,vI 0]/\zg J s 35 #[vI (o+a),vI (p+b)]/\w.heap.size+1<s)
 case first =>
  go_region_held3 (fun w'=>w'.cell? (vA rr 1)=some (.pointer (some (vA bt 1)))/\w'.cell? (vA w.heap.size 0)=some (vI a)/\w'.cell? (vA w.heap.size 1)=some (vI b)) (go_keep)
   (first
   |(go_at_call 106;refine(H _ ?_).mono ?_;(focus exact cl);rintro e c ⟨rfl,i⟩;have D:Bw w c:=s5 cl i;have F:zg c w.heap.size 35 #[vI a,vI b]:=zg.below s6 i g_;have z:zg c (w.heap.size+1) 35 #[vI 0,vI 0]:=zg.below s6 i g_;have Ma:=y _ D;have K:=F.cell 0;have L:=F.cell 1;have ta:=F.lt;have O:=z.lt;have Ha:=D.size;have Fa:¬(w.heap.size=c.heap.size):=o_;have ra:¬(rr=c.heap.size):=o_;have Da:¬(c.heap.size=w.heap.size):=o_;have ua:¬(c.heap.size=rr):=o_;simp only[s7]at K L;(try (have u:zg c n.heap.size 35 #[vI 0,vI 0]:=zg.below (by first|(with_reducible exact zg.new' s_)|(with_reducible exact zg.drew (zg.new' s_))) i s_;have qa:=u.lt)))
   |(go_at_call 139;refine(M _).mono ?_;rintro e d ⟨rfl,j⟩;have k:Bw w d:=s5 cl j;have G:zg d w.heap.size 35 #[vI a,vI b]:=zg.below s6 j g_;have f:zg d (w.heap.size+1) 35 #[vI 0,vI 0]:=zg.below s6 j g_;have Na:=y _ k;have ia:=G.cell 0;have ja:=G.cell 1;have pa:=G.lt;have ma:=f.lt;have Y:=k.size;have Ga:¬(w.heap.size=d.heap.size):=o_;have sa:¬(rr=d.heap.size):=o_;have Ea:¬(d.heap.size=w.heap.size):=o_;have Aa:¬(d.heap.size=rr):=o_;simp only[s7]at ia ja;(try (have g:zg d n.heap.size 35 #[vI 0,vI 0]:=zg.below (by with_reducible exact u) j o_;have X:=g.cell;have Z:=g.frozen;have S:=g.lt));(try (have g:zg d c.heap.size 35 #[vI 0,vI 0]:=zg.below (by first|(with_reducible exact zg.new' s_)|(with_reducible exact zg.drew (zg.new' s_))) j s_;have X:=g.cell;have Z:=g.frozen;have S:=g.lt))))
  all_goals go_wp2_with fail
  ·go_meet
   exact⟨_,rfl,k.alloc Y _,f.alloc _,zg.new' rfl,o_⟩
  ·go_meet
   exact⟨_,rfl,Xr k o_ ..,ZC f o_ ..,XC g ..,o_⟩
  ·go_meet
   exact⟨_,rfl,Xr k o_ ..,ZC f o_ ..,XC g ..,o_⟩
 case rest =>
  obtain⟨s,rfl,Ja,da,I,la⟩:=hcut;clear r E x B C ea U Q V R H M y;have B:=I.cell 0;have C:=I.cell 1;have Ba:=da.lt;have Ca:=I.lt;simp only[s7]at B C
  go_upto_region 2 with fail
  go_region_with (first
   |(go_at_call 189;refine(aa _).mono ?_;rintro e d ⟨rfl,j⟩;have k:Bw w d:=s5 cl j;have f:zg d (w.heap.size+1) 35 #[vI 0,vI 0]:=zg.below s6 j (by first|exact z.lt|omega|(simp<;>omega));have ga:=f.cell 0;have ha:=f.cell 1;have q2:=f.frozen 0;have Qa:=f.frozen 1;simp only[s7]at ga ha)
   |(go_at_call 190;refine(N _ ?_).mono ?_;(focus exact cl);rintro e c ⟨rfl,i⟩;have D:Bw w c:=s5 cl i;have z:zg c (w.heap.size+1) 35 #[vI 0,vI 0]:=zg.below s6 i g_;have u:zg c s 35 #[vI (o+a),vI (p+b)]:=zg.below s6 i g_;have K:=u.cell 0;have L:=u.cell 1;have O:=z.lt;simp only[s7]at K L))
  all_goals go_wp2_with fail
  all_goals have ca:=XC f (vI (xe (o+a) (n0+m.b0))) (vI (xe (p+b) (n1+m.b1)))
  all_goals have P:=ca.cell
  all_goals exact Us (v:=.agg #[vI (xe (o+a) (n0+m.b0)),vI (xe (p+b) (n1+m.b1))]) (by simp[results,results216,go_sem,P]) rfl ⟨rfl,Xr k o_ ..⟩
structure vz (W:World) (za:List zc) (p:Pw):Prop where
 zl:zg W p.ze 105 p.cells
 zj:∃n∈za,n.ze=p.q/\n.zb=p.x.zb
 zm:(0<=p.x.d0/\p.x.d0<=1000)/\(0<=p.x.d1/\p.x.d1<=1000)
theorem vz.below{za:List zc}(h:vz W za p)(hb:Bw W W'):vz W' za p:=⟨h.zl.below hb h.zl.lt,h.zj,h.zm⟩
theorem XF.one{za:List zc}(h:XF W za v l)(hp:p∈l):vz W za p:=⟨h.zu p hp,h.zj p hp,h.zm p hp⟩
theorem vz.cells{za:List zc}(h:vz W za p):W.cell? (vA p.ze 0)=some (vI p.x.zm)/\W.cell? (vA p.ze 1)=some (vP p.q)/\W.cell? (vA p.ze 2)=some (vI p.x.d0)/\W.cell? (vA p.ze 3)=some (vI p.x.d1) :=
 ⟨h.zl.cell 0,h.zl.cell 1,h.zl.cell 2,h.zl.cell 3⟩
theorem gR{za:List zc}(T:zr za)(ga:U_ za)(h:Rd w za bt rr va l)(hp:vz w za p):
  Calls prog 207 #[vP rr,zi p.ze] w fun e w'=>e=vR (.agg #[vI (xe (yf (pun l p.x.zb)+p.x.d0) (xt za p.x.zb)),vI (xe (yg (pun l p.x.zb)+p.x.d1) (xr za p.x.zb))])/\Bw w w':=by
 obtain⟨m,H,N,L⟩:=hp.zj;have A:=fun W (o:Bw w W)=>(h.below o).cF T ga H
 have E:=fun W (o:Bw w W)=>Zo T H W (h.below o).yj
 have qa:rr<w.heap.size:=VE _ _ h.bk;have La:=hp.zl.lt;have C:=fun W (o:Bw w W)=>(h.below o).bk
 have F:=fun W (o:Bw w W)=>(hp.below o).cells.2
 have ubd:=h.ubd m.zb;have V:=YT T m.zb;have Wa:=hp.zm.1;have Pa:=hp.zm.2;rw[L]at A E ubd V;rw[N]at A E;generalize yf (pun l p.x.zb)=s at *;generalize yg (pun l p.x.zb)=t at *;generalize xt za p.x.zb=n0 at *;generalize xr za p.x.zb=n1 at *;generalize p.x.d0=a at *;generalize p.x.d1=b at *;generalize p.ze=i at *;generalize p.q=ka at *;have M:=fun W=>Z_ s t a b W o_ o_ o_ o_ o_ o_ o_ o_
 have ea:=fun W=>s9 (s+a) (t+b) n0 n1 W o_ o_ o_ o_ o_ o_ o_ o_
 have G:zg (w.alloc (.cells #[vI 0,vI 0] 35)) w.heap.size 35 #[vI 0,vI 0]:=zg.new' s_;have u:Bw w (w.alloc (.cells #[vI 0,vI 0] 35)):=cl;clear h hp H N L;unfold zi at A E ⊢
 go_enter func207,ntmps207
 go_upto_region 1 with fail
 generalize (w.alloc (.cells #[vI 0,vI 0] 35))=r at G u ⊢;have Ka:=u.size;have ja:=C _ u;obtain⟨K,P,pa⟩:=F _ u;have Oa:=G.lt;have S:¬(rr=r.heap.size):=o_;have U:¬(r.heap.size=rr):=o_;have Y:¬(i=r.heap.size):=o_;have Z:¬(r.heap.size=i):=o_
 go_cut [5] from 6 (fun q J=>∃y,q=vP y/\Bw w J/\zg J w.heap.size 35 #[vI 0,vI 0]/\zg J y 35 #[vI (s+a),vI (t+b)]/\w.heap.size<y)
 case first =>
  go_region_held3 (fun w'=>w'.cell? (vA rr 1)=some (.pointer (some (vA bt 1)))/\w'.cell? (vA i 1)=some (vP ka)/\w'.cell? (vA i 2)=some (vI a)/\w'.cell? (vA i 3)=some (vI b)) (go_keep)
   (first
   |(go_at_call 106;refine(A _ ?_).mono ?_;(focus exact cl);rintro e c ⟨rfl,k⟩;have B:Bw w c:=s5 cl k;have D:zg c w.heap.size 35 #[vI 0,vI 0]:=zg.below s6 k g_;have Ma:=C _ B;obtain⟨O,Ua,Va⟩:=F _ B;have Q:=D.lt;have Ja:=B.size;have Aa:¬(rr=c.heap.size):=o_;have Ca:¬(c.heap.size=rr):=o_;have ta:¬(i=c.heap.size):=o_;have Ha:¬(c.heap.size=i):=o_;(try (have z:zg c r.heap.size 35 #[vI 0,vI 0]:=zg.below (by first|(with_reducible exact zg.new' s_)|(with_reducible exact zg.drew (zg.new' s_))) k s_;have ua:=z.lt)))
   |(go_at_call 139;refine(M _).mono ?_;rintro e d ⟨rfl,n⟩;have j:Bw w d:=s5 cl n;have f:zg d w.heap.size 35 #[vI 0,vI 0]:=zg.below s6 n g_;have Na:=C _ j;obtain⟨Ra,Sa,Ta⟩:=F _ j;have sa:=f.lt;have ba:=j.size;have Ba:¬(rr=d.heap.size):=o_;have Da:¬(d.heap.size=rr):=o_;have Ea:¬(i=d.heap.size):=o_;have Ia:¬(d.heap.size=i):=o_;(try (have g:zg d r.heap.size 35 #[vI 0,vI 0]:=zg.below (by with_reducible exact z) n o_;have aa:=g.cell;have da:=g.frozen;have X:=g.lt));(try (have g:zg d c.heap.size 35 #[vI 0,vI 0]:=zg.below (by first|(with_reducible exact zg.new' s_)|(with_reducible exact zg.drew (zg.new' s_))) n s_;have aa:=g.cell;have da:=g.frozen;have X:=g.lt))))
  all_goals go_wp2_with fail
  ·go_meet
   exact⟨_,rfl,j.alloc ba _,f.alloc _,zg.new' rfl,o_⟩
  ·go_meet
   exact⟨_,rfl,Xr j o_ ..,ZC f o_ ..,XC g ..,o_⟩
  ·go_meet
   exact⟨_,rfl,Xr j o_ ..,ZC f o_ ..,XC g ..,o_⟩
 case rest =>
  obtain⟨y,rfl,ca,ia,I,ra⟩:=hcut;clear G u K P pa ja S U Y Z A M C;have oa:=I.cell 0;have K:=I.cell 1;have Fa:=ia.lt;have Ga:=I.lt;obtain⟨P,_,_⟩:=F _ ca;simp only[s7]at oa K
  go_upto_region 2 with fail
  go_region_with (first
   |(go_at_call 189;refine(ea _).mono ?_;rintro e d ⟨rfl,n⟩;have j:Bw w d:=s5 cl n;have f:zg d w.heap.size 35 #[vI 0,vI 0]:=zg.below s6 n (by first|exact D.lt|omega|(simp<;>omega));have la:=f.cell 0;have ma:=f.cell 1;have q2:=f.frozen 0;have Qa:=f.frozen 1;simp only[s7]at la ma)
   |(go_at_call 85;refine(E _ ?_).mono ?_;(focus exact cl);rintro e c ⟨rfl,k⟩;have B:Bw w c:=s5 cl k;have D:zg c w.heap.size 35 #[vI 0,vI 0]:=zg.below s6 k g_;have z:zg c y 35 #[vI (s+a),vI (t+b)]:=zg.below s6 k g_;have na:=z.cell 0;have O:=z.cell 1;have Q:=D.lt;simp only[s7]at na O))
  all_goals go_wp2_with fail
  all_goals have ha:=XC f (vI (xe (s+a) n0)) (vI (xe (t+b) n1))
  all_goals have R:=ha.cell
  all_goals exact Us (v:=.agg #[vI (xe (s+a) n0),vI (xe (t+b) n1)]) (by simp[results,results207,go_sem,R]) rfl ⟨rfl,Xr j o_ ..⟩
end
section
variable {i j:Nat}
def vh {α : Type}(c:List α)(i j:Nat)(a b : α):List α := (c.set i b).set j a
theorem b5{α : Type}(c:List α)(i j:Nat)(a b : α):(vh c i j a b).length=c.length:=by simp[vh]
theorem jW{α : Type}{c:List α}{a b : α}(k:c[i]?=some a)(l:c[j]?=some b)(m:Nat):(vh c i j a b)[m]?=if m=j then some a else if m=i then some b else c[m]?:=by
 have g:=(Uy.1 k).1;have h:=(Uy.1 l).1;unfold vh;rw[List.getElem?_set,List.length_set,List.getElem?_set]
 by_cases d:m=j
 ·subst d;simp[h]
 ·rw[if_neg (fun e=>d e.symm),if_neg d]
  by_cases f:m=i
  ·subst f;simp[g]
  ·rw[if_neg (fun e=>f e.symm),if_neg f]
theorem set_perm{α : Type}{l:List α}{a : α}(c:l[i]?=some a)(b : α):(b::l).Perm (a::l.set i b):=by
 induction l generalizing i with
 |nil=>simp at c
 |cons x l e =>
  cases i with
  |zero=>simp at c;subst c;simp;exact List.Perm.swap ..
  |succ i =>
   simp at c
   have d:=e c;simp only[UD]
   exact((List.Perm.swap x b l).trans (d.cons x)).trans (List.Perm.swap a x _)
theorem bP{α : Type}{c:List α}{a b : α}(k:i≠j)(g:c[i]?=some a)(h:c[j]?=some b):(vh c i j a b).Perm c:=by
 unfold vh;have e:=set_perm g b;have d:(c.set i b)[j]?=some b:=by rw[List.getElem?_set,if_neg k];exact h
 have f:=set_perm d a
 exact(List.perm_cons b).1 (f.symm.trans e.symm)
structure Ord {α : Type} (lt : α -> α -> Bool):Prop where
 asymm:∀a b,lt a b=true->lt b a=false
 trans:∀a b c,lt a b=false->lt b c=false->lt a c=false
def Vt {α : Type}(lt : α -> α -> Bool)(c:List α):Prop:=∀(j:Nat) (a b : α),0<j->c[j]?=some a->c[(j-1) / 2]?=some b->lt a b=false
structure Xq {α : Type} (lt : α -> α -> Bool) (ys:List α) (k:Nat):Prop where
 one:∀(j:Nat) (a b : α),0<j->j≠k->ys[j]?=some a->ys[(j-1) / 2]?=some b->lt a b=false
 two:∀(j:Nat) (a b : α),0<j->(j-1) / 2=k->0<k->ys[j]?=some a->ys[(k-1) / 2]?=some b->lt a b=false
structure WH {α : Type} (lt : α -> α -> Bool) (ys:List α) (k:Nat):Prop where
 one:∀(j:Nat) (a b : α),0<j->(j-1) / 2≠k->ys[j]?=some a->ys[(j-1) / 2]?=some b->lt a b=false
 two:∀(j:Nat) (a b : α),0<j->(j-1) / 2=k->0<k->ys[j]?=some a->ys[(k-1) / 2]?=some b->lt a b=false
theorem Xq.zero{α : Type}{lt : α -> α -> Bool}{c:List α}(h:Xq lt c 0):Vt lt c:=fun j a b d=>h.one j a b d o_
theorem Xq.stop{α : Type}{lt : α -> α -> Bool}{c:List α}{k:Nat}(h:Xq lt c k){a b : α}(g:c[k]?=some a)(hb:c[(k-1) / 2]?=some b)(l:lt a b=false):Vt lt c:=by
 intro j x y i d f
 by_cases e:j=k
 ·subst e;rw[g]at d;rw[hb]at f;cases d;cases f;exact l
 ·exact h.one j x y i e d f
theorem Xq.step{α : Type}{lt : α -> α -> Bool}(O:Ord lt){g:List α}{k:Nat}(s:0<k)(h:Xq lt g k){a b : α}(r:g[k]?=some a)(hb:g[(k-1) / 2]?=some b)(t:lt a b=true):Xq lt (vh g k ((k-1) / 2) a b) ((k-1) / 2):=by
 have G:=jW r hb;obtain⟨p,hp⟩:∃p,p=(k-1) / 2:=⟨_,rfl⟩;rw[<-hp]at hb G ⊢;have u:p<k:=o_;have n:=O.asymm a b t
 refine⟨fun j x y f q c d=>?_,fun j x y f hq o c d=>?_⟩
 ·rw[G]at c d;rw[if_neg q]at c
  by_cases e:j=k
  ·subst e;rw[if_pos rfl]at c;rw[if_pos o_]at d
   cases c;cases d;exact n
  ·rw[if_neg e]at c
   by_cases i:(j-1) / 2=p
   ·rw[if_pos i]at d;cases d
    exact O.trans x b a (h.one j x b f e c (by rw[i];exact hb)) n
   ·rw[if_neg i]at d
    by_cases l:(j-1) / 2=k
    ·rw[if_pos l]at d;cases d
     exact h.two j x b f l s c (by rw[<-hp];exact hb)
    ·rw[if_neg l]at d
     exact h.one j x y f e c d
 ·rw[G]at c d;rw[if_neg o_,if_neg o_]at d;rw[if_neg o_]at c;have m:lt b y=false:=h.one p b y o o_ hb d
  by_cases e:j=k
  ·rw[if_pos e]at c;cases c;exact m
  ·rw[if_neg e]at c
   exact O.trans x b y (h.one j x b f e c (by rw[hq];exact hb)) m
theorem WH.stop{α : Type}{lt : α -> α -> Bool}{c:List α}{k:Nat}(h:WH lt c k){a : α}(l:c[k]?=some a)(g:∀b,c[2*k+1]?=some b->lt b a=false)(i:∀b,c[2*k+2]?=some b->lt b a=false):Vt lt c:=by
 intro j x y m d f
 by_cases e:(j-1) / 2=k
 ·rw[e,l]at f;cases f
  rcases(by omega:j=2*k+1\/j=2*k+2) with rfl|rfl
  ·exact g x d
  ·exact i x d
 ·exact h.one j x y m e d f
theorem WH.step{α : Type}{lt : α -> α -> Bool}(O:Ord lt){i:List α}{k f:Nat}(t:f=2*k+1\/f=2*k+2)(h:WH lt i k){a b : α}(p:i[k]?=some a)(hb:i[f]?=some b)(r:lt b a=true)(q:∀c x,(c=2*k+1\/c=2*k+2)->i[c]?=some x->c≠f->lt x b=false):WH lt (vh i k f a b) f:=by
 have G:=jW p hb;have o:=O.asymm b a r
 refine⟨fun j x y n hq g d=>?_,fun j x y n hq s g d=>?_⟩
 ·rw[G]at g d;rw[if_neg hq]at d
  by_cases e:j=f
  ·rw[if_pos e]at g;rw[if_pos o_]at d
   cases g;cases d;exact o
  ·rw[if_neg e]at g
   by_cases l:j=k
   ·rw[if_pos l]at g;cases g;rw[if_neg o_]at d
    exact h.two f b y o_ o_ o_ hb (by rw[<-l];exact d)
   ·rw[if_neg l]at g
    by_cases m:(j-1) / 2=k
    ·rw[if_pos m]at d;cases d
     exact q j x o_ g e
    ·rw[if_neg m]at d
     exact h.one j x y n m g d
 ·rw[G]at g d;rw[if_neg o_,if_neg o_]at g;rw[if_neg o_,if_pos o_]at d
  cases d
  exact h.one j x b n o_ g (by rw[hq];exact hb)
theorem Vt.min{α : Type}{lt : α -> α -> Bool}(O:Ord lt){d:List α}(h:Vt lt d){m : α}(g:d[0]?=some m)(f:lt m m=false):∀(j:Nat) (a : α),d[j]?=some a->lt a m=false:=by
 intro j
 induction j using Nat.strongRecOn with
 |_ j i =>
  intro a c
  by_cases e:j=0
  ·subst e;rw[g]at c;cases c;exact f
  ·have k:=(Uy.1 c).1;obtain⟨b,hb⟩:∃b,d[(j-1) / 2]?=some b:=⟨_,Ur o_⟩
   exact O.trans a b m (h j a b o_ c hb) (i _ o_ b hb)
theorem Vt.push{α : Type}{lt : α -> α -> Bool}{e:List α}(h:Vt lt e)(x : α):Xq lt (e++[x]) e.length:=by
 refine⟨fun j a b f i c hb=>?_,fun j a b f hq g c hb=>?_⟩
 ·have d:=(Uy.1 c).1
  simp at d
  rw[Wu o_]at c hb
  exact h j a b f c hb
 ·have d:=(Uy.1 c).1
  simp at d
  omega
theorem Vt.pop{α : Type}{lt : α -> α -> Bool}{c:List α}(h:Vt lt c)(b : α):WH lt ((c.set 0 b).take (c.length-1)) 0:=by
 refine⟨fun j x y d hq a e=>?_,fun j x y d hq g=>by omega⟩
 have f:=(Uy.1 a).1
 simp at f
 rw[List.getElem?_take_of_lt o_,List.getElem?_set,if_neg o_]at a e
 exact h j x y d a e
theorem jq{α : Type}{c:List α}{a b : α}(d:c[0]?=some a)(hb:c[c.length-1]?=some b):(a::(c.set 0 b).take (c.length-1)).Perm c:=by
 cases c with
 |nil=>simp at d
 |cons x l =>
  simp at d;subst d
  rcases List.eq_nil_or_concat l with rfl|⟨l',z,rfl⟩
  ·simp
  ·have e:b=z:=by simp at hb;exact hb.symm
   subst e;simp only[UE,List.length_cons,List.concat_eq_append,List.length_append,List.length_nil];rw[show l'.length+1+1-1=l'.length+1 by omega,List.take_succ_cons,List.take_left']
   ·exact(List.perm_append_singleton b l').symm.cons x
   ·rfl
end
section
open Go.RowKit
variable {W W' w w':World}{b o cap hb i i0 j n size:Nat}{f v:Value}{p:Pw}{T T':Nat->Prop}{l d:List Pw}{e t':TypeId}{xs:List Value}{vs:Array Value}
structure yy (W:World) (hb:Nat) (f v:Value) (ys:List Pw):Prop where
 zl:zg W hb 247 #[f,v]
 row:W.ownsRow 0 95 1 v ys.length (UN ys)
 ne:v.ownBlock≠some hb
theorem yy.get{a:List Pw}(h:yy W hb f v a)(b:a[i]?=some p):∃g cap,v=vS g a.length cap/\g<W.heap.size/\g≠hb/\a.length<=cap/\cap<=maxLen/\W.cell? (vA g i)=some (zi p.ze)/\W.frozen? (vA g i)=false:=by
 obtain⟨g,cap,rfl,c,d⟩:=VX h.row (Nat.lt_of_le_of_lt (Nat.zero_le _) (Uy.1 b).1)
 have:=h.row.cells (g:=g) rfl i (zi p.ze) (by unfold UN;rw[VB,b];rfl)
 rw[Addr.add_lit,Nat.zero_add]at this
 exact⟨g,cap,rfl,UI h.row rfl,fun e=>h.ne (by simp[Value.ownBlock,e]),c,d,this,h.row.frozenAt _⟩
theorem yy.drew{a:List Pw}(h:yy W hb f v a):yy W.drew hb f v a:=⟨h.zl.drew,h.row.drew,h.ne⟩
theorem jU{c:List Pw}(h:yy w hb f v c)(C:c.length<=100){a b:Pw}(k:c[i]?=some a)(l:c[j]?=some b)(F:i≠j):
  Calls prog 229 #[vP hb,vI i,vI j] w fun e w'=>e=vT #[]/\yy w' hb f v (vh c i j a b)/\zd (fun y=>v.ownBlock=some y) w w':=by
 obtain⟨g,cap,m,L,D,z,R,u,M⟩:=h.get k;obtain⟨g',cap',q,_,_,_,_,x,N⟩:=h.get l;rw[m]at q;injection q with d _ A;injection d with d;injection d with d;subst d A;have B:=(Uy.1 k).1;have E:=(Uy.1 l).1;have c1:=h.zl.cell 1;have K:=h.zl.lt;simp only[s7]at c1;rw[m]at c1;obtain⟨n,s⟩:∃n,n=c.length:=⟨_,rfl⟩;rw[<-s]at c1 B E z C;have O:(i:Int)<n:=o_;have P:(0:Int)<=i:=o_;have h3:(j:Int)<n:=o_;have Q:(0:Int)<=j:=o_;have J:¬(j=i):=fun e=>F e.symm
 have r:¬(hb=g):=fun e=>D e.symm
 have o:yy ((w.setCell (vA g i) (zi b.ze)).setCell (vA g j) (zi a.ze)) hb f v (vh c i j a b)/\zd (fun y=>v.ownBlock=some y) w ((w.setCell (vA g i) (zi b.ze)).setCell (vA g j) (zi a.ze)):=by
  subst m
  refine⟨⟨(h.zl.other _ _ r).other _ _ r,?_,h.ne⟩,?_⟩
  ·have I:=((h.row.stored i (zi b.ze)).1.stored j (zi a.ze)).1;rw[b5]
   have:UN (vh c i j a b)=((UN c).set i (zi b.ze)).set j (zi a.ze):=by simp[UN,vh,List.map_set]
   rw[this]
   exact I
  ·exact((zd.refl _ _).setCell (p:=vA g i) (by simp[Value.ownBlock]) _).setCell (p:=vA g j) (by simp[Value.ownBlock]) _
 have t:Hid (yy ((w.setCell (vA g i) (zi b.ze)).setCell (vA g j) (zi a.ze)) hb f v (vh c i j a b)/\zd (fun y=>v.ownBlock=some y) w ((w.setCell (vA g i) (zi b.ze)).setCell (vA g j) (zi a.ze))):=o;clear o h k l s;unfold zi at u x
 go_enter func229,ntmps229
 go_wp2_with fail
 go_region
 all_goals go_wp2_with fail
 go_end0
 obtain⟨G,H⟩:=t.out
 exact⟨rfl,G.drew,H.drew⟩
theorem yy.below{b:List Pw}(h:yy W hb f v b)(a:Bw W W'):yy W' hb f v b :=
 ⟨h.zl.below a h.zl.lt,s8 (T:=fun _=>False) h.row (zd.new a) (fun _ _ e=>e),h.ne⟩
theorem pE{c:List Pw}(h:yy w hb (.func (.func 168) #[] #[]) v c)(J:c.length<=100){a:Pw}(l:c[i]?=some a)(Z:j<=1000)(lt:Pw->Pw->Bool)
  (o:∀W,Bw w W->∀b,c[j]?=some b->Calls prog 168 #[zi b.ze,zi a.ze] W fun e w'=>e=vR (.bool (lt b a))/\Bw W w') :
  Calls prog 228 #[vP hb,vI i,vI j] w fun e w'=>e=vR (vI (match c[j]? with|some b=>if lt b a then(j:Int) else(i:Int)|none=>(i:Int)))/\Bw w w':=by
 obtain⟨g,cap,m,A,S,F,T,y,N⟩:=h.get l;have H:=(Uy.1 l).1;have c0:=h.zl.cell 0;have c1:=h.zl.cell 1;have x:=h.zl.lt;simp only[s7]at c0 c1;rw[m]at c1;obtain⟨n,r⟩:∃n,n=c.length:=⟨_,rfl⟩;rw[<-r]at c1 H F J;have P:(i:Int)<n:=o_;have Q:(0:Int)<=i:=o_;have R:(0:Int)<=j:=o_;have u:Hid (n=c.length):=r;clear r
 cases d:c[j]? with
 |none =>
  have D:decide (j<n)=false:=decide_eq_false (by have:=List.getElem?_eq_none_iff.1 d;have:=u.out;omega);clear o h d l m
  simp only
  go_enter func228,ntmps228
  go_wp2_with fail
  go_quiet (fail)
  go_wp2_with fail
  go_ret
  exact⟨rfl,UT (Below.refl _ _) _⟩
 |some b =>
  obtain⟨g',cap',C,_,_,_,_,z,O⟩:=h.get d;rw[m]at C;injection C with k _ G;injection k with k;injection k with k;subst k G;have K:(j:Int)<n:=by have:=(Uy.1 d).1;have:=u.out;omega
  have D:decide ((j:Int)<n)=true:=decide_eq_true K;have s:=fun W I=>o W I b d
  unfold zi at y z s;clear o h l d m
  simp only
  generalize lt b a=t at s ⊢
  go_enter func228,ntmps228
  go_upto_region 1 with fail
  go_cut [34] from 7 (fun q M=>q=.bool t/\Bw w M)
  case first =>
   go_region_held3 (fun w'=>w'.cell? (vA hb 0)=some (.func (.func 168) #[] #[])/\w'.cell? (vA hb 1)=some (vS g n cap)/\w'.cell? (vA g i)=some (vP a.ze)/\w'.cell? (vA g j)=some (vP b.ze)) (go_keep)
    (first
    |(go_at_call 168;refine(s _ ?_).mono ?_;(focus exact cl);rintro e L ⟨rfl,E⟩;have f:Bw w L:=s5 cl E;have U:=(f.cell (p:=vA hb 0) x).trans c0;have V:=(f.cell (p:=vA hb 1) x).trans c1;have X:=(f.cell (p:=vA g i) A).trans y;have Y:=(f.cell (p:=vA g j) A).trans z))
   all_goals go_wp2_with fail
   go_meet
   exact⟨rfl,f⟩
  case rest =>
   obtain⟨rfl,B⟩:=hcut
   cases t
   ·go_wp2_with fail
    go_ret
    exact⟨rfl,B⟩
   ·go_wp2_with fail
    go_ret
    exact⟨rfl,B⟩
theorem quo2(k:Nat)(a:0<k):((k:Int)-1).tdiv 2=((k-1) / 2:Nat):=by
 obtain⟨m,rfl⟩:∃m,k=m+1:=⟨k-1,o_⟩;simp only[Nat.add_sub_cancel];rw[show((m+1:Nat):Int)-1=(m:Int) by omega]
 rfl
def um (w:World)(T:Nat->Prop)(c:List Pw)(lt:Pw->Pw->Bool):Prop :=
 ∀W,zd T w W->∀a∈c,∀b∈c,Calls prog 168 #[zi a.ze,zi b.ze] W fun e w'=>e=vR (.bool (lt a b))/\Bw W w'
theorem k5{i:List Pw}{lt:Pw->Pw->Bool}(O:Ord lt)(h:yy w hb (.func (.func 168) #[] #[]) v i)(la:i.length<=100){k:Nat}(Q:k<i.length)(f:Xq lt i k)(N:um w (fun y=>v.ownBlock=some y) i lt):
  Calls prog 227 #[vP hb,vI k] w fun e w'=>e=vT #[]/\∃d,d.Perm i/\Vt lt d/\yy w' hb (.func (.func 168) #[] #[]) v d/\zd (fun y=>v.ownBlock=some y) w w':=by
 have Da:=h.zl.lt;obtain⟨T,H⟩:∃T:Nat->Prop,T=fun y=>v.ownBlock=some y:=⟨_,rfl⟩
 rw[<-H]at N ⊢;have ba:Hid (T=fun y=>v.ownBlock=some y):=H;clear H
 go_enter func227,ntmps227
 go_wp2_with fail
 go_loopg [1] k (fun q pa wr=>∃(j:Nat) (d:List Pw),pa=vI j/\j<=q/\j<d.length/\d.Perm i/\Xq lt d j/\yy wr hb (.func (.func 168) #[] #[]) v d/\zd T w wr)
 case atStart=>exact⟨k,i,rfl,Nat.le_refl _,Q,List.Perm.refl _,f,h,zd.refl _ _⟩
 case round =>
  clear h f Q;obtain⟨j,d,rfl,Ca,R,m,f,c,A⟩:=hrel;have U:d.length<=100:=by rw[m.length_eq];exact la
  by_cases V:j=0
  ·subst V;have s:=f.zero;have D:Hid (Vt lt d):=s;clear s f
   go_wp2_with fail
   go_end0
   exact⟨rfl,d,m,D.out,c,A⟩
  ·obtain⟨a,x⟩:∃a,d[j]?=some a:=⟨_,Ur R⟩;obtain⟨b,o⟩:∃b,d[(j-1) / 2]?=some b:=⟨_,Ur o_⟩;have Y:=quo2 j o_;obtain⟨p,hp⟩:∃p,p=(j-1) / 2:=⟨_,rfl⟩;rw[<-hp]at o Y;have Ma:p<j:=o_;have E:Hid (p=(j-1) / 2):=hp;clear hp;obtain⟨g,cap,B,M,Ea,ga,Fa,F,ia⟩:=c.get x;obtain⟨g',cap',P,_,_,_,_,G,ja⟩:=c.get o;rw[B]at P;injection P with u _ ha;injection u with u;injection u with u;subst u ha;have c0:=c.zl.cell 0;have c1:=c.zl.cell 1;have L:=c.zl.lt;simp only[s7]at c0 c1;rw[B]at c1;have na:=m.mem_iff.1 (Uq x);have da:=m.mem_iff.1 (Uq o);have C:=fun W (I:Bw wr W)=>N W (A.trans (zd.new I)) a na b da
   have X:=fun W (I:Bw wr W)=>jU (c.below I) U x o o_
   obtain⟨n,J⟩:∃n,n=d.length:=⟨_,rfl⟩;rw[<-J]at c1 ga R U;have aa:Hid (n=d.length):=J;have Ba:Hid (v=vS g d.length cap):=B;have Ga:(j:Int)<n:=o_;have La:(0:Int)<=j:=o_;have ua:(0:Int)<j:=o_;have Na:(p:Int)<n:=o_;have Aa:(0:Int)<=p:=o_;unfold zi at F G C;have Z:Hid (yy wr hb (.func (.func 168) #[] #[]) v d):=c;have l:Hid (d[j]?=some a/\d[p]?=some b):=⟨x,o⟩;clear J B x o c V;generalize S:lt a b=t at C;have K:Hid (lt a b=t):=S;clear S
   go_upto_region 2 with fail
   go_cut [29] from 5 to 34 (fun q sa=>q=.bool (!t)/\Bw wr sa)
   case first =>
    go_region_held3 (fun w'=>w'.cell? (vA hb 0)=some (.func (.func 168) #[] #[])/\w'.cell? (vA hb 1)=some (vS g n cap)/\w'.cell? (vA g j)=some (vP a.ze)/\w'.cell? (vA g p)=some (vP b.ze)) (go_keep)
     (first
     |(go_at_call 168;refine(C _ ?_).mono ?_;(focus exact cl);rintro e qa ⟨rfl,ea⟩;have r:Bw wr qa:=s5 cl ea;have Ha:=(r.cell (p:=vA hb 0) L).trans c0;have Ia:=(r.cell (p:=vA hb 1) L).trans c1;have Ja:=(r.cell (p:=vA g j) M).trans F;have Ka:=(r.cell (p:=vA g p) M).trans G))
    all_goals go_wp2_with fail
    go_meet
    exact⟨rfl,r⟩
   case rest =>
    obtain⟨rfl,z⟩:=hcut;clear c0 c1 F G ia ja C
    cases t
    ·have s:=f.stop l.out.1 (by rw[<-E.out];exact l.out.2) K.out;have D:Hid (Vt lt d):=s;clear s f
     go_wp2_with fail
     exact Us (v:=.tuple #[]) (by simp[results,results227,go_sem]) rfl ⟨rfl,d,m,D.out,Z.out.below z,A.trans (zd.new z)⟩
    ·go_wp2_with fail
     refine(X _ z).mono ?_
     rintro e ra ⟨rfl,ta,ma⟩
     have ca:Xq lt (vh d j p a b) p:=by
      have:=f.step O o_ l.out.1 (by rw[<-E.out];exact l.out.2) K.out
      rw[<-E.out]at this
      exact this
     have ka:(vh d j p a b).Perm i:=(bP o_ l.out.1 l.out.2).trans m;have oa:zd T w ra:=(A.trans (zd.new z)).trans (by rw[ba.out];exact ma);clear X f
     go_wp2_with fail
     go_roundg p
     case measure=>omega
     case rel=>exact⟨p,vh d j p a b,rfl,Nat.le_refl _,by rw[b5,<- aa.out];omega,ka,ca,ta,oa⟩
def fo {α : Type}(lt : α -> α -> Bool)(d:List α)(a : α)(i j:Nat):Nat:=match d[j]? with|some b=>if lt b a then j else i|none=>i
theorem hF{α : Type}{lt : α -> α -> Bool}(O:Ord lt){d:List α}{k:Nat}{a a1 : α}(h:WH lt d k)(j:d[k]?=some a)(e:d[fo lt d a k (2*k+1)]?=some a1):
  (fo lt d a1 (fo lt d a k (2*k+1)) (2*k+2)=k/\Vt lt d) \/
  (fo lt d a1 (fo lt d a k (2*k+1)) (2*k+2)≠k/\∃b,d[fo lt d a1 (fo lt d a k (2*k+1)) (2*k+2)]?=some b/\k<fo lt d a1 (fo lt d a k (2*k+1)) (2*k+2)/\WH lt (vh d k (fo lt d a1 (fo lt d a k (2*k+1)) (2*k+2)) a b) (fo lt d a1 (fo lt d a k (2*k+1)) (2*k+2))):=by
 unfold fo at *
 cases f:d[2*k+1]? with
 |none =>
  rw[f]at e
  simp only at e ⊢
  rw[j]at e;cases e;have g:d[2*k+2]?=none:=List.getElem?_eq_none_iff.2 (h_ (List.getElem?_eq_none_iff.1 f));rw[g]
  simp only
  exact .inl ⟨trivial,h.stop j (fun b hb=>by rw[f]at hb;cases hb) (fun b hb=>by rw[g]at hb;cases hb)⟩
 |some c1 =>
  rw[f]at e
  simp only at e ⊢
  cases l:lt c1 a with
  |false =>
   rw[l]at e;simp only[Bool.false_eq_true,if_false]at e ⊢;rw[j]at e;cases e
   cases g:d[2*k+2]? with
   |none =>
    simp only
    exact .inl ⟨trivial,h.stop j (fun b hb=>by rw[f]at hb;cases hb;exact l) (fun b hb=>by rw[g]at hb;cases hb)⟩
   |some c2 =>
    simp only
    cases n:lt c2 a with
    |false =>
     simp only[Bool.false_eq_true,if_false]
     exact .inl ⟨trivial,h.stop j (fun b hb=>by rw[f]at hb;cases hb;exact l) (fun b hb=>by rw[g]at hb;cases hb;exact n)⟩
    |true =>
     simp only[if_true]
     refine .inr ⟨o_,c2,g,o_,h.step O (.inr rfl) j g n (fun c x p i o=>?_)⟩
     have m:c=2*k+1:=o_;subst m;rw[f]at i;cases i
     exact O.trans _ _ _ l (O.asymm _ _ n)
  |true =>
   rw[l]at e;simp only[if_true]at e ⊢;have q:c1=a1:=by rw[f]at e;injection e
   subst q
   cases g:d[2*k+2]? with
   |none =>
    simp only
    refine .inr ⟨o_,c1,f,o_,h.step O (.inl rfl) j f l (fun c x p i o=>?_)⟩
    have m:c=2*k+2:=o_;subst m;rw[g]at i;cases i
   |some c2 =>
    simp only
    cases n:lt c2 c1 with
    |false =>
     simp only[Bool.false_eq_true,if_false]
     refine .inr ⟨o_,c1,f,o_,h.step O (.inl rfl) j f l (fun c x p i o=>?_)⟩
     have m:c=2*k+2:=o_;subst m;rw[g]at i;cases i
     exact n
    |true =>
     simp only[if_true];have s:lt c2 a=true:=by
      cases r:lt c2 a with
      |true=>rfl
      |false =>
       have:=O.trans _ _ _ r (O.asymm _ _ l)
       rw[n]at this;cases this
     refine .inr ⟨o_,c2,g,o_,h.step O (.inr rfl) j g s (fun c x p i o=>?_)⟩
     have m:c=2*k+1:=o_;subst m;rw[f]at i;cases i
     exact O.asymm _ _ n
theorem e7{α : Type}(lt : α -> α -> Bool)(d:List α)(a : α)(c:i<d.length):fo lt d a i j<d.length:=by
 unfold fo
 cases h:d[j]? with
 |none=>exact c
 |some b =>
  simp only
  split
  ·exact(Uy.1 h).1
  ·exact c
theorem pC{c:List Pw}(h:yy w hb (.func (.func 168) #[] #[]) v c)(l:c.length<=100){a:Pw}(d:c[i]?=some a)(m:j<=1000)(lt:Pw->Pw->Bool)
  (f:um w (fun y=>v.ownBlock=some y) c lt) :
  Calls prog 228 #[vP hb,vI i,vI j] w fun e w'=>e=vR (vI (fo lt c a i j))/\Bw w w':=by
 refine(pE h l d m lt (fun W k b hb=>f W (zd.new k) b (Uq hb) a (Uq d))).mono ?_
 rintro e w' ⟨rfl,g⟩
 refine⟨?_,g⟩
 unfold fo
 cases c[j]? with
 |none=>rfl
 |some b=>simp only;split<;>rfl
theorem um.zf{a:List Pw}{lt:Pw->Pw->Bool}(h:um w T a lt)(c:zd T w w'):um w' T a lt:=fun W b=>h W (c.trans b)
theorem um.perm{c:List Pw}{lt:Pw->Pw->Bool}(h:um w T c lt)(hp:d.Perm c):um w T d lt:=fun W e a f b hb=>h W e a (hp.mem_iff.1 f) b (hp.mem_iff.1 hb)
theorem lg{f:List Pw}{lt:Pw->Pw->Bool}(O:Ord lt)(h:yy w hb (.func (.func 168) #[] #[]) v f)(ia:f.length<=100){k:Nat}(U:k<f.length)(n:WH lt f k)(M:um w (fun y=>v.ownBlock=some y) f lt):
  Calls prog 209 #[vP hb,vI k] w fun e w'=>e=vT #[]/\∃d,d.Perm f/\Vt lt d/\yy w' hb (.func (.func 168) #[] #[]) v d/\zd (fun y=>v.ownBlock=some y) w w':=by
 obtain⟨T,s⟩:∃T:Nat->Prop,T=fun y=>v.ownBlock=some y:=⟨_,rfl⟩
 have G:=fun (W:World) (d:List Pw) (i j:Nat) (a:Pw) (l:yy W hb (.func (.func 168) #[] #[]) v d) (o:d.length<=100) (ha:d[i]?=some a) (la:j<=1000) (ea:um W T d lt)=>pC l o ha la lt (by rw[<-s];exact ea)
 rw[<-s]at M ⊢;have da:Hid (T=fun y=>v.ownBlock=some y):=s;clear s;obtain⟨N,C⟩:∃N,N=f.length:=⟨_,rfl⟩;have K:Hid (N=f.length):=C;rw[<-C]at ia;clear C
 go_enter func209,ntmps209
 go_wp2_with fail
 go_loopg [1] N (fun q ma wr=>∃(j:Nat) (d:List Pw),ma=vI j/\N<=q+j/\j<N/\d.Perm f/\WH lt d j/\yy wr hb (.func (.func 168) #[] #[]) v d/\zd T w wr)
 case atStart=>exact⟨k,f,rfl,o_,by rw[K.out];exact U,List.Perm.refl _,n,h,zd.refl _ _⟩
 case round =>
  clear h n U;obtain⟨j,d,rfl,ra,ta,r,n,l,B⟩:=hrel;have H:d.length=N:=by rw[K.out];exact r.length_eq
  have o:d.length<=100:=o_;obtain⟨a,t⟩:∃a,d[j]?=some a:=⟨_,Ur o_⟩;obtain⟨g,m⟩:∃g,g=fo lt d a j (2*j+1):=⟨_,rfl⟩;have Y:g<d.length:=by rw[m];exact e7 lt d a o_
  obtain⟨a1,E⟩:∃a1,d[g]?=some a1:=⟨_,Ur Y⟩;obtain⟨c,A⟩:∃c,c=fo lt d a1 g (2*j+2):=⟨_,rfl⟩;have z:=hF O n t (by rw[<-m];exact E);rw[<-m,<- A]at z;have F:=(M.zf B).perm r;have c1:=G wr d j (2*j+1) a l o t o_ F;rw[<-m]at c1;have c2:=fun W (S:Bw wr W)=>G W d g (2*j+2) a1 (l.below S) o E o_ (F.zf (zd.new S))
  rw[<-A]at c2;have P:((2*j+1:Nat):Int)=2*(j:Int)+1:=o_;have Q:((2*j+2:Nat):Int)=2*(j:Int)+2:=o_;rw[P]at c1;rw[Q]at c2;have aa:Hid (c=j/\Vt lt d\/(c≠j/\∃b,d[c]?=some b/\j<c/\WH lt (vh d j c a b) c)):=z;have I:Hid (d[j]?=some a):=t;have J:Hid (yy wr hb (.func (.func 168) #[] #[]) v d):=l;have Z:Hid (d.length=N):=H;clear z t E m A G n P Q l H F Y;have ua:(0:Int)<=j:=o_;have Ba:(j:Int)<=100:=o_
  go_wp2_with fail
  refine c1.mono ?_
  rintro e Ca ⟨rfl,x⟩
  go_wp2_with fail
  refine(c2 _ x).mono ?_
  rintro e na ⟨rfl,L⟩
  have p:Bw wr na:=s5 x L;clear c1 c2 x L
  rcases aa.out with ⟨D,V⟩|⟨D,b,u,sa,R⟩
  ·have ca:Hid (Vt lt d):=V;clear V;subst D
   go_wp2_with fail
   exact Us (v:=.tuple #[]) (by simp[results,results209,go_sem]) rfl ⟨rfl,d,r,ca.out,J.out.below p,B.trans (zd.new p)⟩
  ·have Aa:((c:Int) == (j:Int))=false:=by simp;omega
   have X:=jU (J.out.below p) o I.out u o_;have ga:(vh d j c a b).Perm f:=(bP o_ I.out u).trans r;have qa:c<N:=by have:=(Uy.1 u).1;have:=Z.out;omega
   have ba:Hid (WH lt (vh d j c a b) c):=R;clear R u D
   go_wp2_with fail
   refine X.mono ?_
   rintro e oa ⟨rfl,pa,ja⟩
   have ka:zd T w oa:=(B.trans (zd.new p)).trans (by rw[da.out];exact ja);clear X
   go_wp2_with fail
   go_roundg (N-c)
   case measure=>omega
   case rel=>exact⟨c,vh d j c a b,rfl,o_,qa,ga,ba.out,pa,ka⟩
theorem i91a:(prog.info? 95).map (fun i=>(i.size,i.bytes))=some (1,8):=k_
theorem i91b:(prog.info? 95).bind (fun i=>i.zero)=some (.pointer none):=k_
theorem cx:Wx 95 1 8:=XD i91a i91b rfl
theorem un94:prog.underlying 98=some (.slice 95):=k_
theorem yy.form{b:List Pw}(h:yy W hb f v b):∃a cap,v=.slice a b.length cap/\b.length<=cap/\cap<=maxLen:=by
 rcases h.row.2 with ⟨rfl,c⟩|⟨g,cap,i,rfl,_,_,d,e,_⟩
 ·exact⟨none,0,by rw[c],o_,Nat.zero_le _⟩
 ·exact⟨_,cap,rfl,d,e⟩
theorem zd.Vf(h:zd T w W)(a:zd T' W W')(d:∀b,b<w.heap.size->T' b->T b):zd T w W' :=
 ⟨a.os.trans h.os,a.tape.trans h.tape,a.output.trans h.output,Nat.le_trans h.size a.size,fun k c ht=>(a.block k (VJ c h.size) (fun e=>ht (d k c e))).trans (h.block k c ht)⟩
theorem tF{a:List Pw}{lt:Pw->Pw->Bool}(O:Ord lt)(h:yy w hb (.func (.func 168) #[] #[]) v a)(S:a.length<=50)(D:Vt lt a)(p:Pw)(A:um w (fun y=>y=hb\/v.ownBlock=some y) (a++[p]) lt):
  Calls prog 208 #[vP hb,zi p.ze] w fun e w'=>e=vT #[]/\∃s d,d.Perm (a++[p])/\Vt lt d/\yy w' hb (.func (.func 168) #[] #[]) s d/\zd (fun y=>y=hb\/v.ownBlock=some y) w w'/\(s.ownBlock=v.ownBlock\/∃g,s.ownBlock=some g/\w.heap.size<=g):=by
 have ca:=h.zl.lt;have c1:=h.zl.cell 1;simp only[s7]at c1;have t:Bw w (w.alloc (.cells #[zi p.ze] 95)):=cl;have r:=h.below t;have c:=Wv un94 cx o_ (w.alloc (.cells #[zi p.ze] 95)) v a.length (UN a) r.row w.heap.size 1 1 o_ [zi p.ze] rfl (zg.new w 95 _) (fun u E=>by simp at E;subst E;rfl) (by unfold maxLen;omega) o_;have f:∀g' cap' w',xq (w.alloc (.cells #[zi p.ze] 95)) v.ownBlock 95 1 (a.length+1) (UN a++[zi p.ze]) g' cap' w'->zg w' hb 247 #[.func (.func 168) #[] #[],v]/\yy (w'.setCell (vA hb 1) (vS g' (a.length+1) cap')) hb (.func (.func 168) #[] #[]) (vS g' (a.length+1) cap') (a++[p])/\zd (fun y=>y=hb\/v.ownBlock=some y) w (w'.setCell (vA hb 1) (vS g' (a.length+1) cap'))/\(v.ownBlock=some g'\/w.heap.size<=g'):=fun g' cap' w' R=>by
  have x:=r.zl.zf R.zf h.ne;have C:g'≠hb:=fun e=>by
   rcases R.new with i|i
   ·rw[e]at i;exact h.ne i
   ·simp at i;omega
  refine⟨x,⟨?_,?_,?_⟩,?_,?_⟩
  ·have:=x.set 1 (vS g' (a.length+1) cap')
   simpa using this
  ·have:UN (a++[p])=UN a++[zi p.ze]:=by simp[UN]
   rw[this,show(a++[p]).length=a.length+1 by simp]
   exact UQ R.own (by simp[Value.ownBlock];exact C) _
  ·simp[Value.ownBlock];exact C
  ·exact(((zd.new (T:=fun y=>y=hb\/v.ownBlock=some y) t).Vf R.zf (fun b _ e=>.inr e))).setCell (p:=vA hb 1) (.inl rfl) _
  ·exact R.new.imp id (fun e=>by simp at e;omega)
 have q:=fun g' cap' W (N:yy W hb (.func (.func 168) #[] #[]) (vS g' (a.length+1) cap') (a++[p])) (Q:zd (fun y=>y=hb\/v.ownBlock=some y) w W) (j:v.ownBlock=some g'\/w.heap.size<=g') =>
  k5 (k:=a.length) O N t_ s_ (D.push p) (fun G M=>A G (Q.Vf M (fun b H e=>by
   simp[Value.ownBlock]at e
   subst e
   rcases j with e|e
   ·exact .inr e
   ·omega)))
 obtain⟨a0,K,o,J,ga⟩:=h.form;obtain⟨n,j⟩:∃n,n=a.length:=⟨_,rfl⟩;rw[<-j]at c f q S o J;have ba:Hid (v=.slice a0 n K):=o;clear h r D A j o;unfold zi at c ⊢;generalize X:UN a=ia at c f;clear X
 go_enter func208,ntmps208
 go_wp2_with (at_builtin;refine Vk r_ _ _ _ _ rfl _ _ rfl r_ c ?_;rintro ja ka ⟨g1,F,rfl,l⟩;obtain⟨z,Z,B,m⟩:=f _ _ _ l;have da:=z.frozen 1;have U:=z.cell 1;have ea:=l.le;have ha:=l.mx;simp only[s7]at U)
 refine(q _ _ _ Z B m).mono ?_
 rintro e aa ⟨rfl,d,hp,P,Y,L⟩
 have V:zd (fun y=>y=hb\/v.ownBlock=some y) w aa:=B.Vf L (fun b H e=>by
  simp[Value.ownBlock]at e
  subst e
  rcases m with e|e
  ·exact .inr e
  ·omega)
 have I:(vS g1 (n+1) F).ownBlock=v.ownBlock\/∃g,(vS g1 (n+1) F).ownBlock=some g/\w.heap.size<=g:=by
  rcases m with e|e
  ·left;rw[e];rfl
  ·exact .inr ⟨g1,rfl,e⟩
 clear q f c
 go_wp2_with fail
 go_end0
 exact⟨rfl,_,d,hp,P,Y,V,I⟩
theorem dR{g:Nat}(h:W.ownsRow 0 e 1 (vS g n cap) n xs){m:Nat}(p:m<=n):W.ownsRow 0 e 1 (vS g m cap) m (xs.take m):=by
 obtain⟨k,l⟩:=h
 rcases l with ⟨b,_⟩|⟨g',cap',c,b,hb,j,o,f,h3,i⟩
 ·cases b
 ·injection b with a _ d;injection a with a;injection a with a;subst a d
  refine⟨by simp at k ⊢;omega,.inr ⟨g,cap,c,rfl,hb,j,o_,f,h3,?_⟩⟩
  rw[<-i,List.take_take]
  congr 1
  omega
theorem fW{a:List Pw}(h:yy w hb f v a)(k:a.length<=100)(b:a.length<=j)(q:j<=1000):
  Calls prog 228 #[vP hb,vI i,vI j] w fun e w'=>e=vR (vI i)/\Bw w w':=by
 obtain⟨a0,cap,d,g,p⟩:=h.form;have c1:=h.zl.cell 1;have m:=h.zl.lt;simp only[s7]at c1;rw[d]at c1;obtain⟨n,c⟩:∃n,n=a.length:=⟨_,rfl⟩;rw[<-c]at c1 g k b;have l:decide (j<n)=false:=decide_eq_false o_;have o:(0:Int)<=j:=o_;clear h d c b
 go_enter func228,ntmps228
 go_wp2_with fail
 go_quiet (fail)
 go_wp2_with fail
 go_ret
 exact⟨rfl,UT (Below.refl _ _) _⟩
theorem j8(h:yy w hb f v []):
  Calls prog 209 #[vP hb,vI 0] w fun e w'=>e=vT #[]/\Bw w w':=by
 have c1:=fW (i:=0) (j:=1) h s_ s_ o_;have c2:=fun W (c:Bw w W)=>fW (i:=0) (j:=2) (h.below c) s_ s_ o_
 have d:=h.zl.lt;simp only[Int.cast_ofNat_Int,Int.natCast_zero]at c1 c2;clear h
 go_enter func209,ntmps209
 go_wp2_with fail
 refine wp_loop_rounds 1 ?_
 rw[rounds_succ]
 go_wp2_with fail
 refine c1.mono ?_
 rintro e g ⟨rfl,a⟩
 go_wp2_with fail
 refine(c2 _ a).mono ?_
 rintro e k ⟨rfl,b⟩
 go_wp2_with fail
 exact Us (v:=.tuple #[]) (by simp[results,results209,go_sem]) rfl ⟨rfl,s5 a b⟩
def PopR (hb:Nat)(v:Value)(b:List Pw)(lt:Pw->Pw->Bool)(w:World)(e:Ending)(w':World):Prop :=
 (b=[]/\e=vT #[.pointer none,.bool false]/\w'=w) \/
 (∃(a:Pw) (c:Value) (d:List Pw),b[0]?=some a/\e=vT #[zi a.ze,.bool true]/\(a::d).Perm b/\Vt lt d/\yy w' hb (.func (.func 168) #[] #[]) c d/\zd (fun y=>y=hb\/v.ownBlock=some y) w w'/\c.ownBlock=v.ownBlock)
theorem lM{c:List Pw}{lt:Pw->Pw->Bool}(O:Ord lt)(h:yy w hb (.func (.func 168) #[] #[]) v c)(ga:c.length<=100)(E:Vt lt c)(B:um w (fun y=>y=hb\/v.ownBlock=some y) c lt):
  Calls prog 171 #[vP hb] w (PopR hb v c lt w):=by
 have ta:=h.zl.lt;have c1:=h.zl.cell 1;simp only[s7]at c1
 by_cases C:c=[]
 ·subst C;obtain⟨a0,Ba,f,Aa,Ea⟩:=h.form;rw[f]at c1;simp only[List.length_nil]at c1;clear B E
  go_enter func171,ntmps171
  go_wp2_with fail
  exact Us (v:=.tuple #[.pointer none,.bool false]) (by simp[results,results171,go_sem]) rfl (.inl ⟨rfl,rfl,rfl⟩)
 ·have M:0<c.length:=by cases c with|nil=>exact absurd rfl C|cons _ _=>simp
  obtain⟨a,n⟩:∃a,c[0]?=some a:=⟨_,Ur M⟩;obtain⟨b,l⟩:∃b,c[c.length-1]?=some b:=⟨_,Ur o_⟩;obtain⟨g,cap,f,ua,G,Z,Fa,Y,fa⟩:=h.get n;obtain⟨g',cap',N,_,_,_,_,L,fb⟩:=h.get l;rw[f]at N;injection N with i _ aa;injection i with i;injection i with i;subst i aa;rw[f]at c1;have Ca:=h.zl.frozen 1;have P:¬(hb=g):=fun e=>G e.symm
  obtain⟨m,T⟩:∃m,c.length=m+1:=⟨c.length-1,o_⟩;have q:c.length-1=m:=o_;rw[q]at L fb l;have I:∀(nq:Nat) (W:World),W=((((w.drewN nq).setCell (vA g 0) (zi b.ze)).setCell (vA g m) (.pointer none)).setCell (vA hb 1) (vS g m cap))->yy W hb (.func (.func 168) #[] #[]) (vS g m cap) ((c.set 0 b).take m)/\zd (fun y=>y=hb\/v.ownBlock=some y) w W:=by
   rintro nq W rfl
   refine⟨⟨?_,?_,?_⟩,?_⟩
   ·have:=(((h.zl.drewN nq).other (vA g 0) (zi b.ze) P).other (vA g m) (.pointer none) P).set 1 (vS g m cap)
    simpa using this
   ·have J:=h.row;rw[f]at J;have ka:=((J.stored 0 (zi b.ze)).1.stored m (.pointer none)).1;have la:=dR ka (m:=m) o_;have ma:=UQ la (a:=(vA hb 1)) (by simp[Value.ownBlock];exact G) (vS g m cap);have K:((c.set 0 b).take m).length=m:=by simp;omega
    rw[K];have na:UN ((c.set 0 b).take m)=(((UN c).set 0 (zi b.ze)).set m (.pointer none)).take m:=by
     have i:(((UN c).set 0 (zi b.ze)).set m (.pointer none)).take m=((UN c).set 0 (zi b.ze)).take m:=List.take_set_of_le (Nat.le_refl m);rw[i]
     simp[UN,List.map_set,List.map_take]
    rw[na]
    exact ma
   ·simp[Value.ownBlock];exact G
   ·have S:v.ownBlock=some g:=by rw[f];rfl
    exact((((zd.refl _ _).drewN nq).setCell (p:=vA g 0) (.inr S) _).setCell (p:=vA g m) (.inr S) _).setCell (p:=vA hb 1) (.inl rfl) _
  have R:WH lt ((c.set 0 b).take m) 0:=by rw[<-q];exact E.pop b
  have r:(a::(c.set 0 b).take m).Perm c:=by rw[<-q];exact jq n (by rw[q];exact l)
  have A:∀x∈(c.set 0 b).take m,x∈c:=fun x o=>r.mem_iff.1 (V3 _ o)
  have u:∀(nq:Nat) (W:World),W=((((w.drewN nq).setCell (vA g 0) (zi b.ze)).setCell (vA g m) (.pointer none)).setCell (vA hb 1) (vS g m cap))->Calls prog 209 #[vP hb,vI 0] W fun e w'=>e=vT #[]/\PopR hb v c lt w (vT #[zi a.ze,.bool true]) w':=fun nq W da=>by
   obtain⟨z,D⟩:=I nq W da;have t:(vS g m cap).ownBlock=v.ownBlock:=by rw[f];rfl
   by_cases s:m=0
   ·subst s;simp only[List.take_zero]at z r
    refine(j8 z).mono ?_
    rintro e w' ⟨rfl,Q⟩
    exact⟨rfl,.inr ⟨a,_,[],n,rfl,r,fun j x y Da o=>by simp at o,z.below Q,D.trans (zd.new Q),t⟩⟩
   ·have K:((c.set 0 b).take m).length=m:=by simp;omega
    have ha:=lg (k:=0) O z o_ o_ R (fun V ca x o y ia=>B V (D.Vf ca (fun k _ e=>.inr (by rw[<-t];exact e))) x (A x o) y (A y ia))
    refine ha.mono ?_
    rintro e w' ⟨rfl,d,hp,ea,oa,ba⟩
    exact⟨rfl,.inr ⟨a,_,d,n,rfl,((hp.cons a).trans r),ea,oa,D.Vf ba (fun k _ e=>.inr (by rw[<-t];exact e)),t⟩⟩
  rw[T]at c1 Z ga;have ra:(0:Int)<=m:=o_;have sa:w.frozen? (vA g 0)=false:=fa;unfold zi at Y L u;have U:Hid (∀w',PopR hb v c lt w (vT #[zi a.ze,.bool true]) w'->PopR hb v c lt w (vT #[zi a.ze,.bool true]) w'):=fun _ e=>e
  have H:Hid (m=0->b=a):=fun e=>by subst e;rw[n]at l;cases l;rfl
  clear I R r A h B E f n l C M T q U;generalize PopR hb v c lt w=X at u ⊢
  by_cases s:m=0
  ·have ja:=H.out s;subst s;subst ja;clear H
   go_enter func171,ntmps171
   go_upto_region 4 with fail
   go_quiet (fail)
   go_wp2_with fail
   go_region
   all_goals go_wp2_with fail
   refine(u _ _ rfl).mono ?_
   rintro e pa ⟨rfl,F⟩
   go_wp2_with fail
   exact F
  ·have qa:¬(0=m):=fun e=>s e.symm
   go_enter func171,ntmps171
   go_upto_region 4 with fail
   go_quiet (fail)
   go_wp2_with fail
   go_region
   all_goals go_wp2_with fail
   refine(u _ _ rfl).mono ?_
   rintro e pa ⟨rfl,F⟩
   go_wp2_with fail
   exact F
def ltP (a b:Pw):Bool:=Op.bytesLess (kN a.x.zb) (kN b.x.zb)
theorem dZ:Ord ltP:=⟨fun a b h=>YZ _ _ h,fun a b c d e=>ZU _ _ _ d e⟩
theorem nD{za:List zc}(T:zr za)(v:∀n∈za,UA w n){a b:Pw}(j:vz w za a)(hb:vz w za b):
  Calls prog 168 #[zi a.ze,zi b.ze] w fun e w'=>e=vR (.bool (ltP a b))/\Bw w w':=by
 obtain⟨m,z,B,u⟩:=j.zj;obtain⟨k,y,p,A⟩:=hb.zj;have d:=fun W (c:Bw w W)=>Z7 T _ m z rfl W (fun n l=>(v n l).below c)
 have f:=fun W (c:Bw w W)=>Z7 T _ k y rfl W (fun n l=>(v n l).below c)
 have o:=fun W (c:Bw w W)=>(j.below c).cells.2.1
 have g:=fun W (c:Bw w W)=>(hb.below c).cells.2.1
 rw[B,u]at d;rw[p,A]at f;have h:Op.bytesLess (sb (kN a.x.zb)).toList (sb (kN b.x.zb)).toList=ltP a b:=by unfold ltP;rw[V4,V4,UO,UO]
 generalize ltP a b=t at h ⊢;generalize sb (kN a.x.zb)=I at d h;generalize sb (kN b.x.zb)=J at f h;generalize a.ze=D at *;generalize b.ze=F at *;generalize a.q=s at *;generalize b.q=bq at *;have K:=o w (Below.refl _ _);have L:=g w (Below.refl _ _);clear B u p A j hb z y;unfold zi at d f ⊢
 go_enter func168,ntmps168
 go_upto_region 1 with fail
 go_region_held3 (fun w'=>w'.cell? (vA D 1)=some (vP s)/\w'.cell? (vA F 1)=some (vP bq)) (go_keep)
  (first
  |(go_at_call_of 47 (vP s);refine(d _ ?_).mono ?_;(focus exact cl);rintro e G ⟨rfl,C⟩;have r:Bw w G:=s5 cl C;have M:=o _ r;have N:=g _ r)
  |(go_at_call_of 47 (vP bq);refine(f _ ?_).mono ?_;(focus exact cl);rintro e H ⟨rfl,E⟩;have i:Bw w H:=s5 cl E;have O:=o _ i;have P:=g _ i))
 all_goals go_wp2_with fail
 go_ret
 exact⟨rfl,i⟩
theorem un91:prog.underlying 95=some (.pointer 105):=k_
theorem lV:(prog.info? 105).map (fun i=>i.size)=some 4:=k_
theorem kQ:∃j,prog.info? 105=some j/\j.size≠0:=by
 have h:=lV
 cases a:prog.info? 105 with
 |none=>rw[a]at h;cases h
 |some j=>rw[a]at h;simp at h;exact⟨j,rfl,o_⟩
theorem kY{x m:Pw}(d:zg W x.ze 105 x.cells)(b:zg W m.ze 105 m.cells):(binOp .eql 95 (vP x.ze) (vP m.ze)).run prog W=.ok (.bool (x.ze == m.ze)) W:=by
 obtain⟨j,a,c⟩:=kQ
 by_cases h:x.ze=m.ze
 ·rw[h,beq_self_eq_true]
  exact run_eql_ptr_same _ _ un91 a
 ·have hb:(x.ze == m.ze)=false:=by simp[h]
  rw[hb]
  exact run_eql_ptr_other _ un91 a c (fun e=>h (by injection e)) d b
theorem wo1{x:Pw}(a:zg w x.ze 105 x.cells)(hp:zg w p.ze 105 p.cells)(hb:w.cell? (vA o 0)=some (zi p.ze)):
  Calls prog 188 #[zi x.ze,vP o] w fun e w'=>e=vR (.bool (x.ze == p.ze))/\w'=w:=by
 have b:=kY a hp;unfold zi at hb ⊢
 go_enter func188,ntmps188
 go_wp2
 go_ret
 exact⟨rfl,rfl⟩
structure wh (W:World) (v:Value) (l:List Pw):Prop where
 row:W.ownsRow 0 95 1 v l.length (UN l)
 zu:∀p∈l,zg W p.ze 105 p.cells
theorem wh.zl(h:wh W v l)(a:l[i]?=some p):∃g cap,v=vS g l.length cap/\g<W.heap.size/\l.length<=cap/\cap<=maxLen/\W.cell? (vA g i)=some (zi p.ze):=by
 obtain⟨g,cap,rfl,b,c⟩:=VX h.row (Nat.lt_of_le_of_lt (Nat.zero_le _) (Uy.1 a).1)
 have:=h.row.cells (g:=g) rfl i (zi p.ze) (by unfold UN;rw[VB,a];rfl)
 rw[Addr.add_lit,Nat.zero_add]at this
 exact⟨g,cap,rfl,UI h.row rfl,b,c,this⟩
theorem wh.form(h:wh W v l):∃a cap,v=.slice a l.length cap/\l.length<=cap/\cap<=maxLen:=by
 rcases h.row.2 with ⟨rfl,b⟩|⟨g,cap,e,rfl,_,_,c,d,_⟩
 ·exact⟨none,0,by rw[b],o_,Nat.zero_le _⟩
 ·exact⟨_,cap,rfl,c,d⟩
def IdxR (l:List Pw)(p:Pw)(e:Ending):Prop:=(∃i:Nat,e=vR (vI i)/\l[i]?=some p)\/(p ∉ l/\e=vR (vI (-1)))
theorem oS(h:wh w v l)(M:l.length<=100)(hp:zg w p.ze 105 p.cells)(E:∀a∈l,a.ze=p.ze->a=p)(hb:w.cell? (vA o 0)=some (zi p.ze)):
  Calls prog 222 #[v,.func (.func 188) #[] #[vP o]] w fun e w'=>IdxR l p e/\w'=w:=by
 obtain⟨a0,R,A,G,U⟩:=h.form;have m:=fun i q (L:l[i]?=some q)=>h.zl L
 have B:=fun q (hq:q∈l)=>wo1 (h.zu q hq) hp hb
 obtain⟨n,s⟩:∃n,n=l.length:=⟨_,rfl⟩;rw[<-s]at A m M G;have u:Hid (n=l.length):=s;clear s;subst A
 go_enter func222,ntmps222
 go_wp2
 go_loop [8] (fun i=>∃k:Nat,k<=n/\i=vI k/\∀j q,j<k->l[j]?=some q->q≠p) (fun i=>n-(intOf i).toNat)
 case atStart=>exact⟨0,Nat.zero_le _,rfl,fun j q d=>by omega⟩
 case round =>
  obtain⟨k,T,rfl,z⟩:=hrel;have C:Hid (∀j q,j<k->l[j]?=some q->q≠p):=z;clear z
  by_cases F:k<n
  ·obtain⟨q,hq⟩:∃q,l[k]?=some q:=⟨_,Ur (by rw[<-u.out];exact F)⟩;obtain⟨g,cap,K,P,Q,V,J⟩:=m k q hq;injection K with H _ I;subst H I;have D:=Uq hq;have b:=B q D;have x:Hid (l[k]?=some q):=hq;have W:(k:Int)<n:=o_;have S:(0:Int)<=k:=o_;unfold zi at J b;clear hq m B
   cases c:(q.ze == p.ze)
   ·rw[c]at b
    go_wp2_with (go_at_call 188;refine b.mono ?_;rintro e O ⟨rfl,f⟩;subst f)
    go_round
    case rel =>
     refine⟨k+1,o_,by go_num,fun j y d t=>?_⟩
     rcases Nat.lt_or_ge j k with r|r
     ·exact C.out j y r t
     ·obtain rfl:j=k:=o_;rw[x.out]at t;cases t;intro e;rw[e]at c;simp at c
    case measure=>simp[intOf];omega
   ·rw[c]at b
    go_wp2_with (go_at_call 188;refine b.mono ?_;rintro e O ⟨rfl,f⟩;subst f)
    go_ret
    have:q=p:=E q D (j_ c)
    exact⟨.inl ⟨k,rfl,by rw[<-this];exact x.out⟩,rfl⟩
  ·go_wp2
   go_ret
   refine⟨.inr ⟨fun N=>?_,rfl⟩,rfl⟩
   obtain⟨j,d⟩:=Vh N;have r:=(Uy.1 d).1
   exact C.out j p (h_ u.out) d rfl
theorem UY{t:TypeId}(h:W.ownsRow 0 t size v n xs)(hb:zg W b t' vs)(ht:t≠t'):v.ownBlock≠some b:=by
 intro e;obtain⟨_,d⟩:=h
 rcases d with ⟨rfl,_⟩|⟨g,cap,f,rfl,_,c,_⟩
 ·simp[Value.ownBlock]at e
 ·simp[Value.ownBlock]at e
  subst e
  have:=c.symm.trans hb
  injection this with this;injection this with _ a _
  exact ht a
def X8 (l d:List Pw)(i0 j:Nat):Prop:=d.length=l.length/\∀m,d[m]?=if m<i0 then l[m]? else if m+1<j then l[m+1]? else l[m]?
theorem X8.start(l:List Pw)(i0:Nat):X8 l l i0 (i0+1):=⟨rfl,fun m=>by
 by_cases h:m<i0
 ·simp[h]
 ·simp[h,show ¬(m+1<i0+1) by omega]⟩
theorem X8.step(h:X8 l d i0 j)(c:i0<j){q:Pw}(hq:l[j]?=some q):X8 l (d.set (j-1) q) i0 (j+1):=by
 refine⟨by rw[List.length_set];exact h.1,fun m=>?_⟩
 have f:=(Uy.1 hq).1;rw[List.getElem?_set]
 by_cases e:j-1=m
 ·subst e;rw[if_pos rfl,if_pos (by rw[h.1];omega),if_neg o_,if_pos o_,show j-1+1=j by omega,hq]
 ·rw[if_neg e,h.2 m]
  by_cases a:m<i0
  ·simp[a]
  ·simp only[a,if_false]
   by_cases b:m+1<j
   ·simp[b,show m+1<j+1 by omega]
   ·simp[b,show ¬(m+1<j+1) by omega]
theorem X8.done(h:X8 l d i0 l.length)(c:i0<l.length):d.take (l.length-1)=l.take i0++l.drop (i0+1):=by
 apply List.ext_getElem?
 intro m;rw[List.getElem?_take]
 by_cases b:m<l.length-1
 ·rw[if_pos b,h.2 m]
  by_cases a:m<i0
  ·rw[if_pos a,Wu t_,List.getElem?_take_of_lt a]
  ·rw[if_neg a,if_pos o_,Wp t_,List.getElem?_drop]
   congr 1
   simp;omega
 ·rw[if_neg b]
  symm
  rw[List.getElem?_eq_none_iff]
  simp;omega
def WoR (v:Value)(l:List Pw)(p:Pw)(w:World)(e:Ending)(w':World):Prop :=
 (p ∉ l/\e=vR v/\Bw w w') \/
 (∃(i:Nat) (a:Value),l[i]?=some p/\e=vR a/\wh w' a (l.take i++l.drop (i+1))/\zd (fun y=>v.ownBlock=some y) w w'/\a.ownBlock=v.ownBlock)
theorem ly(w:World):(zeroValue 95).run prog w=.ok (.pointer none) w:=k_
theorem n5(h:wh w v l)(Z:l.length<=100)(hp:zg w p.ze 105 p.cells)(T:∀a∈l,a.ze=p.ze->a=p)(ta:l.Nodup)(hb:w.cell? (vA o 0)=some (zi p.ze))(ua:v.ownBlock≠some o):
  Calls prog 187 #[v,.func (.func 188) #[] #[vP o]] w (WoR v l p w):=by
 have Q:=oS h Z hp T hb
 go_enter func187,ntmps187
 go_wp2_with fail
 refine Q.mono ?_
 obtain⟨a0,r,x,pa,Wa⟩:=h.form
 rintro e E ⟨(⟨i,rfl,C⟩|⟨ma,rfl⟩),V⟩
 ·subst V;have Ca:=(Uy.1 C).1;obtain⟨g,cap,X,Ua,sa,Xa,_⟩:=h.zl C;rw[x]at X;injection X with I _ Aa;subst I Aa;obtain⟨n,G⟩:∃n,n=l.length:=⟨_,rfl⟩;have t:Hid (n=l.length):=G;rw[<-G]at x Z Ca sa pa;have ea:v.ownBlock=some g:=by rw[x];rfl
  have ia:=h.row;rw[x,<- G]at ia;have F:∀q∈l,g≠q.ze:=fun q hq e=>UY h.row (h.zu q hq) d_ (by rw[ea,e])
  have Ea:g≠p.ze:=F p (Uq C);have la:g≠o:=fun e=>ua (by rw[ea,e])
  have ra:o<E.heap.size:=VE _ _ hb;have ha:=h.zu;have Va:((i:Int) == -1)=false:=s_;have cb:(0:Int)<=i:=o_;have Ta:Hid (v=vS g n r):=x;have S:Hid (l[i]?=some p):=C;clear Q G C h;subst x
  go_wp2_with fail
  go_loopw [5,6] (fun Ra N wr=>∃(j:Nat) (d:List Pw),i+1<=j/\j<=n/\N=vI j/\Ra=vI ((j-1:Nat):Int)/\X8 l d i j/\wr.ownsRow 0 95 1 (vS g n r) n (UN d)/\zd (fun y=>y=g) E wr) (fun _ N _=>n-(intOf N).toNat)
  case atStart=>exact⟨i+1,l,Nat.le_refl _,o_,by go_num,s_,X8.start l i,ia,zd.refl _ _⟩
  case round =>
   obtain⟨j,d,ab,bb,rfl,rfl,u,f,s⟩:=hrel
   by_cases U:j<n
   ·obtain⟨q,hq⟩:∃q,l[j]?=some q:=⟨_,Ur (by rw[<-t.out];exact U)⟩;have L:=Uq hq;have Da:q≠p:=fun e=>by
     subst e
     have:=(List.getElem?_inj (by rw[<-t.out];exact U) ta).1 (hq.trans S.out.symm)
     omega
    have Sa:(q.ze == p.ze)=false:=by
     cases Ha:(q.ze == p.ze) with
     |false=>rfl
     |true=>exact absurd (T q L (j_ Ha)) Da
    have O:d[j]?=some q:=by rw[u.2 j,if_neg o_,if_neg o_];exact hq
    have W:=f.cells (g:=g) rfl j (zi q.ze) (by unfold UN;rw[VB,O];rfl);rw[Addr.add_lit,Nat.zero_add]at W;have Fa:=f.frozenAt (g:=g) (j-1);have H:=wo1 ((ha q L).zf s (fun e=>F q L e.symm)) (hp.zf s (fun e=>Ea e.symm)) ((s.cell (p:=vA o 0) ra (fun e=>la e.symm)).trans hb);rw[Sa]at H;obtain⟨z,D⟩:∃z,d[j-1]?=some z:=⟨_,Ur (by rw[u.1,<- t.out];omega)⟩;have B:=f.cells (g:=g) rfl (j-1) (zi z.ze) (by unfold UN;rw[VB,D];rfl);rw[Addr.add_lit,Nat.zero_add]at B;have ba:=u.step o_ hq;have J:=(f.stored (j-1) (zi q.ze)).1;have ga:UN (d.set (j-1) q)=(UN d).set (j-1) (zi q.ze):=by simp[UN,List.map_set]
    rw[<-ga]at J;have Y:=s.setCell (p:=vA g (j-1)) rfl (zi q.ze);have R:Hid (X8 l (d.set (j-1) q) i (j+1)/\(wr.setCell (vA g (j-1)) (zi q.ze)).ownsRow 0 95 1 (vS g n r) n (UN (d.set (j-1) q))/\zd (fun y=>y=g) E (wr.setCell (vA g (j-1)) (zi q.ze))):=⟨ba,J,Y⟩;obtain⟨A,ka⟩:∃A,j=A+1:=⟨j-1,o_⟩;subst ka;simp only[Nat.add_sub_cancel]at R B Fa ⊢;unfold zi at W B H;clear ba J Y ga u f s hq O D;have Ya:((A+1:Nat):Int)<n:=o_;have Ka:(A:Int)<n:=o_;have La:(0:Int)<=A:=o_
    go_wp2_with fail
    refine H.mono ?_
    rintro e db ⟨rfl,qa⟩
    subst qa;clear H
    go_wp2_with fail
    obtain⟨m1,Na,Oa⟩:=R.out
    exact⟨⟨A+2,d.set A q,o_,o_,by go_num,by go_num,m1,Na,Oa⟩,by simp[intOf];omega⟩
   ·have Ja:j=n:=o_;subst Ja;obtain⟨b,Ba⟩:∃b,j=b+1:=⟨j-1,o_⟩;have oa:d.length=j:=by rw[u.1,<- t.out]
    obtain⟨z,D⟩:∃z,d[b]?=some z:=⟨_,Ur o_⟩;have B:=f.cells (g:=g) rfl b (zi z.ze) (by unfold UN;rw[VB,D];rfl);rw[Addr.add_lit,Nat.zero_add]at B;have Ga:=f.frozenAt (g:=g) b;have na:=fun Qa c=>Lib.run_clear_slice (P:=prog) wr 98 95 Qa (.pointer none) un94 ly rfl rfl g b 1 c o_ (fun k Ia=>by
     have:k=0:=o_
     subst this;rw[Nat.add_zero,B];rfl) (fun k Ia=>by
     have:k=0:=o_
     subst this
     exact Ga)
    have da:WoR (vS g j r) l p E (vR (vS g b r)) (wr.setCell (vA g b) (.pointer none)):=by
     refine .inr ⟨i,_,S.out,rfl,⟨?_,fun q hq=>?_⟩,?_,rfl⟩
     ·have Pa:=(f.stored b (.pointer none)).1;have ca:=dR Pa (m:=b) o_;have I:((UN d).set b (.pointer none)).take b=(UN d).take b:=List.take_set_of_le (Nat.le_refl b);rw[I]at ca;have hd:=u;rw[t.out]at hd;have aa:=hd.done (by rw[<-t.out];omega);have Ma:l.length-1=b:=by rw[<-t.out];omega
      rw[Ma]at aa;rw[<-aa]
      have:UN (d.take b)=(UN d).take b:=by simp[UN,List.map_take]
      rw[this,show(d.take b).length=b by simp;omega]
      exact ca
     ·have M:q∈l:=by
       rcases UU.1 hq with K|K
       ·exact List.mem_of_mem_take K
       ·exact List.mem_of_mem_drop K
      exact((ha q M).zf s (fun e=>F q M e.symm)).other _ _ (fun e=>F q M e.symm)
     ·exact(s.mono (fun y e=>by rw[e];rfl)).setCell (p:=vA g b) r_ _
    have ja:Hid (WoR (vS g j r) l p E (vR (vS g b r)) (wr.setCell (vA g b) (.pointer none))):=da;subst Ba;simp only[World.setCells,List.replicate]at na;clear da u f s oa D;simp only[Nat.add_sub_cancel];have Ka:(b:Int)<(b+1:Nat):=o_;have La:(0:Int)<=b:=o_;have Za:¬((b:Int)=r):=o_
    go_wp2_with fail
    go_ret
    exact ja.out
 ·subst V;clear x
  go_wp2_with fail
  go_ret
  exact .inl ⟨ma,rfl,Below.refl _ _⟩
theorem Zq(h:wh w v l)(u:l.length<=100)(hp:zg w p.ze 105 p.cells)(k:∀a∈l,a.ze=p.ze->a=p)(o:l.Nodup):
  Calls prog 138 #[v,zi p.ze] w (WoR v l p w):=by
 have g:Bw w (w.alloc (.cells #[zi p.ze] 95)):=cl;have hb:=(zz.new w 95 (zi p.ze)).cell;have b:wh (w.alloc (.cells #[zi p.ze] 95)) v l:=⟨s8 (T:=fun _=>False) h.row (zd.new g) (fun _ _ e=>e),fun q hq=>(h.zu q hq).alloc _⟩;have r:v.ownBlock≠some w.heap.size:=fun e=>by have:=UI h.row e;omega
 have hd:=n5 b u (hp.alloc _) k o hb r;have A:∀(fn:Fn) (first cap:Array Value) (w:World),(Instr.makeFunc fn first cap).run prog w=.ok (.func fn first cap) w:=fun _ _ _ _=>rfl
 have j:∀e w',WoR v l p (w.alloc (.cells #[zi p.ze] 95)) e w'->WoR v l p w e w':=fun e w' f=>by
  rcases f with ⟨b,c,h3⟩|⟨i,n,b,c,h3,s,t⟩
  ·exact .inl ⟨b,c,s5 g h3⟩
  ·exact .inr ⟨i,n,b,c,h3,(zd.new (T:=fun y=>v.ownBlock=some y) g).trans s,t⟩
 have d:Hid (∀e w',WoR v l p (w.alloc (.cells #[zi p.ze] 95)) e w'->(∃x,e=vR x)/\WoR v l p w e w'):=fun e w' f=>⟨by rcases f with ⟨_,c,_⟩|⟨_,n,_,c,_⟩<;>exact⟨_,c⟩,j e w' f⟩
 clear j h b k;unfold zi at hd d ⊢;generalize WoR v l p w=X at d ⊢;generalize WoR v l p (w.alloc (.cells #[vP p.ze] 95))=Y at hd d
 go_enter func138,ntmps138
 go_wp2_with fail
 refine hd.mono ?_
 intro e B m;obtain⟨⟨x,rfl⟩,z⟩:=d.out _ _ m;clear hd m d
 go_wp2_with fail
 exact z
end
end Go.Proofs.YtphclnolomgjoaaGreatDoor
