import Derived.WalkKit
import Derived.WalkLawsBesides
import Derived.WalkSpells
import Derived.RegionCalls
import Derived.Deep.QuietTactic
import Derived.BigQuiet
import Derived.Deep.RegionWith
import Derived.Handy
import Derived.Test.YtphclnolomgjoaaGreatDoorProg
import Derived.Lib.Bytealg
import Derived.Lib.Strings
import Derived.Lib.UnsafeStr
import Derived.Lib.BufferWrite
import Derived.Laws.MakeOwn
import Derived.Laws.Externs
import Derived.RangeFuncNested
import Derived.RangeFuncBound
import Derived.RangeFuncCalls
import Derived.RangeFuncLeaves
import Derived.Shelf.Abstract
import Derived.Shelf.RegionOpen
import Derived.OwnWalkIn
import Derived.TacticsInMore
import Derived.LoopNIn
import Derived.LoopIn
set_option linter.unusedVariables false
set_option linter.unusedSimpArgs false
set_option maxRecDepth 100000
set_option maxHeartbeats 4000000
namespace Go.Proofs.YtphclnolomgjoaaGreatDoor
open Tryz
section
open Go.RowKit
theorem xq0{α:Type _}{l:List α}{i:Nat}:l.toArray[i]?=l[i]?:=List.getElem?_toArray
theorem xq1{α:Type _}{a:α}{l:List α}:(a::l)[0]?=some a:=List.getElem?_cons_zero
theorem xq2{α:Type _}{a:α}{l:List α}{i:Nat}:(a::l)[i+1]?=l[i]?:=List.getElem?_cons_succ
@[reducible] def v0_:Value:=.slice none 0 0
@[reducible] def vI(n:Int):Value:=.int .i64 n
@[reducible] def vP(b:Nat):Value:=.pointer (some ⟨b,0,none⟩)
@[reducible] def vS(b n c:Nat):Value:=.slice (some ⟨b,0,none⟩) n c
@[reducible] def vA(b i:Nat):Addr:=⟨b,i,none⟩
@[reducible] def Bw(w W:World):Prop:=Below w.heap.size w W
@[reducible] def Cl:=Calls prog
theorem xr0:∀ {α : Type _} {i:Nat} {a : α} {l:List α},l[i]?=some a↔∃h,l[i]=a:=@List.getElem?_eq_some_iff
theorem xr1:∀ {α : Type _} {l:List α} {i:Nat} (h:i<l.length),l[i]?=some l[i]:=@List.getElem?_eq_getElem
theorem xr2:∀ {α : Type _} {l:List α} {i:Nat} {a : α},l[i]?=some a->a∈l:=@List.mem_of_getElem?
theorem xr3:∀ {α : Type _} (a : α) (ys:List α) (h:0<(a::ys).length),(a::ys)[0]=a:=@List.getElem_cons_zero
theorem xr4:∀ {α : Type _} (a : α) (ys:List α) (i:Nat) (h:i+1<(a::ys).length),(a::ys)[i+1]=ys[i]'(Nat.lt_of_succ_lt_succ h):=@List.getElem_cons_succ
theorem xr5:∀ {α : Type _} {xs:List α} {i:Nat} (h:i<xs.toArray.size),xs.toArray[i]=xs[i]:=@List.getElem_toArray
theorem xr6:∀ {α : Type _} (l:List α) (i:Nat) (a : α),l.toArray.setIfInBounds i a=(l.set i a).toArray:=@List.setIfInBounds_toArray
theorem xr7:∀ {α : Type _} {x : α} {xs:List α} {i:Nat} {a : α},(x::xs).set (i+1) a=x::xs.set i a:=@List.set_cons_succ
theorem xr8:∀ {α : Type _} {x : α} {xs:List α} {a : α},(x::xs).set 0 a=a::xs:=@List.set_cons_zero
theorem xr9:∀ {α : Type _} {a : α} {ys:List α} (bs:List α),a∈ys->a∈ys++bs:=@List.mem_append_left
theorem xra:∀ {α : Type _} {b : α} (ys:List α) {bs:List α},b∈bs->b∈ys++bs:=@List.mem_append_right
theorem xrb:∀(w:World) (a:Addr) {u:Value},w.cell? a=some u->a.block<w.heap.size:=@World.block_lt_of_cell?
theorem xrc:∀ {α : Type _} {i:Nat} {b : α} {xs:Array α},xs[i]?=some b↔∃h,xs[i]=b:=@Array.getElem?_eq_some_iff
theorem xrd:∀ {α : Type _} {i:Nat} {l:List α},l.length<=i->List.take i l=l:=@List.take_of_length_le
theorem xre:∀ {α : Type _} {a : α} {l:List α},a∈l->∃i:Nat,l[i]?=some a:=@List.getElem?_of_mem
theorem xrf:∀ {α : Type _} {i:Nat} {l:List α} (h:i<l.length),List.take (i+1) l=List.take i l++[l[i]]:=@List.take_succ_eq_append_getElem
theorem xrg:∀ {n m k:Nat},n<m->m<=k->n<k:=@Nat.lt_of_lt_of_le
theorem xrh:∀ {α : Type _} (p : α -> Bool) (l:List α),(List.filter p l).length<=l.length:=@List.length_filter_le
theorem xri:∀ {α : Type _} {a : α} {s t:List α},a∈s++t↔a∈s\/a∈t:=@List.mem_append
theorem xrj:∀ {α : Type _} {β : Type _} {l:List α} {a : α} {f : α -> β},a∈l->f a∈List.map f l:=@List.mem_map_of_mem
theorem xrk:∀(w:World) (base:Nat) (e:TypeId) (size:Nat),w.ownsRow base e size (Value.slice none 0 0) 0 []:=@World.ownsRow_nil
theorem xrl:∀ {w:World} {base:Nat} {e:TypeId} {size:Nat} {v:Value} {n:Nat} {xs:List Value},w.ownsRow base e size v n xs->∀ {a:Addr},v.ownBlock≠some a.block->∀(u:Value),(w.setCell a u).ownsRow base e size v n xs:=@ownsRow_setCell_other
theorem xrm:∀ {B:Nat} {a w:World},Below B a w->∀(n:Nat),Below B a (w.drewN n):=@below_drewN
theorem xrn:∀ {P:Program} {fn:Func} {R:Ending->World->Prop} {a:Act} {w:World} {v:Value},Sem.run P (results fn a.tmps) w=Result.ok v w->a.defers=[]->R (Ending.returned v) w->bodyPost P fn R Exit.ret a w:=@bodyPost_ret
theorem xro:∀ {α : Type _} {l m:List α} {i:Nat},l.length<=i->(l++m)[i]?=m[i-l.length]?:=@List.getElem?_append_right
theorem xrp:∀ {α : Type _} {l m:List α} {i:Nat},i<l.length->(l++m)[i]?=l[i]?:=@List.getElem?_append_left
theorem xrq:∀ {α : Type _} {β : Type _} {b : β} {f : α -> β} {l:List α},b∈List.map f l↔∃a,a∈l/\f a=b:=@List.mem_map
theorem xrr:∀ {α : Type _} {p : α -> Bool} {ys:List α} {x : α},x∈List.filter p ys↔x∈ys/\p x=true:=@List.mem_filter
theorem xrs:∀ {α : Type _} {β : Type _} {f : α -> β} {l:List α} {i:Nat},(List.map f l)[i]?=Option.map f l[i]?:=@List.getElem?_map
theorem xrt:∀(w:World) (o:Obj),(w.alloc o).heap.size=w.heap.size+1:=@World.size_alloc
theorem xru:∀ {α : Type _} (y : α) {a : α} {l:List α},a∈l->a∈y::l:=@List.mem_cons_of_mem
theorem xrv:∀ {n:Nat} {P:Program} {f:FuncId} {args:Array Value} {w:World} {R:Ending->World->Prop},CallsIn Fence.wide n P f args w R↔Calls P f args w R:=@callsIn_wide
theorem xrw:∀ {α : Type _} [BEq α] [LawfulBEq α] {l m:List α},l.isPrefixOf m=true↔l <+: m:=@List.isPrefixOf_iff_prefix
theorem xrx:∀ {α : Type _} {R : α -> α -> Prop} {l m:List α},List.Pairwise R (l++m)↔List.Pairwise R l/\List.Pairwise R m/\∀(a : α),a∈l->∀(b : α),b∈m->R a b:=@List.pairwise_append
theorem xry:∀ {α : Type _} (l m:List α),l <+: l++m:=@List.prefix_append
theorem xrz:∀ {α : Type _} {x : α} {xs:List α} {p : α -> Bool},List.filter p (x::xs)=if p x=true then x::List.filter p xs else List.filter p xs:=@List.filter_cons
theorem xs0:∀ {α : Type _} {p : α -> Bool} {l:List α},l.any p=true↔∃x,x∈l/\p x=true:=@List.any_eq_true
variable {W w w1:World}{a:Int}
theorem qab(h:Below w.heap.size w W)(hb:Below W.heap.size W w1):Below w.heap.size w w1:=h.trans (hb.mono h.size)
theorem qhl{k:IntKind}{b:Int}(h:a=b):Ending.returned (.int k a)=.returned (.int k b):=by rw[h]
theorem qbt{a b:Bool}(h:a=b):Ending.returned (.bool a)=.returned (.bool b):=by rw[h]
theorem qx1{a b:ByteArray}(h:a=b):Ending.returned (.string a)=.returned (.string b):=by rw[h]
def qao (a b:Int):Bool:=decide (0<=a/\a<=1000/\0<=b/\b<=1000)
end
section
abbrev Bs:=List UInt8
variable {k':List Bs}
def qax:Bs->List Bs
 | []=>[[]]
 |c::r=>if c=47 then []::qax r else match qax r with
  | []=>[[c]]
  |h::t=>(c::h)::t
def qaa:List Bs->Bs
 | []=>[]
 | [a]=>a
 |a::b::r=>a++47::qaa (b::r)
def qf3 (c:UInt8):Bool:=decide (97<=c)&&decide (c<=122)
def qbr (n:Bs):Bool:=decide (1<=n.length)&&decide (n.length<=4)&&n.all qf3
def qac (s:Bs):List Bs:=if s=[] then [] else qax s
def qar (s:Bs):Bool:=(qac s).all qbr
theorem qg8(s:Bs):qax s≠[]:=by
 cases s with
 |nil=>simp[qax]
 |cons c r =>
  simp only[qax]
  split
  ·simp
  ·split<;>simp
theorem qd3(s:Bs):∃h t,qax s=h::t:=by
 cases e:qax s with
 |nil=>exact absurd e (qg8 s)
 |cons h t=>exact⟨h,t,rfl⟩
theorem qlw(a b:Bs):∀ {xs:List Bs} {x y:Bs} {ys:List Bs},qax a=xs++[x]->qax b=y::ys->qax (a++b)=xs++(x++y)::ys:=by
 induction a with
 |nil =>
  intro xs x y ys h1 h2;simp only[qax]at h1
  cases xs with
  |nil=>simp at h1;subst h1;simpa using h2
  |cons z zs=>simp at h1
 |cons c r ih =>
  intro xs x y ys h1 h2;simp only[qax]at h1;simp only[List.cons_append,qax]
  by_cases hc:c=47
  ·rw[if_pos hc]at h1 ⊢
   cases xs with
   |nil =>
    simp at h1
    exact absurd h1.2 (qg8 r)
   |cons z zs =>
    simp at h1
    obtain⟨rfl,h1⟩:=h1;rw[ih h1 h2];simp
  ·rw[if_neg hc]at h1 ⊢;obtain⟨h,t,e⟩:=qd3 r;rw[e]at h1
   simp only at h1
   cases xs with
   |nil =>
    simp at h1
    obtain⟨rfl,rfl⟩:=h1;rw[ih (xs:=[]) (x:=h) (by simpa using e) h2];simp
   |cons z zs =>
    simp at h1
    obtain⟨rfl,rfl⟩:=h1;rw[ih (xs:=h::zs) (x:=x) (by simpa using e) h2];simp
theorem qc9(s:Bs)(h:47 ∉ s):qax s=[s]:=by
 induction s with
 |nil=>rfl
 |cons c r ih =>
  simp only[List.mem_cons,not_or]at h;simp only[qax];rw[if_neg (fun e=>h.1 e.symm),ih h.2]
theorem qeg(a b:Bs):qax (a++47::b)=qax a++qax b:=by
 obtain⟨y,ys,hb⟩:=qd3 b;have lX:qax (47::b)=[]::y::ys:=by simp[qax,hb]
 have aW:=qg8 a
 have:qax a=(qax a).dropLast++[(qax a).getLast aW]:=(List.dropLast_concat_getLast aW).symm
 rw[qlw a (47::b) this lX,hb]
 conv=>rhs;rw[this]
 simp
theorem qci(a:Bs)(r:List Bs)(h:r≠[]):qaa (a::r)=a++47::qaa r:=by
 cases r with
 |nil=>exact absurd rfl h
 |cons b t=>rfl
theorem qmr(s:Bs):qaa (qax s)=s:=by
 induction s with
 |nil=>rfl
 |cons c r ih =>
  simp only[qax];obtain⟨h,t,e⟩:=qd3 r
  by_cases hc:c=47
  ·rw[if_pos hc,qci _ _ (qg8 r),ih,hc];rfl
  ·rw[if_neg hc,e];rw[e]at ih
   simp only
   cases t with
   |nil=>simp only[qaa]at ih ⊢;rw[ih]
   |cons b t=>simp only[qaa]at ih ⊢;rw[<-ih];rfl
theorem qft(ks:List Bs)(aW:ks≠[])(h:∀k∈ks,47 ∉ k):qax (qaa ks)=ks:=by
 induction ks with
 |nil=>exact absurd rfl aW
 |cons a r ih =>
  by_cases hr:r=[]
  ·subst hr;simp only[qaa];exact qc9 a (h a (by simp))
  ·rw[qci a r hr,qeg,qc9 a (h a (by simp)),ih hr (fun k hk=>h k (by simp[hk]))];rfl
theorem qsc(c:UInt8)(h:qf3 c=true):c≠47:=by
 intro e;subst e;simp[qf3]at h
theorem qec{n:Bs}(h:qbr n=true):47 ∉ n:=by
 simp only[qbr,Bool.and_eq_true,List.all_eq_true]at h;intro hm
 exact qsc _ (h.2 _ hm) rfl
theorem qtf{n:Bs}(h:qbr n=true):n≠[]:=by
 simp only[qbr,Bool.and_eq_true,decide_eq_true_eq]at h;intro e;subst e;simp at h
theorem qdr{n:Bs}(h:qbr n=true):1<=n.length/\n.length<=4:=by
 simp only[qbr,Bool.and_eq_true,decide_eq_true_eq]at h
 exact h.1
def qbx (k:List Bs):Bool:=k.all qbr
theorem qby{k:List Bs}(h:qbx k=true){n:Bs}(hn:n∈k):qbr n=true:=by
 simp only[qbx,List.all_eq_true]at h;exact h n hn
theorem qcj{k:List Bs}(h:qbx k=true):qaa k=[]↔k=[]:=by
 constructor
 ·intro e
  cases k with
  |nil=>rfl
  |cons a r =>
   exfalso
   by_cases hr:r=[]
   ·subst hr;exact qtf (n:=a) (qby h (by simp)) e
   ·rw[qci a r hr]at e;simp at e
 ·intro e;subst e;rfl
theorem qbi{k:List Bs}(h:qbx k=true):qac (qaa k)=k:=by
 unfold qac
 by_cases hk:k=[]
 ·subst hk;rfl
 ·rw[if_neg (fun e=>hk ((qcj h).1 e))]
  exact qft k hk (fun n hn=>qec (qby h hn))
theorem qfh(s:Bs):qaa (qac s)=s:=by
 unfold qac
 split
 ·rename_i e;subst e;rfl
 ·exact qmr s
theorem qcd{s:Bs}:qar s=qbx (qac s):=rfl
theorem qgv{k:List Bs}(h:qbx k=true)(h':qbx k'=true)(e:qaa k=qaa k'):k=k':=by
 rw[<-qbi h,<- qbi h',e]
theorem qhg(k:List Bs)(n:Bs)(hk:k≠[]):qaa (k++[n])=qaa k++47::n:=by
 induction k with
 |nil=>exact absurd rfl hk
 |cons a r ih =>
  by_cases hr:r=[]
  ·subst hr;rfl
  ·rw[List.cons_append,qci a (r++[n]) (by simp),qci a r hr,ih hr];simp
theorem qea(k r:List Bs)(hk:k≠[])(hr:r≠[]):qaa (k++r)=qaa k++47::qaa r:=by
 induction k with
 |nil=>exact absurd rfl hk
 |cons a t ih =>
  by_cases ht:t=[]
  ·subst ht;simp only[List.cons_append,List.nil_append];rw[qci a r hr];rfl
  ·rw[List.cons_append,qci a (t++r) (by simp[ht]),qci a t ht,ih ht];simp
theorem qg7(s:Bs):(qax s).length=s.count 47+1:=by
 induction s with
 |nil=>rfl
 |cons c r ih =>
  simp only[qax];obtain⟨h,t,e⟩:=qd3 r
  by_cases hc:c=47
  ·rw[if_pos hc];subst hc;simp[ih]
  ·rw[if_neg hc,e];rw[e]at ih;simp at ih ⊢;rw[List.count_cons_of_ne hc];exact ih
def inB (p a:Bs):Bool:=a.isEmpty||decide (p=a)||(decide (a.length<p.length)&&decide (p.take a.length=a)&&decide (p[a.length]?=some 47))
theorem qe1{k a:List Bs}(hk:qbx k=true)(ha:qbx a=true):inB (qaa k) (qaa a)=true↔a <+: k:=by
 unfold inB;simp only[Bool.or_eq_true,Bool.and_eq_true,decide_eq_true_eq]
 constructor
 ·rintro((h|h)|⟨⟨h1,h2⟩,h3⟩)
  ·have:qaa a=[]:=by simpa using h
   rw[qcj ha]at this;subst this;exact List.nil_prefix
  ·rw[qgv hk ha h];exact List.prefix_refl _
  ·-- qaa k=qaa a++47::rest
   have e:qaa k=qaa a++47::(qaa k).drop ((qaa a).length+1):=by
    have h4:=List.take_append_drop (qaa a).length (qaa k);rw[h2]at h4;have h5:(qaa k).drop (qaa a).length=47::(qaa k).drop ((qaa a).length+1):=by
     rw[List.drop_eq_getElem_cons h1]
     have:=xr1 h1
     rw[this]at h3;simp only[Option.some.injEq]at h3;rw[h3]
    rw[h5]at h4;exact h4.symm
   by_cases hka:k=[]
   ·subst hka;simp[qaa]at h1
   by_cases haa:a=[]
   ·subst haa;exact List.nil_prefix
   have s1:=qft k hka (fun n hn=>qec (qby hk hn));rw[e,qeg,qft a haa (fun n hn=>qec (qby ha hn))]at s1
   exact⟨_,s1⟩
 ·rintro⟨r,rfl⟩
  by_cases haa:a=[]
  ·subst haa;left;left;rfl
  by_cases hr:r=[]
  ·subst hr;left;right;simp
  ·right
   rw[qea a r haa hr]
   refine⟨⟨by simp,by simp⟩,by simp⟩
theorem qjx(s:Bs):∀x∈qax s,x.length<=s.length:=by
 induction s with
 |nil=>intro x hx;simp[qax]at hx;subst hx;simp
 |cons c r ih =>
  intro x hx;simp only[qax]at hx;obtain⟨h,t,e⟩:=qd3 r
  by_cases hc:c=47
  ·rw[if_pos hc]at hx
   rcases List.mem_cons.1 hx with rfl|hx
   ·simp
   ·have:=ih x hx;simp;omega
  ·rw[if_neg hc,e]at hx
   rcases List.mem_cons.1 hx with rfl|hx
   ·have:=ih h (by rw[e];simp);simp;omega
   ·have:=ih x (by rw[e];simp[hx]);simp;omega
theorem qju(s:Bs)(x:Bs)(hx:x∈qac s):x.length<=s.length:=by
 unfold qac at hx
 split at hx
 ·simp at hx
 ·exact qjx s x hx
end
section
open Go.RowKit
def bl (s:ByteArray):Bs:=s.data.toList
def sb (l:Bs):ByteArray:=⟨l.toArray⟩
theorem qcl(s:ByteArray):(bl s).length=s.size:=(Lib.size_eq s).symm
theorem qco(l:Bs):(sb l).size=l.length:=by simp[sb,ByteArray.size]
theorem qbs(l:Bs):bl (sb l)=l:=by simp[bl,sb]
theorem qtz(s:ByteArray):sb (bl s)=s:=Lib.mk_data s
theorem qb3(s:ByteArray):s.toList=bl s:=ByteArray.toList_eq s
theorem qd8{a b:ByteArray}(h:bl a=bl b):a=b:=by rw[<-qtz a,h,qtz]
theorem qc6(s:ByteArray)(a b:Nat):bl (s.extract a b)=((bl s).drop a).take (b-a):=Lib.extract_data s a b
theorem qr8(s:ByteArray)(k:Nat)(h:k<s.size):(bl s)[k]'(by rw[qcl];exact h)=s[k]:=rfl
theorem qxd(s:ByteArray)(k:Nat)(h:k<s.size):(bl s).take (k+1)=(bl s).take k++[s[k]]:=by
 rw[xrf (by rw[qcl];exact h)];rfl
theorem qxc(s:ByteArray)(k:Nat)(h:k<s.size):(bl s).drop k=s[k]::(bl s).drop (k+1):=by
 rw[List.drop_eq_getElem_cons (by rw[qcl];exact h)];rfl
theorem ql4(a b:ByteArray):bl (a++b)=bl a++bl b:=by simp[bl]
theorem qws(a b:ByteArray):(a.toList == b.toList)=decide (bl a=bl b):=by
 rw[qb3,qb3];by_cases h:bl a=bl b<;>simp[h]
theorem qhs:bl ⟨#[]⟩=[]:=rfl
theorem quh(a:UInt8)(k:Nat)(hk:k<256):((a.toNat:Int)=k)↔a=UInt8.ofNat k:=by
 constructor
 ·intro h
  have:a.toNat=k:=by omega
  rw[<-this];simp
 ·intro h;subst h
  have:(UInt8.ofNat k).toNat=k:=by simp;omega
  omega
def qnp (l:Bs):Nat:=l.count 47
def qqt (l:Bs):Int:=Lib.indexByte l 47
def cmpB (a b:Bs):Int:=Lib.compareBytes a b
def qd5 (l:Bs):Prop:=47∈l
theorem qyp(s:ByteArray)(w:World):(callFunc 218 #[.string s,.int .u8 47]).run prog w=.ok (.value (.int .i64 (qnp (bl s)))) w:=by
 rw[run_callFunc_extern func218 (by kernel_rfl) (by kernel_rfl) (by kernel_rfl) (e:=Extern.BytealgCount.count) (by kernel_rfl),Lib.run_countString];rfl
theorem qyr(s:ByteArray)(w:World):(callFunc 249 #[.string s,.int .u8 47]).run prog w=.ok (.value (.int .i64 (qqt (bl s)))) w:=by
 rw[run_callFunc_extern func249 (by kernel_rfl) (by kernel_rfl) (by kernel_rfl) (e:=Extern.BytealgIndexByte.indexByte) (by kernel_rfl),Lib.run_indexByteString];rfl
theorem qyq(a b:ByteArray)(w:World):(callFunc 226 #[.string a,.string b]).run prog w=.ok (.value (.int .i64 (cmpB (bl a) (bl b)))) w:=by
 rw[run_callFunc_extern func226 (by kernel_rfl) (by kernel_rfl) (by kernel_rfl) (e:=Extern.BytealgCompare.compare) (by kernel_rfl),Lib.run_compareString];rfl
theorem qnq(a b:ByteArray)(w:World):
  Calls prog 155 #[.string a,.string b] w fun e w'=>e=.returned (.int .i64 (cmpB (bl a) (bl b)))/\w'=w:=by
 have h:=qyq a b
 go_enter func155,ntmps155
 go_wp2
 go_ret
 exact⟨rfl,rfl⟩
theorem qsf(s:ByteArray)(w:World):
  Calls prog 181 #[.string s,.string ⟨#[47]⟩] w fun e w'=>e=.returned (.int .i64 (qnp (bl s)))/\w'=w:=by
 have h:=qyp s;have hz:(⟨#[47]⟩:ByteArray).size=1:=rfl;have i0:∀w,(Instr.index 9 (.string ⟨#[47]⟩) (.int .i64 0)).run prog w=.ok (.int .u8 47) w:=fun _=>by kernel_rfl
 go_enter func181,ntmps181
 go_wp2
 go_ret
 exact⟨rfl,rfl⟩
theorem qmn(s:ByteArray)(w:World):
  Calls prog 219 #[.string s,.string ⟨#[47]⟩] w fun e w'=>e=.returned (.int .i64 (qqt (bl s)))/\w'=w:=by
 have h:=qyr s;have hz:(⟨#[47]⟩:ByteArray).size=1:=rfl;have i0:∀w,(Instr.index 9 (.string ⟨#[47]⟩) (.int .i64 0)).run prog w=.ok (.int .u8 47) w:=fun _=>by kernel_rfl
 have hq:∀x,(([47]:List UInt8) == s.toList)=true->x=(0:Int)->x=qqt (bl s):=fun x h e=>by
  rw[qb3]at h
  have:bl s=[47]:=by simpa using (by simpa using h:[47]=bl s).symm
  rw[this,e];rfl
 go_enter func219,ntmps219
 go_wp2
 all_goals go_ret
 all_goals first|exact⟨rfl,rfl⟩|exact⟨qhl (hq 0 ‹_› rfl),rfl⟩
theorem qmu(s:ByteArray)(w:World)(hs:s.size<=maxLen):
  Calls prog 183 #[.string s,.int .u8 47] w fun e w'=>(∃r:Int,e=.returned (.int .i64 r)/\((r = -1/\¬qd5 (bl s))\/∃k:Nat,r=k/\k<s.size/\bl s=(bl s).take k++47::(bl s).drop (k+1)/\¬qd5 ((bl s).drop (k+1))))/\w'=w:=by
 unfold maxLen at hs
 go_enter func183,ntmps183
 go_wp2
 go_loop [5] (fun i=>∃k:Nat,k<=s.size/\i=.int .i64 ((k:Int)-1)/\¬qd5 ((bl s).drop k)) (fun i=>(intOf i+1).toNat)
 case atStart=>exact⟨s.size,Nat.le_refl _,rfl,by rw[<-qcl,List.drop_length];exact List.not_mem_nil⟩
 case round =>
  obtain⟨k,hk,rfl,hn⟩:=hrel
  cases k with
  |zero =>
   go_wp2
   go_ret
   exact⟨⟨-1,rfl,.inl ⟨rfl,by simpa using hn⟩⟩,rfl⟩
  |succ k =>
   have e1:((k+1:Nat):Int)-1=k:=by omega
   rw[e1];have ak:k<s.size:=by omega
   have hd:=qxc s k ak;have HD:Hid ((bl s).drop k=s[k]::(bl s).drop (k+1)):=hd;clear hd
   by_cases lX:s[k]=47
   ·have Aa:Hid (s[k]=47):=lX;have hb:((s[k].toNat:Int) == 47)=true:=by rw[lX];rfl
    clear lX
    go_wp2
    go_ret
    refine⟨⟨k,rfl,.inr ⟨k,rfl,ak,?_,hn⟩⟩,rfl⟩
    conv=>lhs;rw[<-List.take_append_drop k (bl s),HD.out,Aa.out]
   ·have hb:((s[k].toNat:Int) == 47)=false:=by
     have:=mt (quh s[k] 47 (by omega)).1 lX
     simpa using this
    go_wp2
    go_round
    case rel =>
     refine⟨k,by omega,by go_num,?_⟩
     rw[HD.out];intro hm
     rcases List.mem_cons.1 hm with h|h
     ·exact lX h.symm
     ·exact hn h
    case measure=>simp[intOf]
theorem qll(s:ByteArray)(w:World)(hs:s.size<=maxLen):
  Calls prog 136 #[.string s,.string ⟨#[47]⟩] w fun e w'=>(∃r:Int,e=.returned (.int .i64 r)/\((r = -1/\¬qd5 (bl s))\/∃k:Nat,r=k/\k<s.size/\bl s=(bl s).take k++47::(bl s).drop (k+1)/\¬qd5 ((bl s).drop (k+1))))/\w'=w:=by
 have hz:(⟨#[47]⟩:ByteArray).size=1:=rfl;have i0:∀w,(Instr.index 9 (.string ⟨#[47]⟩) (.int .i64 0)).run prog w=.ok (.int .u8 47) w:=fun _=>by kernel_rfl
 go_enter func136,ntmps136
 go_wp2_with (go_at_call 183;refine(qmu _ _ hs).mono ?_;rintro e w1 ⟨⟨r,rfl,hr⟩,rfl⟩)
 go_ret
 exact⟨⟨r,rfl,hr⟩,rfl⟩
theorem qp7(c:UInt8):qf3 c=(decide (97<=(c.toNat:Int))&&decide ((c.toNat:Int)<=122)):=by
 rw[Bool.eq_iff_iff];simp[qf3,UInt8.le_iff_toNat_le];omega
theorem qly(s:ByteArray)(w:World)(hs:s.size<=maxLen):
  Calls prog 103 #[.string s] w fun e w'=>e=.returned (.bool (qbr (bl s)))/\w'=w:=by
 unfold maxLen at hs
 by_cases hL:1<=s.size/\s.size<=4
 ·obtain⟨pI,Ek⟩:=hL
  go_enter func103,ntmps103
  go_wp2
  go_loop [14] (fun i=>∃k:Nat,k<=s.size/\i=.int .i64 k/\((bl s).take k).all qf3=true) (fun i=>s.size-(intOf i).toNat)
  case atStart=>exact⟨0,Nat.zero_le _,rfl,rfl⟩
  case round =>
   obtain⟨k,hk,rfl,hn⟩:=hrel
   by_cases ak:k<s.size
   ·have HD:Hid ((bl s).take (k+1)=(bl s).take k++[s[k]]):=qxd s k ak;have HC:Hid (qf3 s[k]=(decide (97<=(s[k].toNat:Int))&&decide ((s[k].toNat:Int)<=122))):=qp7 _;have HN:Hid (((bl s).take k).all qf3=true):=hn;clear hn;have qQ:qf3 s[k]=false->qbr (bl s)=false:=fun h=>by
     have:(bl s).all qf3=false:=by
      rw[List.all_eq_false]
      exact⟨s[k],by rw[<-qr8 s k ak];exact List.getElem_mem _,by simp[h]⟩
     simp[qbr,this]
    go_wp2
    ·go_ret
     exact⟨qbt (qQ (by rw[HC.out];simp;omega)).symm,rfl⟩
    ·go_round
     case rel=>exact⟨k+1,by omega,by go_num,by rw[HD.out,List.all_append,HN.out];simp only[List.all_cons,List.all_nil];rw[HC.out];simp;omega⟩
     case measure=>simp[intOf];omega
    ·go_ret
     exact⟨qbt (qQ (by rw[HC.out];simp;omega)).symm,rfl⟩
   ·go_wp2
    go_ret
    have:k=s.size:=by omega
    subst this;rw[xrd (by rw[qcl];omega)]at hn
    exact⟨qbt (by simp[qbr,hn,qcl];omega),rfl⟩
 ·have hz:qbr (bl s)=false:=by
   simp only[qbr,qcl]
   have:¬(1<=s.size)\/¬(s.size<=4):=by omega
   rcases this with h|h<;>simp[h]
  rw[hz]
  go_enter func103,ntmps103
  go_wp2
  all_goals first|(exfalso;omega)|(go_ret;exact⟨rfl,rfl⟩)
theorem qse(s:ByteArray)(w:World)(rE:s.size<=100000):
  Calls prog 166 #[.string s] w fun e w'=>e=.returned (.string s)/\Below w.heap.size w w':=by
 by_cases h0:s.size=0
 ·have hs:s=⟨#[]⟩:=by
   apply ByteArray.ext
   exact Array.eq_empty_of_size_eq_zero h0
  subst hs
  go_enter func166,ntmps166
  go_wp2
  go_ret
  exact⟨rfl,Below.refl _ _⟩
 ·have wy:(prog.info? 5).map (fun i=>(i.zero,i.size,i.bytes))=some (some (.int .u8 0),1,1):=by kernel_rfl
  obtain⟨i0,hi,fM,dz,fq⟩:=info_parts wy;have ru:(prog.info? 5).map (·.size)=some 1:=by rw[hi];simp[dz]
  have nL:prog.cellsOf 5=1:=by kernel_rfl
  obtain⟨M,hM⟩:∃M,M=madeCells (Value.int .u8 0).cells (((s.size:Nat):Int).toNat*i0.size):=⟨_,rfl⟩;have El:M.size=s.size:=by rw[hM,size_madeCells,dz];simp
  have df:∀W:World,(Instr.makeSlice 244 (.int .i64 (s.size:Int)) (.int .i64 (s.size:Int))).run prog W=.ok (.slice (some ⟨W.heap.size,0,none⟩) s.size s.size) (W.alloc (.cells M 5)):=fun W=>by
   have h:=run_make (P:=prog) W 244 5 i0 (.int .u8 0) underlying244 hi fM .i64 .i64 (s.size:Int) (s.size:Int) (by omega) (by omega) (by rw[fq];omega) (by omega);rw[<-hM]at h
   simpa using h
  clear hM;have zb:=Lib.run_copy_row_string (P:=prog) (w.alloc (.cells M 5)) 244 9 3 5 w.heap.size 0 s.size s.size s M 5 underlying244 ru (heap_alloc_new w _) (Nat.le_refl _) (by omega);obtain⟨Y,hY⟩:∃Y,Y=(M.toList.take 0++Lib.byteCells s.data.toList++M.toList.drop (0+s.size)).toArray:=⟨_,rfl⟩;rw[<-hY]at zb;have yT:Y.toList=Lib.byteCells s.data.toList:=by
   rw[hY,List.toList_toArray,List.take_zero,List.nil_append,List.drop_of_length_le (by rw[Array.length_toList];omega),List.append_nil]
  have En:Y.size=s.size:=by rw[<-Array.length_toList,yT,Lib.byteCells_length,<- Lib.size_eq]
  have zg:((w.alloc (.cells M 5)).setRow w.heap.size Y).heap[w.heap.size]?=some (.cells Y 5 (0,0)):=setRow_heap _ _ M _ 5 (0,0) (heap_alloc_new w _);have aW:s.data.toList≠[]:=fun e=>h0 (by rw[Lib.size_eq,e];rfl)
  have Bj:=Lib.run_unsafeString_row (P:=prog) ((w.alloc (.cells M 5)).setRow w.heap.size Y) 245 3 9 5 underlying245 nL w.heap.size Y.size (by unfold World.shape?;rw[zg]) s.data.toList aW (by rw[<-Lib.size_eq];omega) (by rw[<-Lib.size_eq];omega)
   (fun j x hx=>Lib.cells_of_row zg Y.size j _ (by rw[xrd (by rw[Array.length_toList];exact Nat.le_refl _),yT];simp[Lib.byteCells,hx]))
  rw[<-Lib.size_eq]at Bj;clear hY
  go_enter func166,ntmps166
  go_wp2
  go_ret
  have aa:Below w.heap.size w (w.alloc (.cells M 5)):=(Below.refl _ w).alloc (Nat.le_refl _) _;have ag:Below w.heap.size (w.alloc (.cells M 5)) ((w.alloc (.cells M 5)).setRow w.heap.size Y):=⟨rfl,rfl,rfl,by simp,fun k hk=>setRow_other _ _ _ _ (by omega)⟩
  exact⟨rfl,Lib.below_freeze (aa.trans ag) (p:=⟨w.heap.size,0,none⟩) (Nat.le_refl _) _⟩
theorem qhn(s:ByteArray)(w:World)(rE:s.size<=100000):
  Calls prog 129 #[.string s] w fun e w'=>e=.returned (.string s)/\Below w.heap.size w w':=by
 go_enter func129,ntmps129
 go_wp2_with (go_at_call 166;refine(qse _ _ rE).mono ?_;rintro e w1 ⟨rfl,aa⟩)
 go_ret
 exact⟨rfl,aa⟩
def qep (l:Bs):Nat:=(qac l).length
theorem qsg(l:Bs)(h:l≠[]):qep l=qnp l+1:=by
 unfold qep qac qnp;rw[if_neg h,qg7]
theorem qma(s:ByteArray)(w:World)(hs:s.size<=2000000):
  Calls prog 134 #[.string s] w fun e w'=>e=.returned (.int .i64 (qep (bl s)))/\w'=w:=by
 have hc:qnp (bl s)<=s.size:=by rw[<-qcl];exact List.count_le_length
 by_cases h0:bl s=[]
 ·have hz:s=⟨#[]⟩:=qd8 (h0.trans qhs.symm);subst hz
  go_enter func134,ntmps134
  go_wp2
  go_ret
  exact⟨rfl,rfl⟩
 ·have hq:(s.toList.isEmpty)=false:=by rw[qb3];simpa using h0
  have HD:Hid (qep (bl s)=qnp (bl s)+1):=qsg _ h0;have hb:qnp (bl s)<=2000000:=by omega
  go_enter func134,ntmps134
  go_wp2_with (go_at_call 181;refine(qsf _ _).mono ?_;rintro e w1 ⟨rfl,rfl⟩)
  go_ret
  exact⟨qhl (by rw[HD.out];rfl),rfl⟩
theorem qvh(a b:ByteArray)(w:World)(ha:a.size<=1000)(hb:b.size<=1000):
  Calls prog 78 #[.string a,.string b] w fun e w'=>e=.returned (.string (if bl a=[] then b else sb (bl a++47::bl b)))/\Below w.heap.size w w':=by
 by_cases h0:bl a=[]
 ·have hz:a=⟨#[]⟩:=qd8 (h0.trans qhs.symm);rw[if_pos h0];subst hz
  go_enter func78,ntmps78
  go_wp2_with (go_at_call 129;refine(qhn _ _ (by omega)).mono ?_;rintro e w1 ⟨rfl,aa⟩)
  go_ret
  exact⟨rfl,aa⟩
 ·rw[if_neg h0];have hq:(a.toList.isEmpty)=false:=by rw[qb3];simpa using h0
  go_enter func78,ntmps78
  go_wp2
  go_ret
  exact⟨qx1 (qd8 (by rw[ql4,ql4,qbs];simp[bl])),Below.refl _ _⟩
theorem qxm(p a:ByteArray):inB (bl p) (bl a)=(a.toList.isEmpty||(p.toList == a.toList)||(decide (a.size<p.size)&&((p.extract 0 a.size).toList == a.toList)&&(if h:a.size<p.size then((p[a.size].toNat:Int) == 47) else false))):=by
 unfold inB;rw[qws,qws,qb3 a,qc6]
 congr 1
 by_cases h:a.size<p.size
 ·have h1:(bl p)[(bl a).length]?=some p[a.size]:=by
   rw[qcl,xr1 (by rw[qcl];exact h),qr8]
  have h2:(((p[a.size].toNat:Int)) == 47)=decide (p[a.size]=47):=by
   rw[Bool.eq_iff_iff];simp only[beq_iff_eq,decide_eq_true_eq]
   exact quh _ 47 (by omega)
  rw[dif_pos h,h1,h2];simp only[qcl,h,List.drop_zero,Nat.sub_zero,Option.some.injEq]
 ·simp[qcl,h]
theorem qt6(s:ByteArray)(w:World)(hs:s.size<=2000000):
  Calls prog 81 #[.string s] w fun e w'=>(∃a b:ByteArray,e=.returned (.tuple #[.string a,.string b]) /\
   ((¬qd5 (bl s)/\bl a=[]/\bl b=bl s)\/(bl s=bl a++47::bl b/\¬qd5 (bl b))))/\(∃n,w'=w.drewN n):=by
 go_enter func81,ntmps81
 go_wp2_with (go_at_call 136;refine(qll _ _ (by unfold maxLen;omega)).mono ?_;rintro e w1 ⟨⟨r,rfl,(⟨rfl,hn⟩|⟨k,rfl,hk,he,hn⟩)⟩,rfl⟩)
 ·go_ret2
  exact⟨⟨⟨#[]⟩,s,rfl,.inl ⟨hn,rfl,rfl⟩⟩,0,rfl⟩
 ·have HE:Hid (bl s=List.take k (bl s)++47::List.drop (k+1) (bl s)):=he;have HK:Hid (k<s.size):=hk;clear he;have h1:(k:Int)<=s.size:=by omega
  have h2:(k:Int)+1<=s.size:=by omega
  go_quiet (fail)
  go_wp2
  go_ret2
  refine⟨⟨s.extract 0 k,s.extract (k+1) s.size,rfl,.inr ⟨?_,?_⟩⟩,_,rfl⟩
  ·rw[qc6,qc6]
   conv=>lhs;rw[HE.out]
   have:((bl s).drop (k+1)).take (s.size-(k+1))=(bl s).drop (k+1):=xrd (by rw[List.length_drop,qcl];omega)
   rw[this];simp
  ·rw[qc6]
   have:((bl s).drop (k+1)).take (s.size-(k+1))=(bl s).drop (k+1):=xrd (by rw[List.length_drop,qcl];omega)
   rw[this];exact hn
theorem qtg(s:ByteArray)(w:World):
  Calls prog 102 #[.string s] w fun e w'=>(bl s=[]/\e=.returned (.func (.func 151) #[] #[])/\w'=w) \/
   (bl s≠[]/\e=.returned (.func (.func 224) #[] #[.pointer (some ⟨w.heap.size+1,0,none⟩),.pointer (some ⟨w.heap.size,0,none⟩),.pointer (some ⟨w.heap.size+2,0,none⟩)]) /\
    w'=((w.alloc (.cells #[.string s] 9)).alloc (.cells #[.string ⟨#[47]⟩] 9)).alloc (.cells #[.int .i64 0] 3)):=by
 have jL:∀(fn:Fn) (first cap:Array Value) (w:World),(Instr.makeFunc fn first cap).run prog w=.ok (.func fn first cap) w:=fun _ _ _ _=>rfl
 by_cases h0:bl s=[]
 ·have hz:s=⟨#[]⟩:=qd8 (h0.trans qhs.symm);subst hz
  go_enter func102,ntmps102
  go_wp2
  go_ret
  exact .inl ⟨rfl,rfl,rfl⟩
 ·have hq:(s.toList.isEmpty)=false:=by rw[qb3];simpa using h0
  go_enter func102,ntmps102
  go_wp2
  go_ret
  exact .inr ⟨h0,rfl,rfl⟩
end
section
open Go.RowKit Go.Shelf
variable {S T T':Nat->Prop}{w w' w0:World}{B gf:Nat}{P:Program}{lb:Array Value}
structure Keep (T:Nat->Prop) (w w':World):Prop where
 os:w'.os=w.os
 tape:w'.tape=w.tape
 output:w'.output=w.output
 size:w.heap.size<=w'.heap.size
 block:∀k,k<w.heap.size->¬T k->w'.heap[k]?=w.heap[k]?
namespace Keep
theorem refl(T:Nat->Prop)(w:World):Keep T w w:=⟨rfl,rfl,rfl,Nat.le_refl _,fun _ _ _=>rfl⟩
theorem trans{a b c:World}(h:Keep T a b)(k:Keep T b c):Keep T a c :=
 ⟨k.os.trans h.os,k.tape.trans h.tape,k.output.trans h.output,Nat.le_trans h.size k.size,fun i hi ht=>(k.block i (xrg hi h.size) ht).trans (h.block i hi ht)⟩
theorem mono(h:Keep T w w')(ht:∀b,T b->T' b):Keep T' w w' :=
 ⟨h.os,h.tape,h.output,h.size,fun k hk hn=>h.block k hk (fun e=>hn (ht k e))⟩
theorem qkm(h:Keep T w w')(ht:∀b,b<w.heap.size->T b->T' b):Keep T' w w' :=
 ⟨h.os,h.tape,h.output,h.size,fun k hk hn=>h.block k hk (fun e=>hn (ht k hk e))⟩
theorem drew{a:World}(h:Keep T a w):Keep T a w.drew:=⟨h.os,h.tape,h.output,h.size,h.block⟩
theorem drewN{a:World}(h:Keep T a w)(n:Nat):Keep T a (w.drewN n):=h.trans ⟨rfl,rfl,rfl,Nat.le_refl _,fun _ _ _=>rfl⟩
theorem qxy(h:Below B w w')(ht:∀b,B<=b->b<w.heap.size->T b):Keep T w w' :=
 ⟨h.os,h.tape,h.output,h.size,fun k hk hn=>h.block k (by
  rcases Nat.lt_or_ge k B with h1|h1
  ·exact h1
  ·exact absurd (ht k h1 hk) hn)⟩
theorem toBelow(h:Keep T w w')(hB:B<=w.heap.size)(ht:∀b,b<B->¬T b):Below B w w' :=
 ⟨h.os,h.tape,h.output,h.size,fun k hk=>h.block k (by omega) (ht k hk)⟩
theorem new(h:Below w.heap.size w w'):Keep T w w':=qxy h (fun b h1 h2=>by omega)
theorem alloc{a:World}(h:Keep T a w)(o:Obj):Keep T a (w.alloc o) :=
 h.trans (new ((Below.refl _ _).alloc (Nat.le_refl _) _))
theorem setCell{a:World}(h:Keep T a w){p:Addr}(hp:T p.block)(u:Value):Keep T a (w.setCell p u) :=
 h.trans ⟨rfl,rfl,rfl,by simp[World.setCell],fun k hk hn=>Below.heap_setCell _ _ _ _ (fun e=>hn (e ▸ hp))⟩
theorem putObj{a:World}(h:Keep T a w){l:Nat}(hp:T l)(o:Obj):Keep T a (w.putObj l o) :=
 h.trans ⟨rfl,rfl,rfl,by simp,fun k hk hn=>World.putObj_heap_other (fun e=>hn (e ▸ hp))⟩
theorem grown{a:World}{row:Option Nat}(h:Keep T a w)(hg:w.grownBy w' row)(hr:∀k,row=some k->T k):Keep T a w' :=
 h.trans ⟨hg.os,hg.tape,hg.output,hg.size,fun k hk hn=>hg.block k hk (fun e=>hn (hr k e.symm))⟩
theorem cell(h:Keep T w w'){p:Addr}(hp:p.block<w.heap.size)(ht:¬T p.block):w'.cell? p=w.cell? p:=World.cell?_of_block (w:=w) (h.block p.block hp ht)
theorem frozen(h:Keep T w w'){p:Addr}(hp:p.block<w.heap.size)(ht:¬T p.block):w'.frozen? p=w.frozen? p:=World.frozen?_of_block (w:=w) (h.block p.block hp ht)
end Keep
def Box (W:World)(b:Nat)(t:TypeId)(v:Value):Prop:=W.heap[b]?=some (.cells #[v] t (0,0))
namespace Box
variable {W W':World}{b:Nat}{t:TypeId}{v u:Value}
theorem lt(h:Box W b t v):b<W.heap.size:=(xrc.1 h).1
theorem cell(h:Box W b t v):W.cell? ⟨b,0,none⟩=some v:=by unfold World.cell?;rw[show W.heap[(⟨b,0,none⟩:Addr).block]?=_ from h];rfl
theorem frozen(h:Box W b t v):W.frozen? ⟨b,0,none⟩=false:=by unfold World.frozen?;rw[show W.heap[(⟨b,0,none⟩:Addr).block]?=_ from h];rfl
theorem keep(h:Box W b t v)(k:Keep T W W')(hT:¬T b):Box W' b t v:=(k.block b h.lt hT).trans h
theorem below(h:Box W b t v)(k:Below B W W')(hB:b<B):Box W' b t v:=(k.block b hB).trans h
theorem alloc(h:Box W b t v)(o:Obj):Box (W.alloc o) b t v:=(Below.heap_alloc W o b h.lt).trans h
theorem other(h:Box W b t v)(p:Addr)(u:Value)(hp:b≠p.block):Box (W.setCell p u) b t v:=(Below.heap_setCell W p u b hp).trans h
theorem set(h:Box W b t v)(u:Value):Box (W.setCell ⟨b,0,none⟩ u) b t u:=by
 unfold Box at *;have hl:=(xrc.1 h).1;simp only[World.setCell];rw[Array.getElem?_modify,if_pos rfl,h]
 rfl
theorem new(W:World)(t:TypeId)(v:Value):Box (W.alloc (.cells #[v] t)) W.heap.size t v:=World.alloc_heap_new W _
end Box
def Blk (W:World)(b:Nat)(t:TypeId)(vs:Array Value):Prop:=W.heap[b]?=some (.cells vs t (0,0))
namespace Blk
variable {W W':World}{b:Nat}{t:TypeId}{vs:Array Value}
theorem lt(h:Blk W b t vs):b<W.heap.size:=(xrc.1 h).1
theorem cell(h:Blk W b t vs)(i:Nat):W.cell? ⟨b,i,none⟩=vs[i]?:=by unfold World.cell?;rw[show W.heap[(⟨b,i,none⟩:Addr).block]?=_ from h];rfl
theorem frozen(h:Blk W b t vs)(i:Nat):W.frozen? ⟨b,i,none⟩=false:=by unfold World.frozen?;rw[show W.heap[(⟨b,i,none⟩:Addr).block]?=_ from h];simp
theorem keep(h:Blk W b t vs)(k:Keep T W W')(hT:¬T b):Blk W' b t vs:=(k.block b h.lt hT).trans h
theorem below(h:Blk W b t vs)(k:Below B W W')(hB:b<B):Blk W' b t vs:=(k.block b hB).trans h
theorem alloc(h:Blk W b t vs)(o:Obj):Blk (W.alloc o) b t vs:=(Below.heap_alloc W o b h.lt).trans h
theorem other(h:Blk W b t vs)(p:Addr)(u:Value)(hp:b≠p.block):Blk (W.setCell p u) b t vs:=(Below.heap_setCell W p u b hp).trans h
theorem put(h:Blk W b t vs)(D:Nat)(o:Obj)(hD:b≠D):Blk (W.putObj D o) b t vs:=(World.putObj_heap_other hD).trans h
theorem set(h:Blk W b t vs)(i:Nat)(u:Value):Blk (W.setCell ⟨b,i,none⟩ u) b t (vs.setIfInBounds i u):=by
 unfold Blk at *;simp only[World.setCell];rw[Array.getElem?_modify,if_pos rfl,h]
 rfl
theorem new(W:World)(t:TypeId)(vs:Array Value):Blk (W.alloc (.cells vs t)) W.heap.size t vs:=World.alloc_heap_new W _
theorem drew(h:Blk W b t vs):Blk W.drew b t vs:=h
theorem drewN(h:Blk W b t vs)(n:Nat):Blk (W.drewN n) b t vs:=h
end Blk
def SeqK {α : Type}(P:Program)(g:Nat)(lb:Array Value)(enc : α -> Value)(S T:Nat->Prop)(xs:List α)(w:World):Prop :=
 ∀(n l:Nat) (J Jx:List α -> World->Prop) (W:World),Below w.heap.size w W->w.heap.size<=l ->
  (∀s A B,J s A->Keep S A B->J s B)->(∀s A B,Jx s A->Keep S A B->Jx s B) ->
  (∀m pre x W1,J pre W1->pre++[x] <+: xs->YieldAt Fence.wide m P l #[enc x] W1 fun e W' =>
   (e=.returned (.bool true)/\J (pre++[x]) W'/\Keep T W1 W')\/(e=.returned (.bool false)/\Jx (pre++[x]) W')) ->
  J [] W ->
  CallsIn Fence.wide n P g (#[.func (.yield l) #[] #[]]++lb) W fun e W'=>(∃v,e=.returned v)/\(J xs W'\/(∃pre,pre <+: xs/\Jx pre W'))
def qw4 {α : Type}(T:Nat->Prop)(I:List α -> World->Prop)(Ix:Code->List α -> World->Prop)(xs:List α)(W:World):Exit->Act->World->Prop
 | .normal,_,W'=>Keep T W W'/\I xs W'
 | .ret,_,W'=>Keep T W W'/\Ix .ret xs W'
 | .exit id,_,W'=>Keep T W W'/\Ix (.exit id) xs W'
 | .goto t,_,W'=>Keep T W W'/\Ix (.goto t) xs W'
 | .panic _,_,_=>False
 | .outgrown,_,_=>False
theorem qfo{α : Type}{g:Operand}{ps:Array Tmp}{assign body:Code}{Q:Exit->Act->World->Prop}{a:Act}{n:Nat}
  (hg:a.eval g=.func (.func gf) #[] lb) (eg:∀args w,(callFunc gf args).run P w=.ok (.enter gf args) w)
  {enc : α -> Value} {xs:List α} (aB:SeqK P gf lb enc S (fun b=>T b\/w.heap.size<=b) xs w0) (cN:Below w0.heap.size w0 w) (dg:ps.size=1)
  (hS:∀b,S b->b<w.heap.size) (hT:∀b,T b->b<w.heap.size)
  (I:List α -> World->Prop) (Ix:Code->List α -> World->Prop)
  (hI:∀s A B,I s A->Keep (fun b=>S b\/w.heap.size<=b) A B->I s B) (kE:∀c s A B,Ix c s A->Keep (fun b=>S b\/w.heap.size<=b) A B->Ix c s B)
  (h0:I [] w) (a₁ : α -> Act)
  (gJ:∀(l:Nat) (x : α) (W:World) (K:Act->World->Prop),K (a₁ x) W ->
   assign.wpIn (Fence.wide.inRound l) n P (Exit.then K (fun _ _ _=>False)) {tmps:=(ps.zip #[enc x]).foldl (fun t (p,v)=>t.setIfInBounds p v) a.tmps,defers:=[]} W)
  (kQ:∀(l:Nat) (pre:List α) (x : α) (W:World),I pre W->w.heap.size<=W.heap.size->pre++[x] <+: xs->body.wpIn (Fence.wide.inRound l) n P (qw4 T I Ix (pre++[x]) W) (a₁ x) W)
  (kS:∀(W:World),I xs W->W.heap[w.heap.size]?=some (.deferred (some []))->Q .normal {a with defers:={target:=.collected w.heap.size,args:=#[]}::a.defers} W)
  (lI:∀(c:Code) (pre:List α) (W:World),pre <+: xs->Ix c pre W->W.heap[w.heap.size]?=some (.deferred (some []))->c.wpIn Fence.wide n P Q {a with defers:={target:=.collected w.heap.size,args:=#[]}::a.defers} W) :
  (Code.rangeFunc g ps assign body).wpIn Fence.wide n P Q a w:=by
 have dH:∀m,Fence.wide.depth.isSome=true->1<=m:=fun m h=>by simp[Fence.wide]at h
 refine wpIn_rangeFunc fun fn _=>?_
 obtain⟨rc,gV⟩:∃rc:LoopState->Option Code->Loop,rc=fun st pe=>{state:=st,pending:=pe,fn,tmps:=a.tmps,params:=ps,assign,body,defers:=w.heap.size}:=⟨_,rfl⟩
 obtain⟨W1,dt⟩:∃W1,(w.alloc (.deferred (some []))).alloc (.loop (rc .ready none))=W1:=⟨_,rfl⟩;have pI:W1.heap[w.heap.size+1]?=some (.loop (rc .ready none)):=by
  rw[<-dt];have:=World.alloc_heap_new (w.alloc (.deferred (some []))) (.loop (rc .ready none));rwa[xrt]at this
 have dD:W1.heap[w.heap.size]?=some (.deferred (some [])):=by
  rw[<-dt];exact(Below.heap_alloc _ _ _ (by simp)).trans (World.alloc_heap_new w _)
 have bZ:Below w.heap.size w W1:=by rw[<-dt];exact((Below.refl _ w).alloc (Nat.le_refl _) _).alloc (by simp) _
 have qD:I [] W1:=hI _ _ _ h0 (Keep.new bZ);have aa:Below w0.heap.size w0 W1:=cN.trans (bZ.mono cN.size);have eB:∀ {A B:World} {k:Nat} {o:Obj},Keep S A B->w.heap.size<=k->A.heap[k]?=some o->B.heap[k]?=some o:=fun {A B k o} hk dn ho=>by
  rw[hk.block k (xrc.1 ho).1 (fun hs=>by have:=hS k hs;omega)];exact ho
 refine⟨w.heap.size+1,[{target:=.collected w.heap.size,args:=#[]}],W1,{target:=.fn (.func gf) lb,args:=#[.func (.yield (w.heap.size+1)) #[] #[]]},W1,gf,
  #[.func (.yield (w.heap.size+1)) #[] #[]]++lb,W1,?_,?_,?_,?_,dH _,?_⟩
 ·rw[<-dt,gV];exact run_enterLoop_outer _ _ _ _ _
 ·simp only[resolve,hg];simp[go_sem]
 ·intro f' _;trivial
 ·simp[invoke,go_sem,eg]
 refine(aB (n-1) (w.heap.size+1)
  (fun pre W=>I pre W/\W.heap[w.heap.size+1]?=some (.loop (rc .ready none))/\W.heap[w.heap.size]?=some (.deferred (some [])))
  (fun pre W=>∃c,Ix c pre W/\W.heap[w.heap.size+1]?=some (.loop (rc .done (some c)))/\W.heap[w.heap.size]?=some (.deferred (some [])))
  W1 aa (by have:=cN.size;omega)
  (fun s A B hs hk=>⟨hI s A B hs.1 (hk.mono fun b h=>.inl h),eB hk (by omega) hs.2.1,eB hk (by omega) hs.2.2⟩)
  (fun s A B hs hk=>by
   obtain⟨c,h1,h2,h3⟩:=hs
   exact⟨c,kE c s A B h1 (hk.mono fun b h=>.inl h),eB hk (by omega) h2,eB hk (by omega) h3⟩)
  ?_ ⟨qD,pI,dD⟩).mono ?_
 ·rintro m pre x W ⟨hi,hl,hk⟩ ax
  have ak:w.heap.size+1<W.heap.size:=(xrc.1 hl).1;have hy:=run_yield (P:=P) (args:=#[enc x]) hl (by rw[gV];simp[dg]);rw[gV]at hy
  refine⟨fn,_,assign,body,hy,?_⟩
  obtain⟨Wb,j9⟩:∃Wb,W.putObj (w.heap.size+1) (.loop {rc .ready none with state:=.busy})=Wb:=⟨_,rfl⟩;have wG:Keep (fun b=>T b\/w.heap.size<=b) W Wb:=by rw[<-j9];exact(Keep.refl _ _).putObj (.inr (by omega)) _
  have oM:Keep (fun b=>S b\/w.heap.size<=b) W Wb:=by rw[<-j9];exact(Keep.refl _ _).putObj (.inr (by omega)) _
  have fZ:Wb.heap[w.heap.size+1]?=some (.loop {rc .ready none with state:=.busy}):=by rw[<-j9];exact World.putObj_heap_same ak
  have aY:Wb.heap[w.heap.size]?=some (.deferred (some [])):=by rw[<-j9];exact(World.putObj_heap_other (by omega)).trans hk
  have fK:RoundIn Fence.wide n P (w.heap.size+1) fn ((ps.zip #[enc x]).foldl (fun t (p,v)=>t.setIfInBounds p v) a.tmps) assign body W fun e W' =>
    (e=.returned (.bool true)/\(I (pre++[x]) W'/\W'.heap[w.heap.size+1]?=some (.loop (rc .ready none))/\W'.heap[w.heap.size]?=some (.deferred (some [])))/\Keep (fun b=>T b\/w.heap.size<=b) W W') \/
    (e=.returned (.bool false)/\∃c,Ix c (pre++[x]) W'/\W'.heap[w.heap.size+1]?=some (.loop (rc .done (some c)))/\W'.heap[w.heap.size]?=some (.deferred (some []))):=by
   refine roundIn_of_wpIn trivial (gJ _ x W _ ⟨Wb,by rw[<-j9];exact run_beginRound hl (by rw[gV]),?_⟩)
   have cY:w.heap.size<=Wb.heap.size:=by rw[<-j9];simp;omega
   refine wpIn_mono (kQ _ pre x Wb (hI _ _ _ hi oM) cY ax) ?_
   have aT:∀(eP:Option Code) (W3:World),Keep T Wb W3 ->
     ∃W4,(Instr.endRound (w.heap.size+1) eP).run P W3=.ok (.bool eP.isNone) W4/\Keep (fun b=>S b\/w.heap.size<=b) W3 W4/\Keep (fun b=>T b\/w.heap.size<=b) W W4 /\
     W4.heap[w.heap.size+1]?=some (.loop (rc (if eP.isNone then .ready else .done) eP))/\W4.heap[w.heap.size]?=some (.deferred (some [])):=fun eP W3 bW=>by
    have oQ:W3.heap[w.heap.size+1]?=some (.loop {rc .ready none with state:=.busy}):=by
     rw[bW.block _ (xrc.1 fZ).1 (fun ht=>by have:=hT _ ht;omega)];exact fZ
    have qX:W3.heap[w.heap.size]?=some (.deferred (some [])):=by
     rw[bW.block _ (xrc.1 aY).1 (fun ht=>by have:=hT _ ht;omega)];exact aY
    have hr:=run_endRound (P:=P) eP oQ
    refine⟨_,hr,(Keep.refl _ _).putObj (.inr (by omega)) _,(wG.trans (bW.mono fun b h=>.inl h)).putObj (.inr (by omega)) _,?_,(World.putObj_heap_other (by omega)).trans qX⟩
    rw[World.putObj_heap_same (xrc.1 oQ).1,gV]
   rintro e a3 W3 hp
   cases e with
   |normal =>
    obtain⟨bW,iY⟩:=hp;obtain⟨W4,hr,iK,jX,f_,iU⟩:=aT none W3 bW
    exact⟨_,_,hr,.inl ⟨rfl,⟨hI _ _ _ iY iK,f_,iU⟩,jX⟩⟩
   |ret =>
    obtain⟨bW,iY⟩:=hp;obtain⟨W4,hr,iK,jX,f_,iU⟩:=aT (some .ret) W3 bW
    exact⟨_,_,hr,.inr ⟨rfl,.ret,kE _ _ _ _ iY iK,f_,iU⟩⟩
   |exit id =>
    obtain⟨bW,iY⟩:=hp;obtain⟨W4,hr,iK,jX,f_,iU⟩:=aT (some (.exit id)) W3 bW
    exact⟨_,_,hr,.inr ⟨rfl,.exit id,kE _ _ _ _ iY iK,f_,iU⟩⟩
   |goto t =>
    obtain⟨bW,iY⟩:=hp;obtain⟨W4,hr,iK,jX,f_,iU⟩:=aT (some (.goto t)) W3 bW
    exact⟨_,_,hr,.inr ⟨rfl,.goto t,kE _ _ _ _ iY iK,f_,iU⟩⟩
   |panic ch=>exact hp.elim
   |outgrown=>exact hp.elim
  exact⟨fK.1,fun c cs _=>fK.2 c cs (room_wide _)⟩
 ·rintro e W2 ⟨⟨v,rfl⟩,(⟨hi,hl,hk⟩|⟨pre,ax,c,hi,hl,hk⟩)⟩
  ·exact⟨none,_,by have:=run_endLoop (P:=P) hl (by rw[gV];simp);rw[gV]at this;exact this,
    kS _ (hI _ _ _ hi ((Keep.refl _ _).putObj (.inr (by omega)) _)) ((World.putObj_heap_other (by omega)).trans hk)⟩
  ·exact⟨some c,_,by have:=run_endLoop (P:=P) hl (by rw[gV];simp);rw[gV]at this;exact this,
    lI c pre _ ax (kE _ _ _ _ hi ((Keep.refl _ _).putObj (.inr (by omega)) _)) ((World.putObj_heap_other (by omega)).trans hk)⟩
attribute [local go_sem] Oper.semAt_some
theorem qn1(l:Bs):(qqt l = -1/\¬qd5 l)\/∃k:Nat,qqt l=k/\k<l.length/\l=l.take k++47::l.drop (k+1)/\¬qd5 (l.take k):=by
 unfold qqt qd5
 induction l with
 |nil=>left;exact⟨rfl,by simp⟩
 |cons b l ih =>
  by_cases hb:b=47
  ·right;subst hb;exact⟨0,by simp[Lib.indexByte],by simp,by simp,by simp⟩
  ·rcases ih with ⟨h1,h2⟩|⟨k,h1,h2,h3,h4⟩
   ·left
    refine⟨by simp[Lib.indexByte,hb,h1],by simp[h2];exact fun e=>hb e.symm⟩
   ·right
    refine⟨k+1,by simp[Lib.indexByte,hb,h1]<;>omega,by simp<;>omega,?_,?_⟩
    ·simp only[List.take_succ_cons,List.drop_succ_cons,List.cons_append];exact congrArg _ h3
    ·simp[h4];exact fun e=>hb e.symm
def qop (w:World)(b:Nat):Nat:=match w.cell? ⟨b,0,none⟩ with|some (.string r)=>r.size|_=>0
theorem qku{b:Nat}{r:ByteArray}(h:w.cell? ⟨b,0,none⟩=some (.string r)):qop w b=r.size:=by simp[qop,h]
theorem qrg(s:ByteArray)(hs:s.size<=2000000)(bP bS bV:Nat)(T:Nat->Prop)(w:World)
  (hd:bP≠bS/\bV≠bS) (hT:¬T bP/\¬T bS/\¬T bV)
  (hp:w.cell? ⟨bP,0,none⟩=some (.string ⟨#[47]⟩)) (hc:w.cell? ⟨bS,0,none⟩=some (.string s)) (hf:w.frozen? ⟨bS,0,none⟩=false) (hv:w.cell? ⟨bV,0,none⟩=some (.int .i64 0)) :
  SeqK prog 224 #[.pointer (some ⟨bP,0,none⟩),.pointer (some ⟨bS,0,none⟩),.pointer (some ⟨bV,0,none⟩)] (fun l=>Value.string (sb l)) (fun b=>b=bS) T (qax (bl s)) w:=by
 intro n l J Jx W hW hl hJ jz hY h0;have lp:=xrb w _ hp;have lc:=xrb w _ hc;have lv:=xrb w _ hv
 replace hp:=(hW.cell (p:=⟨bP,0,none⟩) lp).trans hp
 replace hc:=(hW.cell (p:=⟨bS,0,none⟩) lc).trans hc
 replace hf:=(hW.frozen (p:=⟨bS,0,none⟩) lc).trans hf
 replace hv:=(hW.cell (p:=⟨bV,0,none⟩) lv).trans hv
 have bz:∀k:Nat,Fence.wide.depth.isSome=true->1<=k:=fun k h=>by simp[Fence.wide]at h
 have E9:(⟨#[47]⟩:ByteArray).size=1:=rfl
 refine callsIn_of_wp func224 rfl trivial ?_ rfl
 simp only[ntmps224,List.size_toArray,List.length_cons,List.length_nil,Nat.reduceAdd,Nat.reduceSub,Array.replicate_succ,Array.replicate_zero,List.push_toArray,List.append_toArray,List.nil_append,List.cons_append]
 gi_wp2
 gi_loopw [7] (fun _ wr=>∃(pre:List Bs) (r:ByteArray),qax (bl s)=pre++qax (bl r)/\r.size<=2000000/\J pre wr/\wr.cell? ⟨bS,0,none⟩=some (.string r)/\wr.frozen? ⟨bS,0,none⟩=false/\wr.cell? ⟨bP,0,none⟩=some (.string ⟨#[47]⟩)/\wr.cell? ⟨bV,0,none⟩=some (.int .i64 0))
  (fun _ wr=>qop wr bS)
 case atStart=>exact⟨[],s,rfl,hs,h0,hc,hf,hp,hv⟩
 case round =>
  clear hp hc hf hv;obtain⟨pre,r,hx,mu,yJ,hc,hf,hp,hv⟩:=hrel;have HX:Hid (qax (bl s)=pre++qax (bl r)):=hx;clear hx
  rcases qn1 (bl r) with ⟨hi,ay⟩|⟨k,hi,hk,he,ay⟩
  ·have HI:Hid (qax (bl r)=[bl r]):=qc9 _ ay;obtain⟨fn,tmps,assign,body,hy,hR⟩:=hY (n-1) pre (bl r) wr yJ (by rw[HX.out,HI.out];exact List.prefix_refl _);rw[qtz]at hy
   gi_wp2_with (first
    |(refine⟨trivial,bz _,?_⟩;gi_at_call 219;refine(xrv.2 (qmn _ _)).mono ?_;rw[hi];rintro e w' ⟨rfl,rfl⟩)
    |(refine⟨bz _,?_⟩;refine hR.mono ?_;clear hR;rintro e W2 (⟨rfl,jy,ag⟩|⟨rfl,jh⟩)))
   ·go_end0
    exact⟨⟨_,rfl⟩,.inl (by rw[HX.out,HI.out];exact jy)⟩
   ·go_end0
    exact⟨⟨_,rfl⟩,.inr ⟨_,by rw[HX.out,HI.out];exact List.prefix_refl _,jh⟩⟩
  ·rw[qcl]at hk;have HI:Hid (qax (bl r)=(bl r).take k::qax ((bl r).drop (k+1))):=by
    have h1:=qeg ((bl r).take k) ((bl r).drop (k+1));rw[qc9 _ ay,<- he]at h1;exact h1
   obtain⟨fn,tmps,assign,body,hy,hR⟩:=hY (n-1) pre ((bl r).take k) wr yJ (by rw[HX.out,HI.out];exact⟨qax ((bl r).drop (k+1)),by simp⟩);have e1:sb ((bl r).take k)=r.extract 0 k:=qd8 (by rw[qbs,qc6];simp);have e2:bl (r.extract (k+1) r.size)=(bl r).drop (k+1):=by
    rw[qc6];exact xrd (by rw[List.length_drop,qcl];omega)
   have Ac:Hid (bl (r.extract (k+1) r.size)=(bl r).drop (k+1)):=e2;rw[e1]at hy;clear e1 e2;have HE:Hid (bl r=List.take k (bl r)++47::List.drop (k+1) (bl r)):=he;clear he;have cf:(k:Int)+1<=r.size:=by omega
   have cX:=hR.mono (R':=fun e W'=>(e=.returned (.bool true)/\J (pre++[(bl r).take k]) W'/\W'.cell? ⟨bS,0,none⟩=some (.string r)/\W'.frozen? ⟨bS,0,none⟩=false/\W'.cell? ⟨bP,0,none⟩=some (.string ⟨#[47]⟩)/\W'.cell? ⟨bV,0,none⟩=some (.int .i64 0))\/(e=.returned (.bool false)/\Jx (pre++[(bl r).take k]) W'))
    (fun e W' h=>h.elim (fun ⟨he,hj,hk⟩=>.inl ⟨he,hj,(hk.cell (p:=⟨bS,0,none⟩) (xrb _ _ hc) hT.2.1).trans hc,(hk.frozen (p:=⟨bS,0,none⟩) (xrb _ _ hc) hT.2.1).trans hf,
     (hk.cell (p:=⟨bP,0,none⟩) (xrb _ _ hp) hT.1).trans hp,(hk.cell (p:=⟨bV,0,none⟩) (xrb _ _ hv) hT.2.2).trans hv⟩) .inr)
   clear hR
   gi_wp2_with (first
    |(refine⟨trivial,bz _,?_⟩;gi_at_call 219;refine(xrv.2 (qmn _ _)).mono ?_;rw[hi];rintro e w' ⟨rfl,rfl⟩)
    |(refine⟨bz _,?_⟩;refine cX.mono ?_;clear cX;rintro e W2 (⟨rfl,jy,fl,iu,mm,et⟩|⟨rfl,jh⟩)))
   ·go_roundw
    case rel =>
     refine⟨pre++[(bl r).take k],r.extract (k+1) r.size,by rw[HX.out,HI.out,Ac.out];simp,by simp;omega,hJ _ _ _ jy ((Keep.refl (fun b=>b=bS) _).setCell (p:=⟨bS,0,none⟩) rfl _),?_,?_,?_,?_⟩
     ·exact World.cell?_setCell_same' _ _ _ (by rw[fl];rfl)
     ·rw[World.frozen?_setCell];exact iu
     ·rw[World.cell?_setCell_other _ _ _ _ (by intro e;cases e;exact hd.1 rfl)];exact mm
     ·rw[World.cell?_setCell_other _ _ _ _ (by intro e;cases e;exact hd.2 rfl)];exact et
    case measure =>
     rw[qku (World.cell?_setCell_same' _ _ _ (by rw[fl];rfl)),qku hc]
     simp;omega
   ·refine xrn (results_none rfl _ _ _) rfl ?_
    exact⟨⟨_,rfl⟩,.inr ⟨_,by rw[HX.out,HI.out];exact⟨qax ((bl r).drop (k+1)),by simp⟩,jh⟩⟩
theorem qq4(T:Nat->Prop)(w:World):SeqK prog 151 #[] (fun l:Bs=>Value.string (sb l)) (fun _=>False) T [] w:=by
 intro n l J Jx W hW hl hJ jz hY h0
 refine callsIn_of_wp func151 rfl trivial ?_ rfl
 simp only[ntmps151,List.size_toArray,List.length_cons,List.length_nil,Nat.reduceAdd,Nat.reduceSub,Array.replicate_succ,Array.replicate_zero,List.push_toArray,List.append_toArray,List.nil_append,List.cons_append]
 gi_wp2
 go_end0
 exact⟨⟨_,rfl⟩,.inl h0⟩
end
end Go.Proofs.YtphclnolomgjoaaGreatDoor
