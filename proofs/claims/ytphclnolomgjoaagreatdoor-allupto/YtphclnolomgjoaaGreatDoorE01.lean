import Derived.WalkKit
import Derived.WalkLawsBesides
import Derived.WalkSpells
import Derived.RegionCalls
import Derived.Deep.QuietTactic
import Derived.BigQuiet
import Derived.Deep.RegionWith
import Derived.Handy
import Derived.Test.YtphclnolomgjoaaGreatDoorProg
import Derived.Lib.Bytealg
import Derived.Lib.Strings
import Derived.Lib.UnsafeStr
import Derived.Lib.BufferWrite
import Derived.Laws.MakeOwn
import Derived.Laws.Externs
import Derived.RangeFuncNested
import Derived.RangeFuncBound
import Derived.RangeFuncCalls
import Derived.RangeFuncLeaves
import Derived.Shelf.Abstract
import Derived.Shelf.RegionOpen
import Derived.OwnWalkIn
import Derived.TacticsInMore
import Derived.LoopNIn
import Derived.LoopIn
import Derived.Laws.StructEq
set_option linter.unusedVariables false
set_option linter.unusedSimpArgs false
set_option maxRecDepth 100000
set_option maxHeartbeats 4000000
namespace Go.Proofs.YtphclnolomgjoaaGreatDoor
open Tryz
section
open Go.RowKit
theorem s7:(∀{α:Type}{l:List α}{i:Nat},l.toArray[i]?=l[i]?)/\(∀{α:Type}{a:α}{l:List α},(a::l)[0]?=some a)/\∀{α:Type}{a:α}{l:List α}{i:Nat},(a::l)[i+1]?=l[i]?:=⟨List.getElem?_toArray,List.getElem?_cons_zero,List.getElem?_cons_succ⟩
@[reducible] def v0_:Value:=.slice none 0 0
@[reducible] def vI(n:Int):Value:=.int .i64 n
@[reducible] def vP(b:Nat):Value:=.pointer (some ⟨b,0,none⟩)
@[reducible] def vS(b n c:Nat):Value:=.slice (some ⟨b,0,none⟩) n c
@[reducible] def vA(b i:Nat):Addr:=⟨b,i,none⟩
@[reducible] def Bw(w W:World):Prop:=Below w.heap.size w W
@[reducible] def Cl:=Calls prog
@[reducible] def vR(v:Value):Ending:=.returned v
@[reducible] def vT(a:Array Value):Ending:=.returned (.tuple a)
@[reducible] def vG(b:ByteArray):Value:=.string b
theorem zC:(∀{α:Type}{l:List α},l.toArray.size=l.length)/\(∀{α:Type}{a:α}{l:List α},(a::l).length=l.length+1)/\(∀{α:Type},([]:List α).length=0)/\(∀{n:Nat}{α:Type}{a:α},Array.replicate (n+1) a=(Array.replicate n a).push a)/\(∀{α:Type}{a:α},Array.replicate 0 a=#[])/\(∀{α:Type}(l:List α)(a:α),l.toArray.push a=(l++[a]).toArray)/\(∀{α:Type}(l m:List α),l.toArray++m.toArray=(l++m).toArray)/\(∀{α:Type}(l:List α),[]++l=l)/\∀{α:Type}{a:α}{l m:List α},a::l++m=a::(l++m):=⟨List.size_toArray,List.length_cons,List.length_nil,Array.replicate_succ,Array.replicate_zero,List.push_toArray,List.append_toArray,List.nil_append,List.cons_append⟩
theorem o_{p:Prop}(h:p:=by omega):p:=h
theorem k_{p:Prop}(h:p:=by kernel_rfl):p:=h
theorem s_{p:Prop}(h:p:=by simp):p:=h
theorem d_{p:Prop}(h:p:=by decide):p:=h
theorem r_{p:Prop}(h:p:=by rfl):p:=h
theorem f_{p:Prop}(h:p:=by first|omega|(simp;done)|(simp;omega)):p:=h
theorem g_{p:Prop}(h:p:=by first|omega|(simp<;>omega)):p:=h
theorem e_{p:Prop}(h:p:=by intro e;cases e):p:=h
theorem t_{p:Prop}(h:p:=by simp;omega):p:=h
theorem u_{p:Prop}(h:p:=by simp<;>omega):p:=h
theorem h_{q p:Prop}(h:q)(k:q->p:=by intro h;omega):p:=k h
theorem i_{q p:Prop}(h:q)(k:q->p:=by intro h;simp at h;omega):p:=k h
theorem l_{q p:Prop}(h:q)(k:q->p:=by intro h;simp;omega):p:=k h
theorem p_{q p:Prop}(h:q)(k:q->p:=by intro h;simp only;omega):p:=k h
theorem j_{q p:Prop}(h:q)(k:q->p:=by intro h;simpa using h):p:=k h
theorem Uy:∀ {α : Type _} {i:Nat} {a : α} {l:List α},l[i]?=some a↔∃h,l[i]=a:=@List.getElem?_eq_some_iff
theorem Ur:∀ {α : Type _} {l:List α} {i:Nat} (h:i<l.length),l[i]?=some l[i]:=@List.getElem?_eq_getElem
theorem Uq:∀ {α : Type _} {l:List α} {i:Nat} {a : α},l[i]?=some a->a∈l:=@List.mem_of_getElem?
theorem Uv:∀ {α : Type _} (a : α) (ys:List α) (h:0<(a::ys).length),(a::ys)[0]=a:=@List.getElem_cons_zero
theorem Uw:∀ {α : Type _} (a : α) (ys:List α) (i:Nat) (h:i+1<(a::ys).length),(a::ys)[i+1]=ys[i]'(Nat.lt_of_succ_lt_succ h):=@List.getElem_cons_succ
theorem Ux:∀ {α : Type _} {xs:List α} {i:Nat} (h:i<xs.toArray.size),xs.toArray[i]=xs[i]:=@List.getElem_toArray
theorem UF:∀ {α : Type _} (l:List α) (i:Nat) (a : α),l.toArray.setIfInBounds i a=(l.set i a).toArray:=@List.setIfInBounds_toArray
theorem UD:∀ {α : Type _} {x : α} {xs:List α} {i:Nat} {a : α},(x::xs).set (i+1) a=x::xs.set i a:=@List.set_cons_succ
theorem UE:∀ {α : Type _} {x : α} {xs:List α} {a : α},(x::xs).set 0 a=a::xs:=@List.set_cons_zero
theorem UM:∀ {α : Type _} {a : α} {ys:List α} (bs:List α),a∈ys->a∈ys++bs:=@List.mem_append_left
theorem U8:∀ {α : Type _} {b : α} (ys:List α) {bs:List α},b∈bs->b∈ys++bs:=@List.mem_append_right
theorem VE:∀(w:World) (a:Addr) {u:Value},w.cell? a=some u->a.block<w.heap.size:=@World.block_lt_of_cell?
theorem Vz:∀ {α : Type _} {i:Nat} {b : α} {xs:Array α},xs[i]?=some b↔∃h,xs[i]=b:=@Array.getElem?_eq_some_iff
theorem Vl:∀ {α : Type _} {i:Nat} {l:List α},l.length<=i->List.take i l=l:=@List.take_of_length_le
theorem Vh:∀ {α : Type _} {a : α} {l:List α},a∈l->∃i:Nat,l[i]?=some a:=@List.getElem?_of_mem
theorem VT:∀ {α : Type _} {i:Nat} {l:List α} (h:i<l.length),List.take (i+1) l=List.take i l++[l[i]]:=@List.take_succ_eq_append_getElem
theorem VJ:∀ {n m k:Nat},n<m->m<=k->n<k:=@Nat.lt_of_lt_of_le
theorem Wt:∀ {α : Type _} (p : α -> Bool) (l:List α),(List.filter p l).length<=l.length:=@List.length_filter_le
theorem UU:∀ {α : Type _} {a : α} {s t:List α},a∈s++t↔a∈s\/a∈t:=@List.mem_append
theorem VF:∀ {α : Type _} {β : Type _} {l:List α} {a : α} {f : α -> β},a∈l->f a∈List.map f l:=@List.mem_map_of_mem
theorem Vx:∀(w:World) (base:Nat) (e:TypeId) (size:Nat),w.ownsRow base e size (Value.slice none 0 0) 0 []:=@World.ownsRow_nil
theorem UQ:∀ {w:World} {base:Nat} {e:TypeId} {size:Nat} {v:Value} {n:Nat} {xs:List Value},w.ownsRow base e size v n xs->∀ {a:Addr},v.ownBlock≠some a.block->∀(u:Value),(w.setCell a u).ownsRow base e size v n xs:=@ownsRow_setCell_other
theorem UT:∀ {B:Nat} {a w:World},Below B a w->∀(n:Nat),Below B a (w.drewN n):=@below_drewN
theorem Us:∀ {P:Program} {fn:Func} {R:Ending->World->Prop} {a:Act} {w:World} {v:Value},Sem.run P (results fn a.tmps) w=Result.ok v w->a.defers=[]->R (Ending.returned v) w->bodyPost P fn R Exit.ret a w:=@bodyPost_ret
theorem Wp:∀ {α : Type _} {l m:List α} {i:Nat},l.length<=i->(l++m)[i]?=m[i-l.length]?:=@List.getElem?_append_right
theorem Wu:∀ {α : Type _} {l m:List α} {i:Nat},i<l.length->(l++m)[i]?=l[i]?:=@List.getElem?_append_left
theorem UC:∀ {α : Type _} {β : Type _} {b : β} {f : α -> β} {l:List α},b∈List.map f l↔∃a,a∈l/\f a=b:=@List.mem_map
theorem Vu:∀ {α : Type _} {p : α -> Bool} {ys:List α} {x : α},x∈List.filter p ys↔x∈ys/\p x=true:=@List.mem_filter
theorem VB:∀ {α : Type _} {β : Type _} {f : α -> β} {l:List α} {i:Nat},(List.map f l)[i]?=Option.map f l[i]?:=@List.getElem?_map
theorem Vv:∀(w:World) (o:Obj),(w.alloc o).heap.size=w.heap.size+1:=@World.size_alloc
theorem V3:∀ {α : Type _} (y : α) {a : α} {l:List α},a∈l->a∈y::l:=@List.mem_cons_of_mem
theorem UK:∀ {n:Nat} {P:Program} {f:FuncId} {args:Array Value} {w:World} {R:Ending->World->Prop},CallsIn Fence.wide n P f args w R↔Calls P f args w R:=@callsIn_wide
theorem WK:∀ {α : Type _} [BEq α] [LawfulBEq α] {l m:List α},l.isPrefixOf m=true↔l <+: m:=@List.isPrefixOf_iff_prefix
theorem YV:∀ {α : Type _} {R : α -> α -> Prop} {l m:List α},List.Pairwise R (l++m)↔List.Pairwise R l/\List.Pairwise R m/\∀(a : α),a∈l->∀(b : α),b∈m->R a b:=@List.pairwise_append
theorem aE:∀ {α : Type _} (l m:List α),l <+: l++m:=@List.prefix_append
theorem VW:∀ {α : Type _} {x : α} {xs:List α} {p : α -> Bool},List.filter p (x::xs)=if p x=true then x::List.filter p xs else List.filter p xs:=@List.filter_cons
theorem W7:∀ {α : Type _} {p : α -> Bool} {l:List α},l.any p=true↔∃x,x∈l/\p x=true:=@List.any_eq_true
variable {W w w1:World}{a:Int}
theorem s5(h:Bw w W)(hb:Bw W w1):Bw w w1:=h.trans (hb.mono h.size)
theorem ZF{k:IntKind}{b:Int}(h:a=b):vR (.int k a)=vR (.int k b):=by rw[h]
theorem VP{a b:Bool}(h:a=b):vR (.bool a)=vR (.bool b):=by rw[h]
theorem jO{a b:ByteArray}(h:a=b):vR (vG a)=vR (vG b):=by rw[h]
theorem dU(c:Int)(w:World):
  Calls prog 112 #[vI c] w fun e w'=>e=vR (vI c)/\w'=w:=by
 go_enter func112,ntmps112
 go_wp2
 go_ret
 exact⟨rfl,rfl⟩
def Uu (a b:Int):Bool:=decide (0<=a/\a<=1000/\0<=b/\b<=1000)
theorem W9(a b:Int)(w:World):
  Calls prog 115 #[.agg #[vI a,vI b]] w fun e w'=>e=vR (.bool (Uu a b))/\Bw w w':=by
 go_enter func115,ntmps115
 go_wp2
 all_goals go_ret
 all_goals exact⟨VP (by first|(simp[Uu];omega)|(simp[Uu];intros;omega)|(rw[Uu,decide_eq_decide];omega)),(Below.refl _ _).alloc (Nat.le_refl _) _⟩
end
section
abbrev Bs:=List UInt8
variable {k k':List Bs}
def wN:Bs->List Bs
 | []=>[[]]
 |c::r=>if c=47 then []::wN r else match wN r with
  | []=>[[c]]
  |h::t=>(c::h)::t
def kN:List Bs->Bs
 | []=>[]
 | [a]=>a
 |a::b::r=>a++47::kN (b::r)
def Wz (c:UInt8):Bool:=decide (97<=c)&&decide (c<=122)
def Vs (n:Bs):Bool:=decide (1<=n.length)&&decide (n.length<=4)&&n.all Wz
def s4 (s:Bs):List Bs:=if s=[] then [] else wN s
def UB (s:Bs):Bool:=(s4 s).all Vs
theorem bG(s:Bs):wN s≠[]:=by
 cases s with
 |nil=>simp[wN]
 |cons c r =>
  simp only[wN]
  split
  ·simp
  ·split<;>simp
theorem Zs(s:Bs):∃h t,wN s=h::t:=by
 cases e:wN s with
 |nil=>exact absurd e (bG s)
 |cons h t=>exact⟨h,t,rfl⟩
theorem cK(a b:Bs):∀ {xs:List Bs} {x y:Bs} {g:List Bs},wN a=xs++[x]->wN b=y::g->wN (a++b)=xs++(x++y)::g:=by
 induction a with
 |nil =>
  intro xs x y g d f;simp only[wN]at d
  cases xs with
  |nil=>simp at d;subst d;simpa using f
  |cons z j=>simp at d
 |cons c r i =>
  intro xs x y g d f;simp only[wN]at d;simp only[List.cons_append,wN]
  by_cases k:c=47
  ·rw[if_pos k]at d ⊢
   cases xs with
   |nil =>
    simp at d
    exact absurd d.2 (bG r)
   |cons z j =>
    simp at d
    obtain⟨rfl,d⟩:=d;rw[i d f];simp
  ·rw[if_neg k]at d ⊢;obtain⟨h,t,e⟩:=Zs r;rw[e]at d
   simp only at d
   cases xs with
   |nil =>
    simp at d
    obtain⟨rfl,rfl⟩:=d;rw[i (xs:=[]) (x:=h) (j_ e) f];simp
   |cons z j =>
    simp at d
    obtain⟨rfl,rfl⟩:=d;rw[i (xs:=h::j) (x:=x) (j_ e) f];simp
theorem Zt(s:Bs)(h:47 ∉ s):wN s=[s]:=by
 induction s with
 |nil=>rfl
 |cons c r a =>
  simp only[List.mem_cons,not_or]at h;simp only[wN];rw[if_neg (fun e=>h.1 e.symm),a h.2]
theorem Zp(a b:Bs):wN (a++47::b)=wN a++wN b:=by
 obtain⟨y,e,hb⟩:=Zs b;have d:wN (47::b)=[]::y::e:=by simp[wN,hb]
 have c:=bG a
 have:wN a=(wN a).dropLast++[(wN a).getLast c]:=(List.dropLast_concat_getLast c).symm
 rw[cK a (47::b) this d,hb]
 conv=>rhs;rw[this]
 simp
theorem XV(a:Bs)(r:List Bs)(h:r≠[]):kN (a::r)=a++47::kN r:=by
 cases r with
 |nil=>exact absurd rfl h
 |cons b t=>rfl
theorem m_(s:Bs):kN (wN s)=s:=by
 induction s with
 |nil=>rfl
 |cons c r a =>
  simp only[wN];obtain⟨h,t,e⟩:=Zs r
  by_cases d:c=47
  ·rw[if_pos d,XV _ _ (bG r),a,d];rfl
  ·rw[if_neg d,e];rw[e]at a
   simp only
   cases t with
   |nil=>simp only[kN]at a ⊢;rw[a]
   |cons b t=>simp only[kN]at a ⊢;rw[<-a];rfl
theorem cU(b:List Bs)(d:b≠[])(h:∀k∈b,47 ∉ k):wN (kN b)=b:=by
 induction b with
 |nil=>exact absurd rfl d
 |cons a r f =>
  by_cases c:r=[]
  ·subst c;simp only[kN];exact Zt a (h a s_)
  ·rw[XV a r c,Zp,Zt a (h a s_),f c (fun k e=>h k (by simp[e]))];rfl
theorem qn(c:UInt8)(h:Wz c=true):c≠47:=by
 intro e;subst e;simp[Wz]at h
theorem cS{n:Bs}(h:Vs n=true):47 ∉ n:=by
 simp only[Vs,Bool.and_eq_true,List.all_eq_true]at h;intro a
 exact qn _ (h.2 _ a) rfl
theorem rB{n:Bs}(h:Vs n=true):n≠[]:=by
 simp only[Vs,Bool.and_eq_true,decide_eq_true_eq]at h;intro e;subst e;simp at h
theorem Yw{n:Bs}(h:Vs n=true):1<=n.length/\n.length<=4:=by
 simp only[Vs,Bool.and_eq_true,decide_eq_true_eq]at h
 exact h.1
def UL (k:List Bs):Bool:=k.all Vs
theorem WO(h:UL k=true){n:Bs}(a:n∈k):Vs n=true:=by
 simp only[UL,List.all_eq_true]at h;exact h n a
theorem aM(h:UL k=true):kN k=[]↔k=[]:=by
 constructor
 ·intro e
  cases k with
  |nil=>rfl
  |cons a r =>
   exfalso
   by_cases b:r=[]
   ·subst b;exact rB (n:=a) (WO h s_) e
   ·rw[XV a r b]at e;simp at e
 ·intro e;subst e;rfl
theorem Zn(h:UL k=true):s4 (kN k)=k:=by
 unfold s4
 by_cases a:k=[]
 ·subst a;rfl
 ·rw[if_neg (fun e=>a ((aM h).1 e))]
  exact cU k a (fun n b=>cS (WO h b))
theorem Wi(s:Bs):kN (s4 s)=s:=by
 unfold s4
 split
 ·rename_i e;subst e;rfl
 ·exact m_ s
theorem VY{s:Bs}:UB s=UL (s4 s):=rfl
theorem Y0(h:UL k=true)(a:UL k'=true)(e:kN k=kN k'):k=k':=by
 rw[<-Zn h,<- Zn a,e]
theorem gP(k:List Bs)(n:Bs)(c:k≠[]):kN (k++[n])=kN k++47::n:=by
 induction k with
 |nil=>exact absurd rfl c
 |cons a r d =>
  by_cases b:r=[]
  ·subst b;rfl
  ·rw[List.cons_append,XV a (r++[n]) s_,XV a r b,d b];simp
theorem aJ(k r:List Bs)(b:k≠[])(c:r≠[]):kN (k++r)=kN k++47::kN r:=by
 induction k with
 |nil=>exact absurd rfl b
 |cons a t d =>
  by_cases ht:t=[]
  ·subst ht;simp only[List.cons_append,List.nil_append];rw[XV a r c];rfl
  ·rw[List.cons_append,XV a (t++r) (by simp[ht]),XV a t ht,d ht];simp
theorem fP(s:Bs):(wN s).length=s.count 47+1:=by
 induction s with
 |nil=>rfl
 |cons c r b =>
  simp only[wN];obtain⟨h,t,e⟩:=Zs r
  by_cases a:c=47
  ·rw[if_pos a];subst a;simp[b]
  ·rw[if_neg a,e];rw[e]at b;simp at b ⊢;rw[List.count_cons_of_ne a];exact b
def xc (p a:Bs):Bool:=a.isEmpty||decide (p=a)||(decide (a.length<p.length)&&decide (p.take a.length=a)&&decide (p[a.length]?=some 47))
theorem ZI{a:List Bs}(g:UL k=true)(d:UL a=true):xc (kN k) (kN a)=true↔a <+: k:=by
 unfold xc;simp only[Bool.or_eq_true,Bool.and_eq_true,decide_eq_true_eq]
 constructor
 ·rintro((h|h)|⟨⟨b,l⟩,h3⟩)
  ·have:kN a=[]:=by simpa using h
   rw[aM d]at this;subst this;exact List.nil_prefix
  ·rw[Y0 g d h];exact List.prefix_refl _
  ·-- kN k=kN a++47::rest
   have e:kN k=kN a++47::(kN k).drop ((kN a).length+1):=by
    have c:=List.take_append_drop (kN a).length (kN k);rw[l]at c;have m:(kN k).drop (kN a).length=47::(kN k).drop ((kN a).length+1):=by
     rw[List.drop_eq_getElem_cons b]
     have:=Ur b
     rw[this]at h3;simp only[Option.some.injEq]at h3;rw[h3]
    rw[m]at c;exact c.symm
   by_cases hka:k=[]
   ·subst hka;simp[kN]at b
   by_cases haa:a=[]
   ·subst haa;exact List.nil_prefix
   have j:=cU k hka (fun n f=>cS (WO g f));rw[e,Zp,cU a haa (fun n f=>cS (WO d f))]at j
   exact⟨_,j⟩
 ·rintro⟨r,rfl⟩
  by_cases haa:a=[]
  ·subst haa;left;left;rfl
  by_cases i:r=[]
  ·subst i;left;right;simp
  ·right
   rw[aJ a r haa i]
   refine⟨⟨s_,s_⟩,s_⟩
theorem mG(s:Bs):∀x∈wN s,x.length<=s.length:=by
 induction s with
 |nil=>intro x a;simp[wN]at a;subst a;simp
 |cons c r b =>
  intro x a;simp only[wN]at a;obtain⟨h,t,e⟩:=Zs r
  by_cases d:c=47
  ·rw[if_pos d]at a
   rcases List.mem_cons.1 a with rfl|a
   ·simp
   ·have:=b x a;simp;omega
  ·rw[if_neg d,e]at a
   rcases List.mem_cons.1 a with rfl|a
   ·have:=b h (by rw[e];simp);simp;omega
   ·have:=b x (by rw[e];simp[a]);simp;omega
theorem mC(s:Bs)(x:Bs)(a:x∈s4 s):x.length<=s.length:=by
 unfold s4 at a
 split at a
 ·simp at a
 ·exact mG s x a
end
section
open Go.RowKit
def bl (s:ByteArray):Bs:=s.data.toList
def sb (l:Bs):ByteArray:=⟨l.toArray⟩
theorem Wo(s:ByteArray):(bl s).length=s.size:=(Lib.size_eq s).symm
theorem Wq(l:Bs):(sb l).size=l.length:=by simp[sb,ByteArray.size]
theorem UO(l:Bs):bl (sb l)=l:=by simp[bl,sb]
theorem YU(s:ByteArray):sb (bl s)=s:=Lib.mk_data s
theorem V4(s:ByteArray):s.toList=bl s:=ByteArray.toList_eq s
theorem Wy{a b:ByteArray}(h:bl a=bl b):a=b:=by rw[<-YU a,h,YU]
theorem YB(s:ByteArray)(a b:Nat):bl (s.extract a b)=((bl s).drop a).take (b-a):=Lib.extract_data s a b
theorem eK(s:ByteArray)(k:Nat)(h:k<s.size):(bl s)[k]'(by rw[Wo];exact h)=s[k]:=rfl
theorem jB(s:ByteArray)(k:Nat)(h:k<s.size):(bl s).take (k+1)=(bl s).take k++[s[k]]:=by
 rw[VT (by rw[Wo];exact h)];rfl
theorem jA(s:ByteArray)(k:Nat)(h:k<s.size):(bl s).drop k=s[k]::(bl s).drop (k+1):=by
 rw[List.drop_eq_getElem_cons (by rw[Wo];exact h)];rfl
theorem YY(a b:ByteArray):bl (a++b)=bl a++bl b:=by simp[bl]
theorem YM(a b:ByteArray):(a.toList == b.toList)=decide (bl a=bl b):=by
 rw[V4,V4];by_cases h:bl a=bl b<;>simp[h]
theorem XP:bl ⟨#[]⟩=[]:=rfl
theorem eG(a:UInt8)(k:Nat)(b:k<256):((a.toNat:Int)=k)↔a=UInt8.ofNat k:=by
 constructor
 ·intro h
  have:a.toNat=k:=o_
  rw[<-this];simp
 ·intro h;subst h
  have:(UInt8.ofNat k).toNat=k:=by simp;omega
  omega
def Ys (l:Bs):Nat:=l.count 47
def ZM (l:Bs):Int:=Lib.indexByte l 47
def yn (a b:Bs):Int:=Lib.compareBytes a b
def XG (l:Bs):Prop:=47∈l
theorem kZ(s:ByteArray)(w:World):(callFunc 218 #[vG s,.int .u8 47]).run prog w=.ok (.value (vI (Ys (bl s)))) w:=by
 rw[run_callFunc_extern func218 k_ k_ k_ (e:=Extern.BytealgCount.count) k_,Lib.run_countString];rfl
theorem lF(s:ByteArray)(w:World):(callFunc 249 #[vG s,.int .u8 47]).run prog w=.ok (.value (vI (ZM (bl s)))) w:=by
 rw[run_callFunc_extern func249 k_ k_ k_ (e:=Extern.BytealgIndexByte.indexByte) k_,Lib.run_indexByteString];rfl
theorem lE(a b:ByteArray)(w:World):(callFunc 226 #[vG a,vG b]).run prog w=.ok (.value (vI (yn (bl a) (bl b)))) w:=by
 rw[run_callFunc_extern func226 k_ k_ k_ (e:=Extern.BytealgCompare.compare) k_,Lib.run_compareString];rfl
theorem nZ(a b:ByteArray)(w:World):
  Calls prog 155 #[vG a,vG b] w fun e w'=>e=vR (vI (yn (bl a) (bl b)))/\w'=w:=by
 have h:=lE a b
 go_enter func155,ntmps155
 go_wp2
 go_ret
 exact⟨rfl,rfl⟩
theorem qS(s:ByteArray)(w:World):
  Calls prog 181 #[vG s,vG ⟨#[47]⟩] w fun e w'=>e=vR (vI (Ys (bl s)))/\w'=w:=by
 have h:=kZ s;have a:(⟨#[47]⟩:ByteArray).size=1:=rfl;have i0:∀w,(Instr.index 9 (vG ⟨#[47]⟩) (vI 0)).run prog w=.ok (.int .u8 47) w:=fun _=>by kernel_rfl
 go_enter func181,ntmps181
 go_wp2
 go_ret
 exact⟨rfl,rfl⟩
theorem hP(s:ByteArray)(w:World):
  Calls prog 219 #[vG s,vG ⟨#[47]⟩] w fun e w'=>e=vR (vI (ZM (bl s)))/\w'=w:=by
 have h:=lF s;have a:(⟨#[47]⟩:ByteArray).size=1:=rfl;have i0:∀w,(Instr.index 9 (vG ⟨#[47]⟩) (vI 0)).run prog w=.ok (.int .u8 47) w:=fun _=>by kernel_rfl
 have hq:∀x,(([47]:List UInt8) == s.toList)=true->x=(0:Int)->x=ZM (bl s):=fun x h e=>by
  rw[V4]at h
  have:bl s=[47]:=by simpa using (by simpa using h:[47]=bl s).symm
  rw[this,e];rfl
 go_enter func219,ntmps219
 go_wp2
 all_goals go_ret
 all_goals first|exact⟨rfl,rfl⟩|exact⟨ZF (hq 0 ‹_› rfl),rfl⟩
theorem ng(s:ByteArray)(w:World)(l:s.size<=maxLen):
  Calls prog 183 #[vG s,.int .u8 47] w fun e w'=>(∃r:Int,e=vR (vI r)/\((r = -1/\¬XG (bl s))\/∃k:Nat,r=k/\k<s.size/\bl s=(bl s).take k++47::(bl s).drop (k+1)/\¬XG ((bl s).drop (k+1))))/\w'=w:=by
 unfold maxLen at l
 go_enter func183,ntmps183
 go_wp2
 go_loop [5] (fun i=>∃k:Nat,k<=s.size/\i=vI ((k:Int)-1)/\¬XG ((bl s).drop k)) (fun i=>(intOf i+1).toNat)
 case atStart=>exact⟨s.size,Nat.le_refl _,rfl,by rw[<-Wo,List.drop_length];exact List.not_mem_nil⟩
 case round =>
  obtain⟨k,m,rfl,b⟩:=hrel
  cases k with
  |zero =>
   go_wp2
   go_ret
   exact⟨⟨-1,rfl,.inl ⟨rfl,by simpa using b⟩⟩,rfl⟩
  |succ k =>
   have g:((k+1:Nat):Int)-1=k:=o_;rw[g];have d:k<s.size:=o_;have hd:=jA s k d;have c:Hid ((bl s).drop k=s[k]::(bl s).drop (k+1)):=hd;clear hd
   by_cases a:s[k]=47
   ·have f:Hid (s[k]=47):=a;have hb:((s[k].toNat:Int) == 47)=true:=by rw[a];rfl
    clear a
    go_wp2
    go_ret
    refine⟨⟨k,rfl,.inr ⟨k,rfl,d,?_,b⟩⟩,rfl⟩
    conv=>lhs;rw[<-List.take_append_drop k (bl s),c.out,f.out]
   ·have hb:((s[k].toNat:Int) == 47)=false:=by
     have:=mt (eG s[k] 47 o_).1 a
     simpa using this
    go_wp2
    go_round
    case rel =>
     refine⟨k,o_,by go_num,?_⟩
     rw[c.out];intro j
     rcases List.mem_cons.1 j with h|h
     ·exact a h.symm
     ·exact b h
    case measure=>simp[intOf]
theorem mR(s:ByteArray)(w:World)(b:s.size<=maxLen):
  Calls prog 136 #[vG s,vG ⟨#[47]⟩] w fun e w'=>(∃r:Int,e=vR (vI r)/\((r = -1/\¬XG (bl s))\/∃k:Nat,r=k/\k<s.size/\bl s=(bl s).take k++47::(bl s).drop (k+1)/\¬XG ((bl s).drop (k+1))))/\w'=w:=by
 have c:(⟨#[47]⟩:ByteArray).size=1:=rfl;have i0:∀w,(Instr.index 9 (vG ⟨#[47]⟩) (vI 0)).run prog w=.ok (.int .u8 47) w:=fun _=>by kernel_rfl
 go_enter func136,ntmps136
 go_wp2_with (go_at_call 183;refine(ng _ _ b).mono ?_;rintro e d ⟨⟨r,rfl,a⟩,rfl⟩)
 go_ret
 exact⟨⟨r,rfl,a⟩,rfl⟩
theorem gY(c:UInt8):Wz c=(decide (97<=(c.toNat:Int))&&decide ((c.toNat:Int)<=122)):=by
 rw[Bool.eq_iff_iff];simp[Wz,UInt8.le_iff_toNat_le];omega
theorem mK(s:ByteArray)(w:World)(l:s.size<=maxLen):
  Calls prog 103 #[vG s] w fun e w'=>e=vR (.bool (Vs (bl s)))/\w'=w:=by
 unfold maxLen at l
 by_cases j:1<=s.size/\s.size<=4
 ·obtain⟨p,n⟩:=j
  go_enter func103,ntmps103
  go_wp2
  go_loop [14] (fun i=>∃k:Nat,k<=s.size/\i=vI k/\((bl s).take k).all Wz=true) (fun i=>s.size-(intOf i).toNat)
  case atStart=>exact⟨0,Nat.zero_le _,rfl,rfl⟩
  case round =>
   obtain⟨k,o,rfl,a⟩:=hrel
   by_cases c:k<s.size
   ·have f:Hid ((bl s).take (k+1)=(bl s).take k++[s[k]]):=jB s k c;have b:Hid (Wz s[k]=(decide (97<=(s[k].toNat:Int))&&decide ((s[k].toNat:Int)<=122))):=gY _;have g:Hid (((bl s).take k).all Wz=true):=a;clear a;have d:Wz s[k]=false->Vs (bl s)=false:=fun h=>by
     have:(bl s).all Wz=false:=by
      rw[List.all_eq_false]
      exact⟨s[k],by rw[<-eK s k c];exact List.getElem_mem _,by simp[h]⟩
     simp[Vs,this]
    go_wp2
    ·go_ret
     exact⟨VP (d (by rw[b.out];simp;omega)).symm,rfl⟩
    ·go_round
     case rel=>exact⟨k+1,o_,by go_num,by rw[f.out,List.all_append,g.out];simp only[List.all_cons,List.all_nil];rw[b.out];simp;omega⟩
     case measure=>simp[intOf];omega
    ·go_ret
     exact⟨VP (d (by rw[b.out];simp;omega)).symm,rfl⟩
   ·go_wp2
    go_ret
    have:k=s.size:=o_
    subst this;rw[Vl (by rw[Wo];omega)]at a
    exact⟨VP (by simp[Vs,a,Wo];omega),rfl⟩
 ·have m:Vs (bl s)=false:=by
   simp only[Vs,Wo]
   have:¬(1<=s.size)\/¬(s.size<=4):=o_
   rcases this with h|h<;>simp[h]
  rw[m]
  go_enter func103,ntmps103
  go_wp2
  all_goals first|(exfalso;omega)|(go_ret;exact⟨rfl,rfl⟩)
theorem qq(s:ByteArray)(w:World)(C:s.size<=100000):
  Calls prog 166 #[vG s] w fun e w'=>e=vR (vG s)/\Bw w w':=by
 by_cases g:s.size=0
 ·have y:s=⟨#[]⟩:=by
   apply ByteArray.ext
   exact Array.eq_empty_of_size_eq_zero g
  subst y
  go_enter func166,ntmps166
  go_wp2
  go_ret
  exact⟨rfl,Below.refl _ _⟩
 ·have B:(prog.info? 5).map (fun i=>(i.zero,i.size,i.bytes))=some (some (.int .u8 0),1,1):=k_;obtain⟨i0,l,v,f,u⟩:=info_parts B;have m:(prog.info? 5).map (·.size)=some 1:=by rw[l];simp[f]
  have o:prog.cellsOf 5=1:=k_;obtain⟨M,a⟩:∃M,M=madeCells (Value.int .u8 0).cells (((s.size:Nat):Int).toNat*i0.size):=⟨_,rfl⟩;have D:M.size=s.size:=by rw[a,size_madeCells,f];simp
  have F:∀W:World,(Instr.makeSlice 244 (vI (s.size:Int)) (vI (s.size:Int))).run prog W=.ok (vS W.heap.size s.size s.size) (W.alloc (.cells M 5)):=fun W=>by
   have h:=run_make (P:=prog) W 244 5 i0 (.int .u8 0) underlying244 l v .i64 .i64 (s.size:Int) (s.size:Int) o_ o_ (by rw[u];omega) o_;rw[<-a]at h
   simpa using h
  clear a;have A:=Lib.run_copy_row_string (P:=prog) (w.alloc (.cells M 5)) 244 9 3 5 w.heap.size 0 s.size s.size s M 5 underlying244 m (heap_alloc_new w _) (Nat.le_refl _) o_;obtain⟨Y,b⟩:∃Y,Y=(M.toList.take 0++Lib.byteCells s.data.toList++M.toList.drop (0+s.size)).toArray:=⟨_,rfl⟩;rw[<-b]at A;have c:Y.toList=Lib.byteCells s.data.toList:=by
   rw[b,List.toList_toArray,List.take_zero,List.nil_append,List.drop_of_length_le (by rw[Array.length_toList];omega),List.append_nil]
  have E:Y.size=s.size:=by rw[<-Array.length_toList,c,Lib.byteCells_length,<- Lib.size_eq]
  have d:((w.alloc (.cells M 5)).setRow w.heap.size Y).heap[w.heap.size]?=some (.cells Y 5 (0,0)):=setRow_heap _ _ M _ 5 (0,0) (heap_alloc_new w _);have q:s.data.toList≠[]:=fun e=>g (by rw[Lib.size_eq,e];rfl)
  have n:=Lib.run_unsafeString_row (P:=prog) ((w.alloc (.cells M 5)).setRow w.heap.size Y) 245 3 9 5 underlying245 o w.heap.size Y.size (by unfold World.shape?;rw[d]) s.data.toList q (by rw[<-Lib.size_eq];omega) (by rw[<-Lib.size_eq];omega)
   (fun j x z=>Lib.cells_of_row d Y.size j _ (by rw[Vl (by rw[Array.length_toList];exact Nat.le_refl _),c];simp[Lib.byteCells,z]))
  rw[<-Lib.size_eq]at n;clear b
  go_enter func166,ntmps166
  go_wp2
  go_ret
  have r:Bw w (w.alloc (.cells M 5)):=(Below.refl _ w).alloc (Nat.le_refl _) _;have t:Below w.heap.size (w.alloc (.cells M 5)) ((w.alloc (.cells M 5)).setRow w.heap.size Y):=⟨rfl,rfl,rfl,s_,fun k G=>setRow_other _ _ _ _ o_⟩
  exact⟨rfl,Lib.below_freeze (r.trans t) (p:=vA w.heap.size 0) (Nat.le_refl _) _⟩
theorem c8(s:ByteArray)(w:World)(a:s.size<=100000):
  Calls prog 129 #[vG s] w fun e w'=>e=vR (vG s)/\Bw w w':=by
 go_enter func129,ntmps129
 go_wp2_with (go_at_call 166;refine(qq _ _ a).mono ?_;rintro e c ⟨rfl,b⟩)
 go_ret
 exact⟨rfl,b⟩
def WR (l:Bs):Nat:=(s4 l).length
theorem hW(l:Bs)(h:l≠[]):WR l=Ys l+1:=by
 unfold WR s4 Ys;rw[if_neg h,fP]
theorem hX(s:ByteArray)(w:World)(f:s.size<=2000000):
  Calls prog 134 #[vG s] w fun e w'=>e=vR (vI (WR (bl s)))/\w'=w:=by
 have d:Ys (bl s)<=s.size:=by rw[<-Wo];exact List.count_le_length
 by_cases a:bl s=[]
 ·have c:s=⟨#[]⟩:=Wy (a.trans XP.symm);subst c
  go_enter func134,ntmps134
  go_wp2
  go_ret
  exact⟨rfl,rfl⟩
 ·have hq:(s.toList.isEmpty)=false:=by rw[V4];simpa using a
  have b:Hid (WR (bl s)=Ys (bl s)+1):=hW _ a;have hb:Ys (bl s)<=2000000:=o_
  go_enter func134,ntmps134
  go_wp2_with (go_at_call 181;refine(qS _ _).mono ?_;rintro e g ⟨rfl,rfl⟩)
  go_ret
  exact⟨ZF (by rw[b.out];rfl),rfl⟩
theorem sQ(a b:ByteArray)(w:World)(g:a.size<=1000)(hb:b.size<=1000):
  Calls prog 78 #[vG a,vG b] w fun e w'=>e=vR (vG (if bl a=[] then b else sb (bl a++47::bl b)))/\Bw w w':=by
 by_cases c:bl a=[]
 ·have f:a=⟨#[]⟩:=Wy (c.trans XP.symm);rw[if_pos c];subst f
  go_enter func78,ntmps78
  go_wp2_with (go_at_call 129;refine(c8 _ _ o_).mono ?_;rintro e h ⟨rfl,d⟩)
  go_ret
  exact⟨rfl,d⟩
 ·rw[if_neg c];have hq:(a.toList.isEmpty)=false:=by rw[V4];simpa using c
  go_enter func78,ntmps78
  go_wp2
  go_ret
  exact⟨jO (Wy (by rw[YY,YY,UO];simp[bl])),Below.refl _ _⟩
theorem kP(p a:ByteArray):xc (bl p) (bl a)=(a.toList.isEmpty||(p.toList == a.toList)||(decide (a.size<p.size)&&((p.extract 0 a.size).toList == a.toList)&&(if h:a.size<p.size then((p[a.size].toNat:Int) == 47) else false))):=by
 unfold xc;rw[YM,YM,V4 a,YB]
 congr 1
 by_cases h:a.size<p.size
 ·have b:(bl p)[(bl a).length]?=some p[a.size]:=by
   rw[Wo,Ur (by rw[Wo];exact h),eK]
  have c:(((p[a.size].toNat:Int)) == 47)=decide (p[a.size]=47):=by
   rw[Bool.eq_iff_iff];simp only[beq_iff_eq,decide_eq_true_eq]
   exact eG _ 47 o_
  rw[dif_pos h,b,c];simp only[Wo,h,List.drop_zero,Nat.sub_zero,Option.some.injEq]
 ·simp[Wo,h]
theorem X3(p a:ByteArray)(w:World)(_hp:p.size<=2000000)(_ha:a.size<=2000000):
  Calls prog 121 #[vG p,vG a] w fun e w'=>e=vR (.bool (xc (bl p) (bl a)))/\w'=w:=by
 have b:Hid (xc (bl p) (bl a)=(a.toList.isEmpty||(p.toList == a.toList)||(decide (a.size<p.size)&&((p.extract 0 a.size).toList == a.toList)&&(if h:a.size<p.size then((p[a.size].toNat:Int) == 47) else false)))):=kP p a
 cases d:a.toList.isEmpty<;>cases c:(p.toList == a.toList)
 all_goals
  go_enter func121,ntmps121
  go_wp2
  all_goals go_ret
  all_goals refine⟨VP ?_,rfl⟩
  all_goals rw[b.out]
  all_goals simp[*]
theorem rv(s:ByteArray)(w:World)(l:s.size<=2000000):
  Calls prog 81 #[vG s] w fun e w'=>(∃a b:ByteArray,e=vT #[vG a,vG b] /\
   ((¬XG (bl s)/\bl a=[]/\bl b=bl s)\/(bl s=bl a++47::bl b/\¬XG (bl b))))/\(∃n,w'=w.drewN n):=by
 go_enter func81,ntmps81
 go_wp2_with (go_at_call 136;refine(mR _ _ (by unfold maxLen;omega)).mono ?_;rintro e m ⟨⟨r,rfl,(⟨rfl,c⟩|⟨k,rfl,g,d,c⟩)⟩,rfl⟩)
 ·go_ret2
  exact⟨⟨⟨#[]⟩,s,rfl,.inl ⟨c,rfl,rfl⟩⟩,0,rfl⟩
 ·have f:Hid (bl s=List.take k (bl s)++47::List.drop (k+1) (bl s)):=d;have h:Hid (k<s.size):=g;clear d;have i:(k:Int)<=s.size:=o_;have j:(k:Int)+1<=s.size:=o_
  go_quiet (fail)
  go_wp2
  go_ret2
  refine⟨⟨s.extract 0 k,s.extract (k+1) s.size,rfl,.inr ⟨?_,?_⟩⟩,_,rfl⟩
  ·rw[YB,YB]
   conv=>lhs;rw[f.out]
   have:((bl s).drop (k+1)).take (s.size-(k+1))=(bl s).drop (k+1):=Vl (by rw[List.length_drop,Wo];omega)
   rw[this];simp
  ·rw[YB]
   have:((bl s).drop (k+1)).take (s.size-(k+1))=(bl s).drop (k+1):=Vl (by rw[List.length_drop,Wo];omega)
   rw[this];exact c
theorem rC(s:ByteArray)(w:World):
  Calls prog 102 #[vG s] w fun e w'=>(bl s=[]/\e=vR (.func (.func 151) #[] #[])/\w'=w) \/
   (bl s≠[]/\e=vR (.func (.func 224) #[] #[vP (w.heap.size+1),vP w.heap.size,vP (w.heap.size+2)]) /\
    w'=((w.alloc (.cells #[vG s] 9)).alloc (.cells #[vG ⟨#[47]⟩] 9)).alloc (.cells #[vI 0] 3)):=by
 have c:∀(fn:Fn) (first cap:Array Value) (w:World),(Instr.makeFunc fn first cap).run prog w=.ok (.func fn first cap) w:=fun _ _ _ _=>rfl
 by_cases a:bl s=[]
 ·have b:s=⟨#[]⟩:=Wy (a.trans XP.symm);subst b
  go_enter func102,ntmps102
  go_wp2
  go_ret
  exact .inl ⟨rfl,rfl,rfl⟩
 ·have hq:(s.toList.isEmpty)=false:=by rw[V4];simpa using a
  go_enter func102,ntmps102
  go_wp2
  go_ret
  exact .inr ⟨a,rfl,rfl⟩
end
section
open Go.RowKit Go.Shelf
variable {S T T':Nat->Prop}{A w w' d:World}{B gf n:Nat}{P:Program}{lb:Array Value}
structure zd (T:Nat->Prop) (w w':World):Prop where
 os:w'.os=w.os
 tape:w'.tape=w.tape
 output:w'.output=w.output
 size:w.heap.size<=w'.heap.size
 block:∀k,k<w.heap.size->¬T k->w'.heap[k]?=w.heap[k]?
namespace zd
theorem refl(T:Nat->Prop)(w:World):zd T w w:=⟨rfl,rfl,rfl,Nat.le_refl _,fun _ _ _=>rfl⟩
theorem trans{a b c:World}(h:zd T a b)(k:zd T b c):zd T a c :=
 ⟨k.os.trans h.os,k.tape.trans h.tape,k.output.trans h.output,Nat.le_trans h.size k.size,fun i d ht=>(k.block i (VJ d h.size) ht).trans (h.block i d ht)⟩
theorem mono(h:zd T w w')(ht:∀b,T b->T' b):zd T' w w' :=
 ⟨h.os,h.tape,h.output,h.size,fun k a c=>h.block k a (fun e=>c (ht k e))⟩
theorem X4(h:zd T w w')(ht:∀b,b<w.heap.size->T b->T' b):zd T' w w' :=
 ⟨h.os,h.tape,h.output,h.size,fun k a c=>h.block k a (fun e=>c (ht k a e))⟩
theorem drew{a:World}(h:zd T a w):zd T a w.drew:=⟨h.os,h.tape,h.output,h.size,h.block⟩
theorem drewN{a:World}(h:zd T a w)(n:Nat):zd T a (w.drewN n):=h.trans ⟨rfl,rfl,rfl,Nat.le_refl _,fun _ _ _=>rfl⟩
theorem ky(h:Below B w w')(ht:∀b,B<=b->b<w.heap.size->T b):zd T w w' :=
 ⟨h.os,h.tape,h.output,h.size,fun k c d=>h.block k (by
  rcases Nat.lt_or_ge k B with a|a
  ·exact a
  ·exact absurd (ht k a c) d)⟩
theorem ya(h:zd T w w')(c:B<=w.heap.size)(ht:∀b,b<B->¬T b):Below B w w' :=
 ⟨h.os,h.tape,h.output,h.size,fun k a=>h.block k o_ (ht k a)⟩
theorem new(h:Below w.heap.size w w'):zd T w w':=ky h (fun b h1 h2=>by omega)
theorem alloc{a:World}(h:zd T a w)(o:Obj):zd T a (w.alloc o) :=
 h.trans (new ((Below.refl _ _).alloc (Nat.le_refl _) _))
theorem setCell{a:World}(h:zd T a w){p:Addr}(hp:T p.block)(u:Value):zd T a (w.setCell p u) :=
 h.trans ⟨rfl,rfl,rfl,by simp[World.setCell],fun k c b=>Below.heap_setCell _ _ _ _ (fun e=>b (e ▸ hp))⟩
theorem putObj{a:World}(h:zd T a w){l:Nat}(hp:T l)(o:Obj):zd T a (w.putObj l o) :=
 h.trans ⟨rfl,rfl,rfl,s_,fun k c b=>World.putObj_heap_other (fun e=>b (e ▸ hp))⟩
theorem grown{a:World}{row:Option Nat}(h:zd T a w)(b:w.grownBy w' row)(f:∀k,row=some k->T k):zd T a w' :=
 h.trans ⟨b.os,b.tape,b.output,b.size,fun k c d=>b.block k c (fun e=>d (f k e.symm))⟩
theorem cell(h:zd T w w'){p:Addr}(hp:p.block<w.heap.size)(ht:¬T p.block):w'.cell? p=w.cell? p:=World.cell?_of_block (w:=w) (h.block p.block hp ht)
theorem frozen(h:zd T w w'){p:Addr}(hp:p.block<w.heap.size)(ht:¬T p.block):w'.frozen? p=w.frozen? p:=World.frozen?_of_block (w:=w) (h.block p.block hp ht)
end zd
def zz (W:World)(b:Nat)(t:TypeId)(v:Value):Prop:=W.heap[b]?=some (.cells #[v] t (0,0))
namespace zz
variable {W W':World}{b:Nat}{t:TypeId}{v u:Value}
theorem lt(h:zz W b t v):b<W.heap.size:=(Vz.1 h).1
theorem cell(h:zz W b t v):W.cell? (vA b 0)=some v:=by unfold World.cell?;rw[show W.heap[((vA b 0):Addr).block]?=_ from h];rfl
theorem frozen(h:zz W b t v):W.frozen? (vA b 0)=false:=by unfold World.frozen?;rw[show W.heap[((vA b 0):Addr).block]?=_ from h];rfl
theorem zf(h:zz W b t v)(k:zd T W W')(a:¬T b):zz W' b t v:=(k.block b h.lt a).trans h
theorem below(h:zz W b t v)(k:Below B W W')(a:b<B):zz W' b t v:=(k.block b a).trans h
theorem alloc(h:zz W b t v)(o:Obj):zz (W.alloc o) b t v:=(Below.heap_alloc W o b h.lt).trans h
theorem other(h:zz W b t v)(p:Addr)(u:Value)(hp:b≠p.block):zz (W.setCell p u) b t v:=(Below.heap_setCell W p u b hp).trans h
theorem set(h:zz W b t v)(u:Value):zz (W.setCell (vA b 0) u) b t u:=by
 unfold zz at *;have a:=(Vz.1 h).1;simp only[World.setCell];rw[Array.getElem?_modify,if_pos rfl,h]
 rfl
theorem new(W:World)(t:TypeId)(v:Value):zz (W.alloc (.cells #[v] t)) W.heap.size t v:=World.alloc_heap_new W _
theorem drew(h:zz W b t v):zz W.drew b t v:=h
end zz
def zg (W:World)(b:Nat)(t:TypeId)(vs:Array Value):Prop:=W.heap[b]?=some (.cells vs t (0,0))
namespace zg
variable {W W':World}{b:Nat}{t:TypeId}{vs:Array Value}
theorem lt(h:zg W b t vs):b<W.heap.size:=(Vz.1 h).1
theorem cell(h:zg W b t vs)(i:Nat):W.cell? (vA b i)=vs[i]?:=by unfold World.cell?;rw[show W.heap[((vA b i):Addr).block]?=_ from h];rfl
theorem frozen(h:zg W b t vs)(i:Nat):W.frozen? (vA b i)=false:=by unfold World.frozen?;rw[show W.heap[((vA b i):Addr).block]?=_ from h];simp
theorem zf(h:zg W b t vs)(k:zd T W W')(a:¬T b):zg W' b t vs:=(k.block b h.lt a).trans h
theorem below(h:zg W b t vs)(k:Below B W W')(a:b<B):zg W' b t vs:=(k.block b a).trans h
theorem alloc(h:zg W b t vs)(o:Obj):zg (W.alloc o) b t vs:=(Below.heap_alloc W o b h.lt).trans h
theorem other(h:zg W b t vs)(p:Addr)(u:Value)(hp:b≠p.block):zg (W.setCell p u) b t vs:=(Below.heap_setCell W p u b hp).trans h
theorem put(h:zg W b t vs)(D:Nat)(o:Obj)(a:b≠D):zg (W.putObj D o) b t vs:=(World.putObj_heap_other a).trans h
theorem set(h:zg W b t vs)(i:Nat)(u:Value):zg (W.setCell (vA b i) u) b t (vs.setIfInBounds i u):=by
 unfold zg at *;simp only[World.setCell];rw[Array.getElem?_modify,if_pos rfl,h]
 rfl
theorem new(W:World)(t:TypeId)(vs:Array Value):zg (W.alloc (.cells vs t)) W.heap.size t vs:=World.alloc_heap_new W _
theorem drew(h:zg W b t vs):zg W.drew b t vs:=h
theorem drewN(h:zg W b t vs)(n:Nat):zg (W.drewN n) b t vs:=h
end zg
def SeqK {α : Type}(P:Program)(g:Nat)(lb:Array Value)(enc : α -> Value)(S T:Nat->Prop)(xs:List α)(w:World):Prop :=
 ∀(n l:Nat) (J a:List α -> World->Prop) (W:World),Bw w W->w.heap.size<=l ->
  (∀s A B,J s A->zd S A B->J s B)->(∀s A B,a s A->zd S A B->a s B) ->
  (∀m pre x b,J pre b->pre++[x] <+: xs->YieldAt Fence.wide m P l #[enc x] b fun e W' =>
   (e=vR (.bool true)/\J (pre++[x]) W'/\zd T b W')\/(e=vR (.bool false)/\a (pre++[x]) W')) ->
  J [] W ->
  CallsIn Fence.wide n P g (#[.func (.yield l) #[] #[]]++lb) W fun e W'=>(∃v,e=vR v)/\(J xs W'\/(∃pre,pre <+: xs/\a pre W'))
def eT {α : Type}(T:Nat->Prop)(I:List α -> World->Prop)(a:Code->List α -> World->Prop)(xs:List α)(W:World):Exit->Act->World->Prop
 | .normal,_,W'=>zd T W W'/\I xs W'
 | .ret,_,W'=>zd T W W'/\a .ret xs W'
 | .exit id,_,W'=>zd T W W'/\a (.exit id) xs W'
 | .goto t,_,W'=>zd T W W'/\a (.goto t) xs W'
 | .panic _,_,_=>False
 | .outgrown,_,_=>False
theorem XQ{α : Type}{g:Operand}{ps:Array Tmp}{assign body:Code}{Q:Exit->Act->World->Prop}{a:Act} 
  (Da:a.eval g=.func (.func gf) #[] lb) (sa:∀args w,(callFunc gf args).run P w=.ok (.enter gf args) w)
  {enc : α -> Value} {xs:List α} (la:SeqK P gf lb enc S (fun b=>T b\/w.heap.size<=b) xs d) (Y:Bw d w) (Fa:ps.size=1)
  (Ca:∀b,S b->b<w.heap.size) (da:∀b,T b->b<w.heap.size)
  (I:List α -> World->Prop) (L:Code->List α -> World->Prop)
  (hI:∀s A B,I s A->zd (fun b=>S b\/w.heap.size<=b) A B->I s B) (hIx:∀c s A B,L c s A->zd (fun b=>S b\/w.heap.size<=b) A B->L c s B)
  (ua:I [] w) (Z : α -> Act)
  (Ea:∀(l:Nat) (x : α) (W:World) (K:Act->World->Prop),K (Z x) W ->
   assign.wpIn (Fence.wide.inRound l) n P (Exit.then K (fun _ _ _=>False)) {tmps:=(ps.zip #[enc x]).foldl (fun t (p,v)=>t.setIfInBounds p v) a.tmps,defers:=[]} W)
  (Ha:∀(l:Nat) (pre:List α) (x : α) (W:World),I pre W->w.heap.size<=W.heap.size->pre++[x] <+: xs->body.wpIn (Fence.wide.inRound l) n P (eT T I L (pre++[x]) W) (Z x) W)
  (ta:∀(W:World),I xs W->W.heap[w.heap.size]?=some (.deferred (some []))->Q .normal {a with defers:={target:=.collected w.heap.size,args:=#[]}::a.defers} W)
  (Ga:∀(c:Code) (pre:List α) (W:World),pre <+: xs->L c pre W->W.heap[w.heap.size]?=some (.deferred (some []))->c.wpIn Fence.wide n P Q {a with defers:={target:=.collected w.heap.size,args:=#[]}::a.defers} W) :
  (Code.rangeFunc g ps assign body).wpIn Fence.wide n P Q a w:=by
 have oa:∀m,Fence.wide.depth.isSome=true->1<=m:=fun m h=>by simp[Fence.wide]at h
 refine wpIn_rangeFunc fun fn _=>?_
 obtain⟨i,C⟩:∃i:LoopState->Option Code->Loop,i=fun st Ia=>{state:=st,pending:=Ia,fn,tmps:=a.tmps,params:=ps,assign,body,defers:=w.heap.size}:=⟨_,rfl⟩
 obtain⟨j,R⟩:∃j,(w.alloc (.deferred (some []))).alloc (.loop (i .ready none))=j:=⟨_,rfl⟩;have Ja:j.heap[w.heap.size+1]?=some (.loop (i .ready none)):=by
  rw[<-R];have:=World.alloc_heap_new (w.alloc (.deferred (some []))) (.loop (i .ready none));rwa[Vv]at this
 have ra:j.heap[w.heap.size]?=some (.deferred (some [])):=by
  rw[<-R];exact(Below.heap_alloc _ _ _ s_).trans (World.alloc_heap_new w _)
 have ba:Bw w j:=by rw[<-R];exact((Below.refl _ w).alloc (Nat.le_refl _) _).alloc s_ _
 have ka:I [] j:=hI _ _ _ ua (zd.new ba);have ma:Bw d j:=Y.trans (ba.mono Y.size);have U:∀ {A B:World} {k:Nat} {o:Obj},zd S A B->w.heap.size<=k->A.heap[k]?=some o->B.heap[k]?=some o:=fun {A B k o} f Oa ea=>by
  rw[f.block k (Vz.1 ea).1 (fun F=>by have:=Ca k F;omega)];exact ea
 refine⟨w.heap.size+1,[{target:=.collected w.heap.size,args:=#[]}],j,{target:=.fn (.func gf) lb,args:=#[.func (.yield (w.heap.size+1)) #[] #[]]},j,gf,
  #[.func (.yield (w.heap.size+1)) #[] #[]]++lb,j,?_,?_,?_,?_,oa _,?_⟩
 ·rw[<-R,C];exact run_enterLoop_outer _ _ _ _ _
 ·simp only[resolve,Da];simp[go_sem]
 ·intro Pa _;trivial
 ·simp[invoke,go_sem,sa]
 refine(la (n-1) (w.heap.size+1)
  (fun pre W=>I pre W/\W.heap[w.heap.size+1]?=some (.loop (i .ready none))/\W.heap[w.heap.size]?=some (.deferred (some [])))
  (fun pre W=>∃c,L c pre W/\W.heap[w.heap.size+1]?=some (.loop (i .done (some c)))/\W.heap[w.heap.size]?=some (.deferred (some [])))
  j ma (h_ Y.size)
  (fun s A B F f=>⟨hI s A B F.1 (f.mono fun b h=>.inl h),U f o_ F.2.1,U f o_ F.2.2⟩)
  (fun s A B F f=>by
   obtain⟨c,Aa,Ba,h3⟩:=F
   exact⟨c,hIx c s A B Aa (f.mono fun b h=>.inl h),U f o_ Ba,U f o_ h3⟩)
  ?_ ⟨ka,Ja,ra⟩).mono ?_
 ·rintro m pre x W ⟨O,E,f⟩ X
  have na:w.heap.size+1<W.heap.size:=(Vz.1 E).1;have ga:=run_yield (P:=P) (args:=#[enc x]) E (by rw[C];simp[Fa]);rw[C]at ga
  refine⟨fn,_,assign,body,ga,?_⟩
  obtain⟨u,N⟩:∃u,W.putObj (w.heap.size+1) (.loop {i .ready none with state:=.busy})=u:=⟨_,rfl⟩;have ja:zd (fun b=>T b\/w.heap.size<=b) W u:=by rw[<-N];exact(zd.refl _ _).putObj (.inr o_) _
  have La:zd (fun b=>S b\/w.heap.size<=b) W u:=by rw[<-N];exact(zd.refl _ _).putObj (.inr o_) _
  have ha:u.heap[w.heap.size+1]?=some (.loop {i .ready none with state:=.busy}):=by rw[<-N];exact World.putObj_heap_same na
  have aa:u.heap[w.heap.size]?=some (.deferred (some [])):=by rw[<-N];exact(World.putObj_heap_other o_).trans f
  have ca:RoundIn Fence.wide n P (w.heap.size+1) fn ((ps.zip #[enc x]).foldl (fun t (p,v)=>t.setIfInBounds p v) a.tmps) assign body W fun e W' =>
    (e=vR (.bool true)/\(I (pre++[x]) W'/\W'.heap[w.heap.size+1]?=some (.loop (i .ready none))/\W'.heap[w.heap.size]?=some (.deferred (some [])))/\zd (fun b=>T b\/w.heap.size<=b) W W') \/
    (e=vR (.bool false)/\∃c,L c (pre++[x]) W'/\W'.heap[w.heap.size+1]?=some (.loop (i .done (some c)))/\W'.heap[w.heap.size]?=some (.deferred (some []))):=by
   refine roundIn_of_wpIn trivial (Ea _ x W _ ⟨u,by rw[<-N];exact run_beginRound E (by rw[C]),?_⟩)
   have qa:w.heap.size<=u.heap.size:=by rw[<-N];simp;omega
   refine wpIn_mono (Ha _ pre x u (hI _ _ _ O La) qa X) ?_
   have fin:∀(M:Option Code) (q:World),zd T u q ->
     ∃y,(Instr.endRound (w.heap.size+1) M).run P q=.ok (.bool M.isNone) y/\zd (fun b=>S b\/w.heap.size<=b) q y/\zd (fun b=>T b\/w.heap.size<=b) W y /\
     y.heap[w.heap.size+1]?=some (.loop (i (if M.isNone then .ready else .done) M))/\y.heap[w.heap.size]?=some (.deferred (some [])):=fun M q r=>by
    have ia:q.heap[w.heap.size+1]?=some (.loop {i .ready none with state:=.busy}):=by
     rw[r.block _ (Vz.1 ha).1 (fun ht=>by have:=da _ ht;omega)];exact ha
    have Ka:q.heap[w.heap.size]?=some (.deferred (some [])):=by
     rw[r.block _ (Vz.1 aa).1 (fun ht=>by have:=da _ ht;omega)];exact aa
    have z:=run_endRound (P:=P) M ia
    refine⟨_,z,(zd.refl _ _).putObj (.inr o_) _,(ja.trans (r.mono fun b h=>.inl h)).putObj (.inr o_) _,?_,(World.putObj_heap_other o_).trans Ka⟩
    rw[World.putObj_heap_same (Vz.1 ia).1,C]
   rintro e Na q hp
   cases e with
   |normal =>
    obtain⟨r,G⟩:=hp;obtain⟨y,z,H,V,D,J⟩:=fin none q r
    exact⟨_,_,z,.inl ⟨rfl,⟨hI _ _ _ G H,D,J⟩,V⟩⟩
   |ret =>
    obtain⟨r,G⟩:=hp;obtain⟨y,z,H,V,D,J⟩:=fin (some .ret) q r
    exact⟨_,_,z,.inr ⟨rfl,.ret,hIx _ _ _ _ G H,D,J⟩⟩
   |exit id =>
    obtain⟨r,G⟩:=hp;obtain⟨y,z,H,V,D,J⟩:=fin (some (.exit id)) q r
    exact⟨_,_,z,.inr ⟨rfl,.exit id,hIx _ _ _ _ G H,D,J⟩⟩
   |goto t =>
    obtain⟨r,G⟩:=hp;obtain⟨y,z,H,V,D,J⟩:=fin (some (.goto t)) q r
    exact⟨_,_,z,.inr ⟨rfl,.goto t,hIx _ _ _ _ G H,D,J⟩⟩
   |panic ch=>exact hp.elim
   |outgrown=>exact hp.elim
  exact⟨ca.1,fun c pa _=>ca.2 c pa (room_wide _)⟩
 ·rintro e Ma ⟨⟨v,rfl⟩,(⟨O,E,f⟩|⟨pre,X,c,O,E,f⟩)⟩
  ·exact⟨none,_,by have:=run_endLoop (P:=P) E (by rw[C];simp);rw[C]at this;exact this,
    ta _ (hI _ _ _ O ((zd.refl _ _).putObj (.inr o_) _)) ((World.putObj_heap_other o_).trans f)⟩
  ·exact⟨some c,_,by have:=run_endLoop (P:=P) E (by rw[C];simp);rw[C]at this;exact this,
    Ga c pre _ X (hIx _ _ _ _ O ((zd.refl _ _).putObj (.inr o_) _)) ((World.putObj_heap_other o_).trans f)⟩
attribute [local go_sem] Oper.semAt_some
theorem oj(l:Bs):(ZM l = -1/\¬XG l)\/∃k:Nat,ZM l=k/\k<l.length/\l=l.take k++47::l.drop (k+1)/\¬XG (l.take k):=by
 unfold ZM XG
 induction l with
 |nil=>left;exact⟨rfl,s_⟩
 |cons b l f =>
  by_cases hb:b=47
  ·right;subst hb;exact⟨0,by simp[Lib.indexByte],s_,s_,s_⟩
  ·rcases f with ⟨a,c⟩|⟨k,a,c,h3,d⟩
   ·left
    refine⟨by simp[Lib.indexByte,hb,a],by simp[c];exact fun e=>hb e.symm⟩
   ·right
    refine⟨k+1,by simp[Lib.indexByte,hb,a]<;>omega,by simp<;>omega,?_,?_⟩
    ·simp only[List.take_succ_cons,List.drop_succ_cons,List.cons_append];exact congrArg _ h3
    ·simp[d];exact fun e=>hb e.symm
def eu (w:World)(b:Nat):Nat:=match w.cell? ⟨b,0,none⟩ with|some (.string r)=>r.size|_=>0
theorem hH{b:Nat}{r:ByteArray}(h:w.cell? ⟨b,0,none⟩=some (.string r)):eu w b=r.size:=by simp[eu,h]
theorem qg(s:ByteArray)(Y:s.size<=2000000)(d a f:Nat)(T:Nat->Prop)(w:World)
  (hd:d≠a/\f≠a) (v:¬T d/\¬T a/\¬T f)
  (hp:w.cell? (vA d 0)=some (vG ⟨#[47]⟩)) (c:w.cell? (vA a 0)=some (vG s)) (m:w.frozen? (vA a 0)=false) (g:w.cell? (vA f 0)=some (vI 0)) :
  SeqK prog 224 #[vP d,vP a,vP f] (fun l=>vG (sb l)) (fun b=>b=a) T (wN (bl s)) w:=by
 intro n l J O W x ga V ha I U;have Z:=VE w _ hp;have M:=VE w _ c;have aa:=VE w _ g
 replace hp:=(x.cell (p:=vA d 0) Z).trans hp
 replace c:=(x.cell (p:=vA a 0) M).trans c
 replace m:=(x.frozen (p:=vA a 0) M).trans m
 replace g:=(x.cell (p:=vA f 0) aa).trans g
 have u:∀k:Nat,Fence.wide.depth.isSome=true->1<=k:=fun k h=>by simp[Fence.wide]at h
 have ca:(⟨#[47]⟩:ByteArray).size=1:=rfl
 refine callsIn_of_wp func224 rfl trivial ?_ rfl
 simp only[ntmps224,zC,Nat.reduceAdd,Nat.reduceSub]
 gi_wp2
 gi_loopw [7] (fun _ wr=>∃(pre:List Bs) (r:ByteArray),wN (bl s)=pre++wN (bl r)/\r.size<=2000000/\J pre wr/\wr.cell? (vA a 0)=some (vG r)/\wr.frozen? (vA a 0)=false/\wr.cell? (vA d 0)=some (vG ⟨#[47]⟩)/\wr.cell? (vA f 0)=some (vI 0))
  (fun _ wr=>eu wr a)
 case atStart=>exact⟨[],s,rfl,Y,U,c,m,hp,g⟩
 case round =>
  clear hp c m g;obtain⟨pre,r,K,ia,D,c,m,hp,g⟩:=hrel;have j:Hid (wN (bl s)=pre++wN (bl r)):=K;clear K
  rcases oj (bl r) with ⟨z,y⟩|⟨k,z,o,t,y⟩
  ·have i:Hid (wN (bl r)=[bl r]):=Zt _ y;obtain⟨fn,tmps,assign,body,A,q⟩:=I (n-1) pre (bl r) wr D (by rw[j.out,i.out];exact List.prefix_refl _);rw[YU]at A
   gi_wp2_with (first
    |(refine⟨trivial,u _,?_⟩;gi_at_call 219;refine(UK.2 (hP _ _)).mono ?_;rw[z];rintro e w' ⟨rfl,rfl⟩)
    |(refine⟨u _,?_⟩;refine q.mono ?_;clear q;rintro e Q (⟨rfl,C,da⟩|⟨rfl,B⟩)))
   ·go_end0
    exact⟨⟨_,rfl⟩,.inl (by rw[j.out,i.out];exact C)⟩
   ·go_end0
    exact⟨⟨_,rfl⟩,.inr ⟨_,by rw[j.out,i.out];exact List.prefix_refl _,B⟩⟩
  ·rw[Wo]at o;have i:Hid (wN (bl r)=(bl r).take k::wN ((bl r).drop (k+1))):=by
    have H:=Zp ((bl r).take k) ((bl r).drop (k+1));rw[Zt _ y,<- t]at H;exact H
   obtain⟨fn,tmps,assign,body,A,q⟩:=I (n-1) pre ((bl r).take k) wr D (by rw[j.out,i.out];exact⟨wN ((bl r).drop (k+1)),s_⟩);have E:sb ((bl r).take k)=r.extract 0 k:=Wy (by rw[UO,YB];simp);have F:bl (r.extract (k+1) r.size)=(bl r).drop (k+1):=by
    rw[YB];exact Vl (by rw[List.length_drop,Wo];omega)
   have P:Hid (bl (r.extract (k+1) r.size)=(bl r).drop (k+1)):=F;rw[E]at A;clear E F;have ba:Hid (bl r=List.take k (bl r)++47::List.drop (k+1) (bl r)):=t;clear t;have ea:(k:Int)+1<=r.size:=o_;have G:=q.mono (R':=fun e W'=>(e=vR (.bool true)/\J (pre++[(bl r).take k]) W'/\W'.cell? (vA a 0)=some (vG r)/\W'.frozen? (vA a 0)=false/\W'.cell? (vA d 0)=some (vG ⟨#[47]⟩)/\W'.cell? (vA f 0)=some (vI 0))\/(e=vR (.bool false)/\O (pre++[(bl r).take k]) W'))
    (fun e W' h=>h.elim (fun ⟨t,X,o⟩=>.inl ⟨t,X,(o.cell (p:=vA a 0) (VE _ _ c) v.2.1).trans c,(o.frozen (p:=vA a 0) (VE _ _ c) v.2.1).trans m,
     (o.cell (p:=vA d 0) (VE _ _ hp) v.1).trans hp,(o.cell (p:=vA f 0) (VE _ _ g) v.2.2).trans g⟩) .inr)
   clear q
   gi_wp2_with (first
    |(refine⟨trivial,u _,?_⟩;gi_at_call 219;refine(UK.2 (hP _ _)).mono ?_;rw[z];rintro e w' ⟨rfl,rfl⟩)
    |(refine⟨u _,?_⟩;refine G.mono ?_;clear G;rintro e Q (⟨rfl,C,L,R,N,S⟩|⟨rfl,B⟩)))
   ·go_roundw
    case rel =>
     refine⟨pre++[(bl r).take k],r.extract (k+1) r.size,by rw[j.out,i.out,P.out];simp,by simp;omega,V _ _ _ C ((zd.refl (fun b=>b=a) _).setCell (p:=vA a 0) rfl _),?_,?_,?_,?_⟩
     ·exact World.cell?_setCell_same' _ _ _ (by rw[L];rfl)
     ·rw[World.frozen?_setCell];exact R
     ·rw[World.cell?_setCell_other _ _ _ _ (by intro e;cases e;exact hd.1 rfl)];exact N
     ·rw[World.cell?_setCell_other _ _ _ _ (by intro e;cases e;exact hd.2 rfl)];exact S
    case measure =>
     rw[hH (World.cell?_setCell_same' _ _ _ (by rw[L];rfl)),hH c]
     simp;omega
   ·refine Us (results_none rfl _ _ _) rfl ?_
    exact⟨⟨_,rfl⟩,.inr ⟨_,by rw[j.out,i.out];exact⟨wN ((bl r).drop (k+1)),s_⟩,B⟩⟩
theorem pX(T:Nat->Prop)(w:World):SeqK prog 151 #[] (fun l:Bs=>vG (sb l)) (fun _=>False) T [] w:=by
 intro n l J b W d f c g e a
 refine callsIn_of_wp func151 rfl trivial ?_ rfl
 simp only[ntmps151,zC,Nat.reduceAdd,Nat.reduceSub]
 gi_wp2
 go_end0
 exact⟨⟨_,rfl⟩,.inl a⟩
attribute [local go_sem] Oper.semAt_some
theorem dB(s:ByteArray)(d:s.size<=2000000)(w:World):
  Calls prog 102 #[vG s] w fun e w'=>∃gf lb,e=vR (.func (.func gf) #[] lb)/\(∀args w,(callFunc gf args).run prog w=.ok (.enter gf args) w) /\
   Bw w w'/\∀T:Nat->Prop,(∀b,w.heap.size<=b->b<w'.heap.size->¬T b) ->
    ∃S:Nat->Prop,(∀b,S b->w.heap.size<=b/\b<w'.heap.size)/\SeqK prog gf lb (fun l:Bs=>vG (sb l)) S T (s4 (bl s)) w':=by
 refine(rC s w).mono ?_
 rintro e w' (⟨a,rfl,rfl⟩|⟨a,rfl,rfl⟩)
 ·refine⟨151,#[],rfl,enters_of func151 k_ rfl,Below.refl _ _,fun T _=>⟨fun _=>False,fun _ h=>h.elim,?_⟩⟩
  rw[show s4 (bl s)=[] by simp[s4,a]]
  exact pX T _
 ·refine⟨224,_,rfl,enters_of func224 k_ rfl,by(repeat (first|exact Below.refl _ _|refine s5 ?_ (by assumption)|refine Below.setCell ?_ g_ _|refine Below.alloc ?_ g_ _|refine Below.drew ?_|refine UT ?_ _)),fun T c=>⟨fun b=>b=w.heap.size,fun b h=>by subst h;exact⟨Nat.le_refl _,by simp;omega⟩,?_⟩⟩
  rw[show s4 (bl s)=wN (bl s) by simp[s4,a]]
  refine qg s d _ _ _ T _ o_ ⟨c _ o_ u_,c _ o_ u_,c _ o_ u_⟩ ?_ ?_ ?_ ?_
  all_goals simp[go_sem]
theorem zz.put{W:World}{b:Nat}{t:TypeId}{v:Value}(h:zz W b t v)(D:Nat)(o:Obj)(a:b≠D):zz (W.putObj D o) b t v:=(World.putObj_heap_other a).trans h
theorem Wn(h:Below B w A)(D:Nat)(o:Obj)(a:B<=D):Below B w (A.putObj D o) :=
 h.trans ⟨rfl,rfl,rfl,s_,fun k b=>World.putObj_heap_other o_⟩
theorem bH(s:ByteArray)(a:s.size<=2000000)(w:World):
  Calls prog 62 #[vG s] w fun e w'=>e=vR (.bool (UB (bl s)))/\Bw w w':=by
 have t:∀k:Nat,Fence.wide.depth.isSome=true->1<=k:=fun k h=>by simp[Fence.wide]at h
 refine(UK (n:=3)).1 ?_
 refine callsIn_of_wp_marks func62 rfl trivial ?_ rfl
 simp only[ntmps62,zC,Nat.reduceAdd,Nat.reduceSub]
 gi_wp2_with ((first|refine⟨trivial,t _,?_⟩|refine⟨trivial,?_⟩);gi_at_call 102;refine(UK.2 (dB s a _)).mono ?_;rintro e W ⟨gf,lb,rfl,I,hb,z⟩)
 obtain⟨S,E,hq⟩:=z (fun b=>b=w.heap.size\/W.heap.size<=b) (fun b u J h=>by simp at u;omega);have i:zz W w.heap.size 4 (.bool false):=(zz.new w 4 _).below hb s_;have H:Bw w W:=s5 ((Below.refl _ _).alloc (Nat.le_refl _) _) hb;clear z;have o:∀b,b<=w.heap.size->¬(S b\/W.heap.size<=b):=fun b C h=>by
  have J:=i.lt
  rcases h with h|h
  ·have u:=(E _ h).1;simp at u;omega
  ·omega
 refine XQ (T:=fun b=>b=w.heap.size) rfl I hq (Below.refl _ _) rfl (fun b h=>(E b h).2) (fun b h=>h ▸ i.lt)
  (fun pre A=>pre.all Vs=true/\zz A w.heap.size 4 (.bool false)/\Bw w A)
  (fun c pre A=>c=.ret/\UB (bl s)=false/\zz A w.heap.size 4 (.bool false)/\Bw w A)
  (fun pre A B a j=>⟨a.1,a.2.1.zf j (o _ (Nat.le_refl _)),a.2.2.trans (j.ya a.2.2.size (fun b C=>o b o_))⟩)
  (fun c pre A B a j=>⟨a.1,a.2.1,a.2.2.1.zf j (o _ (Nat.le_refl _)),a.2.2.2.trans (j.ya a.2.2.2.size (fun b C=>o b o_))⟩)
  ⟨rfl,i,H⟩
  (fun x=>{tmps:=#[vG s,undef,vP w.heap.size,vG (sb x),vG s,.func (.func gf) #[] lb,vG (sb x),undef,undef,undef],defers:=[]}) ?assign ?body ?done ?stop
 case assign =>
  intro l x W K L
  gi_wp2
  exact L
 case body =>
  rintro l pre x P ⟨q,d,g⟩ Q y
  have D:x∈s4 (bl s):=y.subset s_;have F:(sb x).size<=maxLen:=by
   rw[Wq];have:=mC _ _ D;rw[Wo]at this;unfold maxLen;omega
  have f:=mK (sb x);rw[UO]at f;have M:=d.cell;have N:=d.frozen
  cases m:Vs x
  ·rw[m]at f
   gi_wp2_with ((first|refine⟨trivial,t _,?_⟩|refine⟨trivial,?_⟩);gi_at_call 103;refine(CallsIn.inRound l (UK.2 (f _ F))).mono ?_;rintro e w' ⟨rfl,rfl⟩)
   refine⟨(zd.refl (fun b=>b=w.heap.size) _).setCell (p:=vA w.heap.size 0) rfl _,rfl,?_,d.set _,g.setCell (Nat.le_refl _) _⟩
   rw[UB,List.all_eq_false];exact⟨x,D,by simp[m]⟩
  ·rw[m]at f
   gi_wp2_with ((first|refine⟨trivial,t _,?_⟩|refine⟨trivial,?_⟩);gi_at_call 103;refine(CallsIn.inRound l (UK.2 (f _ F))).mono ?_;rintro e w' ⟨rfl,rfl⟩)
   exact⟨zd.refl _ _,by simp[q,m],d,g⟩
 case done =>
  rintro A ⟨q,d,g⟩ v
  have M:=d.cell;have N:=d.frozen
  gi_wp2
  have G:=i.lt;have O:(A.setCell (vA w.heap.size 0) (.bool true)).heap[W.heap.size]?=some (.deferred (some [])):=(Below.heap_setCell _ _ _ _ t_).trans v;have r:=((d.set (.bool true)).put W.heap.size (.deferred none) o_).cell
  refine⟨s_,.inl ⟨_,_,rfl,run_takeDeferred O,?_⟩⟩
  refine⟨.bool true,by simp[results,results159,go_sem,r],VP (by rw[UB];exact q.symm),Wn (g.setCell (Nat.le_refl _) _) _ _ o_⟩
 case stop =>
  rintro c pre A y ⟨rfl,f,d,g⟩ v
  gi_wp2
  have G:=i.lt;have r:=(d.put W.heap.size (.deferred none) o_).cell
  refine⟨s_,.inl ⟨_,_,rfl,run_takeDeferred v,?_⟩⟩
  refine⟨.bool false,by simp[results,results159,go_sem,r],VP f.symm,Wn g _ _ o_⟩
end
section
open Go
theorem Zy(a b:UInt8)(d c:Bs):Lib.compareBytes (a::d) (b::c)=if a<b then -1 else if b<a then 1 else Lib.compareBytes d c:=by
 simp[Lib.compareBytes]
theorem XL:∀a:Bs,Lib.compareBytes a a=0
 | []=>rfl
 |a::b=>by rw[Zy];simp[XL b]
theorem bI:∀a b:Bs,Lib.compareBytes a b=0->a=b
 | [],[],_=>rfl
 | [],_::_,h=>by simp[Lib.compareBytes]at h
 |_::_,[],h=>by simp[Lib.compareBytes]at h
 |a::f,b::e,h=>by
  rw[Zy]at h
  by_cases c:a<b
  ·simp[c]at h
  ·by_cases d:b<a
   ·simp[c,d]at h
   ·simp only[c,d,if_false]at h
    have:a=b:=UInt8.le_antisymm (UInt8.not_lt.1 d) (UInt8.not_lt.1 c)
    rw[this,bI f e h]
theorem bY:∀a b:Bs,Lib.compareBytes a b = - Lib.compareBytes b a
 | [],[]=>rfl
 | [],_::_=>rfl
 |_::_,[]=>rfl
 |a::f,b::e=>by
  rw[Zy,Zy]
  by_cases c:a<b
  ·have d:¬b<a:=UInt8.not_lt.2 (UInt8.le_of_lt c)
   simp[c,d]
  ·by_cases d:b<a
   ·simp[c,d]
   ·simp only[c,d,if_false];exact bY f e
theorem bj:∀a b c:Bs,Lib.compareBytes a b<0->Lib.compareBytes b c<0->Lib.compareBytes a c<0
 | [],[],_,h,_=>by simp[Lib.compareBytes]at h
 | [],b::g,[],_,h=>by simp[Lib.compareBytes]at h
 | [],b::g,c::l,_,_=>by simp[Lib.compareBytes]
 |a::j,[],_,h,_=>by simp[Lib.compareBytes]at h
 |a::j,b::g,[],_,h=>by simp[Lib.compareBytes]at h
 |a::j,b::g,c::l,i,f=>by
  rw[Zy]at i f ⊢
  by_cases d:a<b
  ·by_cases bc:b<c
   ·simp[UInt8.lt_trans d bc]
   ·by_cases e:c<b
    ·simp[bc,e]at f
    ·have:b=c:=UInt8.le_antisymm (UInt8.not_lt.1 e) (UInt8.not_lt.1 bc)
     subst this;simp[d]
  ·by_cases k:b<a
   ·simp[d,k]at i
   ·have:a=b:=UInt8.le_antisymm (UInt8.not_lt.1 k) (UInt8.not_lt.1 d)
    subst this;simp only[d,if_false]at i
    by_cases bc:a<c
    ·simp[bc]
    ·by_cases e:c<a
     ·simp[bc,e]at f
     ·simp only[bc,e,if_false]at f ⊢
      exact bj j g l i f
end
section
open Go.RowKit
variable {W W':World}{b i j:Nat}{v:Value}{T:Nat->Prop}
theorem hz(b:Nat)(nm x:ByteArray)(w:World)(h:w.cell? (vA b 0)=some (vG nm)):
  Calls prog 154 #[vP b,vG x] w fun e w'=>e=vR (vI (yn (bl nm) (bl x)))/\w'=w:=by
 go_enter func154,ntmps154
 go_wp2_with (go_at_call 155;refine(nZ _ _ _).mono ?_;rintro e a ⟨rfl,rfl⟩)
 go_ret
 exact⟨rfl,rfl⟩
def wm (ns:List Bs)(x:Bs)(zl:Nat)(a:Bool):Prop :=
 zl<=ns.length/\(∀(j:Nat) (n:Bs),j<zl->ns[j]?=some n->yn n x<0)/\(∀(j:Nat) (n:Bs),zl<=j->ns[j]?=some n->0<=yn n x)/\(a=true↔ns[zl]?=some x)
theorem h4(x:Bs):wm [] x 0 false:=⟨Nat.le_refl _,s_,s_,s_⟩
theorem nF(x:ByteArray)(w:World):
  Calls prog 153 #[v0_,vG x,.func (.func 154) #[] #[]] w fun e w'=>e=vT #[vI 0,.bool false]/\w'=w:=by
 go_enter func153,ntmps153
 go_wp2
 refine wp_loop_rounds 1 ?_
 rw[rounds_succ]
 go_wp2
 go_ret2
 exact⟨rfl,rfl⟩
def ai (ns:List Bs)(x:Bs)(e:Ending):Prop:=∃(zl:Nat) (a:Bool),e=vT #[vI zl,.bool a]/\wm ns x zl a
theorem nE(a cap:Nat)(r:List Nat)(ns:List Bs)(x:ByteArray)(w:World)(R:r.length=ns.length)(N:ns.length<=1000)
  (H:ns.Pairwise fun a b=>yn a b<0)
  (F:∀(j b:Nat),r[j]?=some b->w.cell? (vA a j)=some (vP b))
  (G:∀(j b:Nat) (n:Bs),r[j]?=some b->ns[j]?=some n->w.cell? (vA b 0)=some (vG (sb n))) :
  Calls prog 153 #[vS a ns.length cap,vG x,.func (.func 154) #[] #[]] w fun e w' =>
   ai ns (bl x) e/\w'=w:=by
 have l:∀j,j<ns.length->∃b n,ns[j]?=some n/\w.cell? (vA a j)=some (vP b)/\w.cell? (vA b 0)=some (vG (sb n)):=fun j z=>by
  have g:r[j]?=some (r[j]'o_):=Ur _;have c:ns[j]?=some (ns[j]'z):=Ur _
  exact⟨_,_,c,F _ _ g,G _ _ _ g c⟩
 have mono:∀(i j:Nat) (n m:Bs),i<j->ns[i]?=some n->ns[j]?=some m->yn n m<0:=fun i j n m S g c=>by
  obtain⟨P,rfl⟩:=Uy.1 g;obtain⟨z,rfl⟩:=Uy.1 c
  exact List.pairwise_iff_getElem.1 H i j P z S
 clear F G;obtain⟨L,u⟩:∃L,L=ns.length:=⟨_,rfl⟩;rw[<-u];rw[<-u]at l N;have t:Hid (L=ns.length):=u;clear u H R
 go_enter func153,ntmps153
 go_wp2
 go_loop [9,10] (fun i j=>∃p q:Nat,i=vI p/\j=vI q/\p<=q/\q<=L/\(∀(k:Nat) (n:Bs),k<p->ns[k]?=some n->yn n (bl x)<0)/\(∀(k:Nat) (n:Bs),q<=k->ns[k]?=some n->0<=yn n (bl x)))
  (fun i j=>(intOf j-intOf i).toNat)
 case atStart=>exact⟨0,L,rfl,rfl,Nat.zero_le _,Nat.le_refl _,fun k n h=>by omega,fun k n h E=>by rw[List.getElem?_eq_none (h_ t.out)]at E;cases E⟩
 case round =>
  obtain⟨p,q,rfl,rfl,U,M,I,C⟩:=hrel;have y:Hid (∀(k:Nat) (n:Bs),k<p->ns[k]?=some n->yn n (bl x)<0):=I;have v:Hid (∀(k:Nat) (n:Bs),q<=k->ns[k]?=some n->0<=yn n (bl x)):=C;have D:Hid (∀(i j:Nat) (n m:Bs),i<j->ns[i]?=some n->ns[j]?=some m->yn n m<0):=mono;clear I C mono
  by_cases T:p<q
  ·have K:(p+q) / 2<L:=o_;obtain⟨b,n,s,O,A⟩:=l ((p+q) / 2) K;have d:Hid (ns[(p+q) / 2]?=some n):=s;clear s l;have f:=hz b (sb n) x w A;rw[UO]at f
   by_cases B:yn n (bl x)<0
   ·go_wp2_with (go_at_call 154;refine f.mono ?_;rintro e J ⟨rfl,rfl⟩)
    go_round
    case rel =>
     refine⟨(p+q) / 2+1,q,by go_num,rfl,o_,M,fun k m Q o=>?_,v.out⟩
     rcases Nat.lt_or_ge k ((p+q) / 2) with h|h
     ·exact bj _ _ _ (D.out _ _ _ _ h o d.out) B
     ·obtain rfl:k=(p+q) / 2:=o_
      have:=d.out;rw[o]at this;cases this;exact B
    case measure=>simp[intOf];omega
   ·go_wp2_with (go_at_call 154;refine f.mono ?_;rintro e J ⟨rfl,rfl⟩)
    go_round
    case rel =>
     refine⟨p,(p+q) / 2,rfl,by go_num,o_,o_,y.out,fun k m Q o=>?_⟩
     rcases Nat.lt_or_ge ((p+q) / 2) k with h|h
     ·have g:=D.out _ _ _ _ h d.out o
      rcases Int.lt_or_le (yn m (bl x)) 0 with c|c
      ·exact absurd (bj _ _ _ g c) (Int.not_lt.2 B)
      ·exact c
     ·obtain rfl:k=(p+q) / 2:=o_
      have:=d.out;rw[o]at this;cases this;omega
    case measure=>simp[intOf];omega
  ·obtain rfl:p=q:=o_
   by_cases hpL:p<L
   ·obtain⟨b,n,s,O,A⟩:=l p hpL;have d:Hid (ns[p]?=some n):=s;clear s l;have f:=hz b (sb n) x w A;rw[UO]at f
    go_wp2_with (go_at_call 154;refine f.mono ?_;rintro e J ⟨rfl,rfl⟩)
    go_ret2
    refine⟨⟨p,_,rfl,by have:=t.out;omega,y.out,v.out,?_⟩,rfl⟩
    rw[d.out];simp only[Option.some.injEq,beq_iff_eq]
    exact⟨fun h=>bI _ _ h,fun h=>by rw[h];exact XL _⟩
   ·go_wp2
    go_ret2
    refine⟨⟨p,false,rfl,by have:=t.out;omega,y.out,v.out,?_⟩,rfl⟩
    rw[List.getElem?_eq_none (h_ t.out)]
    simp
theorem il(bq:Nat)(a cap:Nat)(c:List Nat)(ns:List Bs)(x:ByteArray)(w:World)(l:c.length=ns.length)(i:ns.length<=1000)
  (g:ns.Pairwise fun a b=>yn a b<0)
  (o:w.cell? (vA bq 7)=some (vS a ns.length cap))
  (d:∀(j b:Nat),c[j]?=some b->w.cell? (vA a j)=some (vP b))
  (f:∀(j b:Nat) (n:Bs),c[j]?=some b->ns[j]?=some n->w.cell? (vA b 0)=some (vG (sb n))) :
  Calls prog 104 #[vP bq,vG x] w fun e w'=>ai ns (bl x) e/\w'=w:=by
 have h:=nE a cap c ns x w l i g d f;clear d f g
 go_enter func104,ntmps104
 go_wp2_with (go_at_call 153;refine h.mono ?_;rintro e q ⟨⟨p,m,rfl,k⟩,rfl⟩)
 go_ret2
 exact⟨⟨p,m,rfl,k⟩,rfl⟩
theorem im(bq:Nat)(x:ByteArray)(w:World)(a:w.cell? (vA bq 7)=some v0_):
  Calls prog 104 #[vP bq,vG x] w fun e w'=>ai [] (bl x) e/\w'=w:=by
 go_enter func104,ntmps104
 go_wp2_with (go_at_call 153;refine(nF x w).mono ?_;rintro e b ⟨rfl,rfl⟩)
 go_ret2
 exact⟨⟨0,false,rfl,h4 _⟩,rfl⟩
theorem Yz{α β : Type}{f : α -> β}{l:List α}(h:(l.map f).Nodup):l.Nodup:=by
 unfold List.Nodup at *;rw[List.pairwise_map]at h
 exact h.imp (fun a e=>a (by rw[e]))
theorem YD{α : Type}[DecidableEq α]:∀ {l l':List α},l.Nodup->(∀x∈l,x∈l')->l.length<=l'.length
 | [],_,_,_=>Nat.zero_le _
 |a::l,l',h,c=>by
  have b:=c a s_;obtain⟨f,g⟩:=List.nodup_cons.1 h;have h3:=YD (l:=l) (l':=l'.erase a) g (fun x d=>(List.mem_erase_of_ne (fun e=>f (by rw[<-e];exact d))).2 (c x (by simp[d])));rw[List.length_erase_of_mem b]at h3
  have:=List.length_pos_of_mem b
  simp;omega
structure zc where
 ze:Nat
 zb:List Bs
 zj:Bool
 n0:Int
 n1:Int
 b0:Int
 b1:Int
 up:Option Nat
 sl:Value
 zv:List Nat
def zi (b:Nat):Value:=vP b
def vd (b:Option Nat):Value:=.pointer (b.map fun x=>(vA x 0))
def mN (k:List Bs):Bs:=k.getLastD []
theorem Wm(k:List Bs)(n:Bs):mN (k++[n])=n:=by simp[mN]
def zc.cells(n:zc):Array Value:=#[vG (sb (mN n.zb)),.bool n.zj,vI n.n0,vI n.n1,vI n.b0,vI n.b1,vd n.up,n.sl]
structure UA (W:World) (n:zc):Prop where
 zl:W.heap[n.ze]?=some (.cells n.cells 136 (0,0))
 row:W.ownsRow 0 97 1 n.sl n.zv.length (n.zv.map zi)
structure zr (za:List zc):Prop where
 root:∃r,za[0]?=some r/\r.zb=[]/\r.zj=false/\r.b0=0/\r.b1=0
 inj:∀n∈za,∀m∈za,n.zb=m.zb->n=m
 nodup:(za.map (·.zb)).Nodup
 ok:∀n∈za,UL n.zb=true/\n.zb.length<=4
 zm:∀n∈za,(0<=n.n0/\n.n0<=1000)/\(0<=n.n1/\n.n1<=1000)/\(0<=n.b0/\n.b0<=1000)/\(0<=n.b1/\n.b1<=1000)/\(n.zj=false->n.n0=0/\n.n1=0)
 top:∀n∈za,n.zb=[]->n.up=none
 par:∀n∈za,∀k x,n.zb=k++[x]->∃p∈za,p.zb=k/\p.zj=false/\n.up=some p.ze
 zv:∀p∈za,∃ks:List zc,p.zv=ks.map (·.ze)/\(∀k,k∈ks↔(k∈za/\∃x,k.zb=p.zb++[x]))/\(ks.map fun k=>mN k.zb).Pairwise fun a b=>yn a b<0
 len:za.length<=20
theorem zr.pre{za:List zc}(T:zr za):∀(r:List Bs) (k:List Bs) (n:zc),n∈za->n.zb=k++r->∃m∈za,m.zb=k:=by
 intro r
 induction h:r.length generalizing r with
 |zero =>
  intro k n b a
  have:r=[]:=List.eq_nil_of_length_eq_zero h
  subst this;exact⟨n,b,by simpa using a⟩
 |succ j f =>
  intro k n b a;have c:r≠[]:=fun e=>by subst e;simp at h
  have e:r=r.dropLast++[r.getLast c]:=(List.dropLast_concat_getLast c).symm;rw[e,<- List.append_assoc]at a;obtain⟨p,hp,d,_,_⟩:=T.par n b _ _ a
  exact f r.dropLast (by simp[h]) k p hp d
theorem UA.lt{n:zc}(h:UA W n):n.ze<W.heap.size:=(Vz.1 h.zl).1
theorem UA.cell{n:zc}(h:UA W n)(a:n.cells[i]?=some v):W.cell? (vA n.ze i)=some v:=by
 unfold World.cell?
 have:=h.zl
 simp only[this];simpa using a
theorem UA.frozen{n:zc}(h:UA W n)(i:Nat):W.frozen? (vA n.ze i)=false:=by
 unfold World.frozen?
 have:=h.zl
 simp only[this];simp
theorem UA.name{n:zc}(h:UA W n):W.cell? (vA n.ze 0)=some (vG (sb (mN n.zb))):=h.cell rfl
theorem UA.below{n:zc}(h:UA W n)(hb:Bw W W'):UA W' n:=by
 refine⟨(hb.block _ h.lt).trans h.zl,h.row.kept (row:=none) ⟨hb.os,hb.tape,hb.output,hb.size,fun k a _=>hb.block k a⟩ ?_⟩
 cases b:n.sl.ownBlock
 ·exact .inl rfl
 ·exact .inr s_
theorem UA.zf{n:zc}(h:UA W n)(hb:zd T W W')(f:¬T n.ze)(i:∀g,n.sl.ownBlock=some g->¬T g):UA W' n:=by
 refine⟨(hb.block _ h.lt f).trans h.zl,?_⟩
 obtain⟨j,a⟩:=h.row
 refine⟨j,?_⟩
 rcases a with a|⟨g,cap,d,c,e,b,rest⟩
 ·exact .inl a
 ·exact .inr ⟨g,cap,d,c,e,(hb.block g (Vz.1 b).1 (i g (by rw[c];rfl))).trans b,rest⟩
theorem UA.kid{n:zc}(h:UA W n)(a:n.zv[j]?=some b):∃g cap,n.sl=vS g n.zv.length cap/\W.cell? (vA g j)=some (zi b):=by
 obtain⟨p,f⟩:=h.row
 rcases f with ⟨d,m⟩|⟨g,cap,i,d,l,e,r,q,o,ht⟩
 ·rw[List.getElem?_eq_none o_]at a;cases a
 ·refine⟨g,cap,d,?_⟩
  unfold World.cell?;simp only[e];have c:(n.zv.map zi)[j]?=some (zi b):=by simp[a]
  rw[<-ht]at c;have k:j<n.zv.length:=(Uy.1 a).1;rw[List.getElem?_take_of_lt o_]at c
  simpa using c
theorem hA{za:List zc}(T:zr za)(u:∀n∈za,UA W n){p:zc}(hp:p∈za)(x:ByteArray):
  Calls prog 104 #[zi p.ze,vG x] W fun e w'=>(∃c:List zc,p.zv=c.map (·.ze)/\(∀k,k∈c↔(k∈za/\∃x,k.zb=p.zb++[x]))/\(c.map fun k=>mN k.zb).Pairwise (fun a b=>yn a b<0)/\ai (c.map fun k=>mN k.zb) (bl x) e)/\w'=W:=by
 obtain⟨c,l,m,o⟩:=T.zv p hp;have r:=u p hp;have d:W.cell? (vA p.ze 7)=some p.sl:=r.cell rfl;have s:p.zv.length=c.length:=by rw[l];simp
 obtain⟨L,C⟩:=r.row
 rcases C with ⟨q,I⟩|⟨g,cap,G,q,H,K,M,N,J,ht⟩
 ·have:c=[]:=List.eq_nil_of_length_eq_zero o_
  subst this;rw[q]at d
  refine(im p.ze x W d).mono ?_
  rintro e w' ⟨h,rfl⟩
  exact⟨⟨[],l,m,o,h⟩,rfl⟩
 ·rw[q,s]at d;have F:c.length<=1000:=by
   have y:(c.map (·.zb)).Nodup:=by
    have:(c.map fun k=>mN k.zb).Nodup:=o.imp (fun {a b} h e=>by subst e;rw[show yn a a=0 from XL a]at h;omega)
    rw[show(c.map fun k=>mN k.zb)=(c.map (·.zb)).map mN by simp]at this
    exact Yz this
   have A:(c.map (·.zb)) ⊆ za.map (·.zb):=by
    intro k z;obtain⟨n,i,rfl⟩:=UC.1 z
    exact UC.2 ⟨n,((m n).1 i).1,rfl⟩
   have B:=YD y A;have h3:=T.len
   simp at B;omega
  have E:(c.map fun k=>mN k.zb).length=c.length:=s_;rw[<-E]at d
  refine(il p.ze g cap p.zv (c.map fun k=>mN k.zb) x W (by simp[s]) (j_ F) o d ?_ ?_).mono ?_
  ·intro j b f;obtain⟨g',cap',t,D⟩:=r.kid f;rw[q]at t;cases t;exact D
  ·intro j b n f i;rw[l]at f;simp only[VB,Option.map_eq_some_iff]at f i;obtain⟨k,v,rfl⟩:=f;obtain⟨k',w,rfl⟩:=i;rw[v]at w;cases w
   exact(u k ((m k).1 (Uq v)).1).name
  ·rintro e w' ⟨h,rfl⟩
   exact⟨⟨c,l,m,o,h⟩,rfl⟩
end
section
open Go.RowKit Go.Shelf
variable {a:List Bs}
attribute [local go_sem] Oper.semAt_some
def iI (za:List zc)(a:List Bs)(e:Ending):Prop:=(∃n∈za,n.zb=a/\e=vR (zi n.ze))\/((∀n∈za,n.zb≠a)/\e=vR (.pointer none))
theorem zr.rE{za:List zc}(T:zr za){p:zc}(hp:p∈za){c:List zc}(g:∀k,k∈c↔(k∈za/\∃x,k.zb=p.zb++[x])){x:Bs}(j:x ∉ c.map fun k=>mN k.zb)
  (f:p.zb++[x] <+: a):∀n∈za,n.zb≠a:=by
 intro n h e;obtain⟨r,i⟩:=f;rw[<-i]at e;obtain⟨m,d,b⟩:=T.pre r (p.zb++[x]) n h e
 exact j (UC.2 ⟨m,(g m).2 ⟨d,x,b⟩,by rw[b,Wm]⟩)
def tt (za:List zc)(n:zc)(x:Bs)(W:World)(e:Ending):Prop :=
 (∃(zl:Nat) (k:zc) (g cap:Nat),e=vT #[vI zl,.bool true]/\k∈za/\k.zb=n.zb++[x]/\zl<n.zv.length/\W.cell? (vA n.ze 7)=some (vS g n.zv.length cap)/\W.cell? (vA g zl)=some (vP k.ze)) \/
 (∃(zl:Nat),e=vT #[vI zl,.bool false]/\∀a,n.zb++[x] <+: a->∀m∈za,m.zb≠a)
theorem jI{za:List zc}(T:zr za){n:zc}(c:n∈za)(x:Bs)(W:World)(f:∀n∈za,UA W n):
  Calls prog 104 #[vP n.ze,vG (sb x)] W fun e w'=>tt za n x W e/\w'=W:=by
 refine(hA T f c (sb x)).mono ?_
 rintro e w' ⟨⟨D,w,r,z,zl,E,rfl,F,t,i,d⟩,rfl⟩
 refine⟨?_,rfl⟩
 rw[UO]at d t i
 cases E with
 |true =>
  left
  have p:=d.1 rfl;simp only[VB,Option.map_eq_some_iff]at p;obtain⟨k,o,m⟩:=p;obtain⟨C,y,s⟩:=(r k).1 (Uq o);rw[s,Wm]at m;subst m;have b:n.zv[zl]?=some k.ze:=by rw[w];simp[o]
  obtain⟨g,cap,A,u⟩:=(f n c).kid b
  exact⟨zl,k,g,cap,rfl,C,s,(Uy.1 b).1,by rw[<-A];exact(f n c).cell rfl,u⟩
 |false =>
  right
  refine⟨zl,rfl,fun a v=>T.rE c r (fun B=>?_) v⟩
  obtain⟨j,b⟩:=Vh B;have G:yn x x=0:=XL x
  rcases Nat.lt_or_ge j zl with h|h
  ·have:=t j x h b;omega
  ·rcases Nat.lt_or_ge zl j with q|q
   ·-- the one at the place is less than x
    have l:zl<(D.map fun k=>mN k.zb).length:=by have:=(Uy.1 b).1;omega
    have h3:=List.pairwise_iff_getElem.1 z zl j l (Uy.1 b).1 q;rw[(Uy.1 b).2]at h3;have H:=i zl _ (Nat.le_refl _) (Ur l)
    omega
   ·obtain rfl:j=zl:=o_
    have:=d.2 b;cases this
theorem sE{za:List zc}(T:zr za){r:zc}(X:r∈za)(N:r.zb=[])(s:ByteArray)(a:s.size<=2000000)(w:World)(V:∀n∈za,UA w n):
  Calls prog 63 #[zi r.ze,vG s] w fun e w'=>iI za (s4 (bl s)) e/\Bw w w':=by
 have E:∀k:Nat,Fence.wide.depth.isSome=true->1<=k:=fun k h=>by simp[Fence.wide]at h
 refine(UK (n:=3)).1 ?_
 refine callsIn_of_wp_marks func63 rfl trivial ?_ rfl
 unfold zi;simp only[ntmps63,zC,Nat.reduceAdd,Nat.reduceSub]
 gi_wp2_with ((first|refine⟨trivial,E _,?_⟩|refine⟨trivial,?_⟩);gi_at_call 102;refine(UK.2 (dB s a _)).mono ?_;rintro e W ⟨gf,lb,rfl,R,hb,C⟩)
 have ha:w.heap.size+2<=W.heap.size:=by have:=hb.size;simp at this;omega
 obtain⟨S,G,hq⟩:=C (fun b=>(b=w.heap.size\/b=w.heap.size+1)\/W.heap.size<=b) (fun b m F h=>by simp at m;omega);have ba:zz W w.heap.size 97 (.pointer none):=((zz.new w 97 _).alloc _).below hb u_;have ca:zz W (w.heap.size+1) 97 (vP r.ze):=by
  have:=zz.new (w.alloc (.cells #[.pointer none] 97)) 97 (vP r.ze)
  rw[Vv]at this
  exact this.below hb s_
 have P:Bw w W:=s5 (((Below.refl _ _).alloc (Nat.le_refl _) _).alloc s_ _) hb;clear C hb;have q:∀b,b<=w.heap.size+1->¬(S b\/W.heap.size<=b):=fun b D h=>by
  rcases h with h|h
  ·have m:=(G _ h).1;simp at m;omega
  ·omega
 refine XQ (T:=fun b=>b=w.heap.size\/b=w.heap.size+1) rfl R hq (Below.refl _ _) rfl (fun b h=>(G b h).2) (fun b h=>by omega)
  (fun pre A=>(∃n∈za,n.zb=pre/\zz A (w.heap.size+1) 97 (vP n.ze))/\zz A w.heap.size 97 (.pointer none)/\Bw w A)
  (fun c pre A=>c=.ret/\(∀n∈za,n.zb≠s4 (bl s))/\zz A w.heap.size 97 (.pointer none)/\Bw w A)
  (fun pre A B a j=>⟨by obtain⟨n,m,F,h3⟩:=a.1;exact⟨n,m,F,h3.zf j (q _ (Nat.le_refl _))⟩,a.2.1.zf j (q _ o_),a.2.2.trans (j.ya a.2.2.size (fun b D=>q b o_))⟩)
  (fun c pre A B a j=>⟨a.1,a.2.1,a.2.2.1.zf j (q _ o_),a.2.2.2.trans (j.ya a.2.2.2.size (fun b D=>q b o_))⟩)
  ⟨⟨r,X,N,ca⟩,ba,P⟩
  (fun x=>{tmps:=#[vP r.ze,vG s,undef,undef,vP w.heap.size,vP (w.heap.size+1),vG (sb x),undef,undef,
   vP r.ze,vG s,.func (.func gf) #[] lb,vG (sb x),undef,undef,undef,undef,undef,undef,undef,undef,undef,undef,undef,undef,undef,undef,undef,undef],defers:=[]}) ?assign ?body ?done ?stop
 case assign =>
  intro l x W K U
  gi_wp2
  exact U
 case body =>
  rintro l pre x y ⟨⟨n,o,t,i⟩,d,f⟩ ea z
  have H:∀n∈za,UA y n:=fun n o=>(V n o).below f
  have da:=jI T o x y H;have aa:=d.cell;have J:=d.frozen;have I:=i.cell;have L:=i.frozen
  gi_wp2_with ((first|refine⟨trivial,E _,?_⟩|refine⟨trivial,?_⟩);gi_at_call 104;refine(CallsIn.inRound l (UK.2 da)).mono ?_;rintro e w' ⟨(⟨zl,k,g,cap,rfl,Q,O,ga,ja,ia⟩|⟨zl,rfl,M⟩),rfl⟩)
  ·refine⟨(zd.refl (fun b=>b=w.heap.size\/b=w.heap.size+1) _).setCell (p:=vA (w.heap.size+1) 0) (.inr rfl) _,⟨k,Q,by rw[O,t],i.set _⟩,d.other _ _ s_,f.setCell s_ _⟩
  ·refine⟨(zd.refl (fun b=>b=w.heap.size\/b=w.heap.size+1) _).setCell (p:=vA w.heap.size 0) (.inl rfl) _,rfl,M _ (by rw[t];exact z),d.set _,f.setCell (Nat.le_refl _) _⟩
 case done =>
  rintro A ⟨⟨n,o,t,i⟩,d,f⟩ v
  have aa:=d.cell;have J:=d.frozen;have I:=i.cell;have L:=i.frozen
  gi_wp2
  have Z:(A.setCell (vA w.heap.size 0) (vP n.ze)).heap[W.heap.size]?=some (.deferred (some [])):=(Below.heap_setCell _ _ _ _ t_).trans v;have u:=((d.set (vP n.ze)).put W.heap.size (.deferred none) o_).cell
  refine⟨s_,.inl ⟨_,_,rfl,run_takeDeferred Z,?_⟩⟩
  refine⟨vP n.ze,by simp[results,results127,go_sem,u],.inl ⟨n,o,t,rfl⟩,Wn (f.setCell (Nat.le_refl _) _) _ _ o_⟩
 case stop =>
  rintro c pre A z ⟨rfl,Y,d,f⟩ v
  gi_wp2
  have u:=(d.put W.heap.size (.deferred none) o_).cell
  refine⟨s_,.inl ⟨_,_,rfl,run_takeDeferred v,?_⟩⟩
  refine⟨.pointer none,by simp[results,results127,go_sem,u],.inr ⟨Y,rfl⟩,Wn f _ _ o_⟩
end
section
open Go.RowKit
theorem eq35(d:Nat)(a b c e:Int)(w:World):(Op.equalIn (d+2) 35 (.agg #[vI a,vI b]) (.agg #[vI c,vI e])).run prog w=.ok (a == c&&b == e) w:=by
 have j:=underlying3;have f:=underlying35;have i:=sizeOf3;have g:=isAgg3;unfold Op.equalIn;simp only[Sem.run_bind,run_underlying f,Result.andThen_ok]
 simp[go_sem,i,g,List.range',Std.Legacy.Range.forIn_eq_forIn_range',part]
 by_cases h:a=c<;>by_cases k:b=e<;>simp[h,k]
theorem lU(a b c e:Int)(w:World):(binOp .eql 35 (.agg #[vI a,vI b]) (.agg #[vI c,vI e])).run prog w=.ok (.bool (a == c&&b == e)) w:=by
 rw[run_eql_struct,show(10000:Nat)=9998+2 from rfl,eq35];rfl
theorem cr(a b c e:Int)(w:World):(binOp .neq 35 (.agg #[vI a,vI b]) (.agg #[vI c,vI e])).run prog w=.ok (.bool (!(a == c&&b == e))) w:=by
 rw[run_neq_struct,show(10000:Nat)=9998+2 from rfl,eq35];rfl
theorem tC(a:BinOp)(x y:Operand)(xs b:Array Value)(w:World):(eqGuard a 35 x y (.agg xs) (.agg b)).run prog w=.ok () w :=
 run_eqGuard_agg w a 35 x y xs b k_
theorem qy(a b:Int)(w:World):
  Calls prog 195 #[.agg #[vI a,vI b]] w fun e w'=>e=vR (.agg #[vI (max 0 (min a 1000)),vI (max 0 (min b 1000))])/\Bw w w':=by
 have i0:∀w,(Instr.index 35 (.agg #[vI a,vI b]) (vI 0)).run prog w=.ok (vI a) w:=fun _=>by kernel_rfl
 have i1:∀w,(Instr.index 35 (.agg #[vI a,vI b]) (vI 1)).run prog w=.ok (vI b) w:=fun _=>by kernel_rfl
 go_enter func195,ntmps195
 go_wp2
 go_rounds 3
 all_goals go_wp2
 all_goals refine Us (v:=.agg #[vI (max 0 (min a 1000)),vI (max 0 (min b 1000))]) (by simp[results,results60,go_sem];omega) rfl ⟨rfl,by(repeat (first|exact Below.refl _ _|refine s5 ?_ (by assumption)|refine Below.setCell ?_ g_ _|refine Below.alloc ?_ g_ _|refine Below.drew ?_|refine UT ?_ _))⟩
theorem gq(a b:Int)(w:World):
  Calls prog 147 #[.agg #[vI a,vI b]] w fun e w'=>e=vR (.bool (Uu a b))/\Bw w w':=by
 have hq:=lU;have d:=tC
 go_enter func147,ntmps147
 go_wp2
 go_region_with (go_at_call 195;refine(qy _ _ _).mono ?_;rintro e f ⟨rfl,c⟩;have c0:=(c.cell (p:=vA w.heap.size 0) s_);have c1:=(c.cell (p:=vA w.heap.size 1) s_))
 all_goals go_wp2
 all_goals go_ret
 all_goals exact⟨VP (by rw[Bool.eq_iff_iff];simp[Uu];omega),(by(repeat (first|exact Below.refl _ _|refine s5 ?_ (by assumption)|refine Below.setCell ?_ g_ _|refine Below.alloc ?_ g_ _|refine Below.drew ?_|refine UT ?_ _)))⟩
theorem cQ(a b:Int)(w:World):
  Calls prog 54 #[.agg #[vI a,vI b]] w fun e w'=>e=vR (vP (w.heap.size+1)) /\
   w'=((w.alloc (.cells #[vI a,vI b] 35)).alloc (.cells #[vG ⟨#[]⟩,.bool false,vI 0,vI 0,vI a,vI b,.pointer none,v0_] 136)):=by
 go_enter func54,ntmps54
 go_wp2
 go_ret
 exact⟨rfl,rfl⟩
theorem nT(c d a b:Int)(w:World):
  Calls prog 53 #[.agg #[vI c,vI d],.agg #[vI a,vI b]] w fun e w'=>e=vR (vP (w.heap.size+2)) /\
   w'=(((w.alloc (.cells #[vI c,vI d] 35)).alloc (.cells #[vI a,vI b] 35)).alloc (.cells #[vG ⟨#[]⟩,.bool true,vI c,vI d,vI a,vI b,.pointer none,v0_] 136)):=by
 go_enter func53,ntmps53
 go_wp2
 go_ret
 exact⟨rfl,rfl⟩
theorem Z3(b:Nat)(f:Bool)(w:World)(h:w.cell? (vA b 1)=some (.bool f)):
  Calls prog 105 #[vP b] w fun e w'=>e=vR (.bool f)/\w'=w:=by
 go_enter func105,ntmps105
 go_wp2
 go_ret
 exact⟨rfl,rfl⟩
theorem tn(b:Nat)(x y:Int)(w:World)(h:w.cell? (vA b 4)=some (vI x))(a:w.cell? (vA b 5)=some (vI y)):
  Calls prog 86 #[vP b] w fun e w'=>e=vR (.agg #[vI x,vI y])/\Bw w w':=by
 have hb:=VE w _ h
 go_enter func86,ntmps86
 go_wp2
 exact Us (v:=.agg #[vI x,vI y]) (by simp[results,results129,go_sem]) rfl ⟨rfl,by(repeat (first|exact Below.refl _ _|refine s5 ?_ (by assumption)|refine Below.setCell ?_ g_ _|refine Below.alloc ?_ g_ _|refine Below.drew ?_|refine UT ?_ _))⟩
theorem Z_(a b c d:Int)(w:World)(f:0<=a)(g:a<=100000)(h3:0<=b)(h:b<=100000)(i:0<=c)(j:c<=100000)(k:0<=d)(l:d<=100000):
  Calls prog 139 #[.agg #[vI a,vI b],.agg #[vI c,vI d]] w fun e w'=>e=vR (.agg #[vI (a+c),vI (b+d)])/\Bw w w':=by
 go_enter func139,ntmps139
 go_wp2
 refine wp_loop_rounds 3 ?_
 rw[rounds_succ];go_wp2
 go_region
 go_wp2
 rw[rounds_succ];go_wp2
 go_region
 go_wp2
 rw[rounds_succ];go_wp2
 exact Us (v:=.agg #[vI (a+c),vI (b+d)]) (by simp[results,results78,go_sem]) rfl ⟨rfl,by(repeat (first|exact Below.refl _ _|refine s5 ?_ (by assumption)|refine Below.setCell ?_ g_ _|refine Below.alloc ?_ g_ _|refine Below.drew ?_|refine UT ?_ _))⟩
end
section
open Go.RowKit Go.Shelf
variable {a:Nat->Prop}{W W':World}
attribute [local go_sem] Oper.semAt_some
def dfs (ch:zc->List zc):Nat->zc->List zc
 |0,n=>[n]
 |f+1,n=>n::(ch n).flatMap (dfs ch f)
structure xy (za:List zc) (ch:zc->List zc):Prop where
 blks:∀p∈za,p.zv=(ch p).map (·.ze)
 mem:∀p∈za,∀k,k∈ch p↔(k∈za/\∃x,k.zb=p.zb++[x])
 sort:∀p∈za,((ch p).map fun k=>mN k.zb).Pairwise fun a b=>yn a b<0
theorem zr.ch{za:List zc}(T:zr za):∃ch,xy za ch:=by
 have:∀p:zc,∃c:List zc,p∈za->p.zv=c.map (·.ze)/\(∀k,k∈c↔(k∈za/\∃x,k.zb=p.zb++[x]))/\(c.map fun k=>mN k.zb).Pairwise fun a b=>yn a b<0:=fun p=>by
  by_cases hp:p∈za
  ·obtain⟨c,h⟩:=T.zv p hp;exact⟨c,fun _=>h⟩
  ·exact⟨[],fun h=>absurd h hp⟩
 refine⟨fun p=>(this p).choose,⟨fun p hp=>((this p).choose_spec hp).1,fun p hp=>((this p).choose_spec hp).2.1,fun p hp=>((this p).choose_spec hp).2.2⟩⟩
theorem Y3{za:List zc}(c:∀n∈za,¬a n.ze/\∀g,n.sl.ownBlock=some g->¬a g)(d:∀n∈za,UA W n)(e:zd a W W'):∀n∈za,UA W' n :=
 fun n b=>(d n b).zf e (c n b).1 (c n b).2
theorem gX{za:List zc}{ch:zc->List zc}(K:xy za ch)(l:Nat)(a:Nat->Prop)(d:List zc)(J r:List zc->World->Prop)
  (A:∀n∈za,¬a n.ze/\∀g,n.sl.ownBlock=some g->¬a g)
  (H:∀m pre x t,J pre t->pre++[x] <+: d->YieldAt Fence.wide m prog l #[zi x.ze] t fun e W' =>
   (e=vR (.bool true)/\J (pre++[x]) W'/\zd a t W')\/(e=vR (.bool false)/\r (pre++[x]) W'))
  (n:zc) (f:n∈za) (U:(ch n).length<=1000) (sub:zc->List zc)
  (M:∀k∈ch n,∀(m:Nat) (pre:List zc) (W:World),(∀n∈za,UA W n)->J pre W->pre++sub k <+: d ->
   CallsIn Fence.wide m prog 150 #[zi k.ze,.func (.yield l) #[] #[]] W fun e W' =>
    (e=vR (.bool true)/\J (pre++sub k) W'/\zd a W W')\/(e=vR (.bool false)/\∃q,q <+: d/\r q W'))
  (m:Nat) (pre:List zc) (W:World) (z:∀n∈za,UA W n) (ca:J pre W) (G:pre++n::(ch n).flatMap sub <+: d) :
   CallsIn Fence.wide m prog 150 #[zi n.ze,.func (.yield l) #[] #[]] W fun e W' =>
    (e=vR (.bool true)/\J (pre++n::(ch n).flatMap sub) W'/\zd a W W')\/(e=vR (.bool false)/\∃q,q <+: d/\r q W'):=by
 have E:∀k:Nat,Fence.wide.depth.isSome=true->1<=k:=fun k h=>by simp[Fence.wide]at h
 have O:pre++[n] <+: d:=List.IsPrefix.trans ⟨(ch n).flatMap sub,s_⟩ G;obtain⟨fn,tmps,assign,body,ga,F⟩:=H (m-1) pre n W ca O;have B:n.zv.length=(ch n).length:=by rw[K.blks n f];simp
 obtain⟨ao,cap,w⟩:∃ao cap,n.sl=.slice ao (ch n).length cap:=by
  obtain⟨_,ea⟩:=(z n f).row
  rcases ea with ⟨o,aa⟩|⟨g,cap,na,o,_⟩
  ·exact⟨none,0,by rw[o,<- B,aa]⟩
  ·exact⟨_,_,by rw[o,B]⟩
 have v:=F.mono (R':=fun e W'=>(e=vR (.bool true)/\J (pre++[n]) W'/\zd a W W'/\W'.cell? (vA n.ze 7)=some (.slice ao (ch n).length cap))\/(e=vR (.bool false)/\r (pre++[n]) W'))
  (fun e W' h=>h.elim (fun ⟨da,I,c⟩=>.inl ⟨da,I,c,by rw[<-w];exact((z n f).zf c (A n f).1 (A n f).2).cell rfl⟩) .inr)
 clear F;obtain⟨L,y⟩:∃L,L=(ch n).length:=⟨_,rfl⟩;rw[<-y]at v U;have D:Hid (L=(ch n).length):=y;have Q:Hid (n.sl=.slice ao (ch n).length cap):=w;clear y w B
 refine callsIn_of_wp func150 rfl trivial ?_ rfl
 unfold zi at ga ⊢;simp only[ntmps150,zC,Nat.reduceAdd,Nat.reduceSub]
 gi_wp2_with (refine⟨E _,?_⟩;refine v.mono ?_;clear v;rintro e la (⟨rfl,ja,V,oa⟩|⟨rfl,ha⟩))
 ·gi_loopw [16] (fun i wr=>∃j:Nat,i=vI j/\j<=L/\J (pre++n::((ch n).take j).flatMap sub) wr/\zd a W wr) (fun i _=>L-(intOf i).toNat)
  case atStart=>exact⟨0,rfl,Nat.zero_le _,by simpa using ja,V⟩
  case round =>
   obtain⟨j,rfl,I,s,C⟩:=hrel;have P:=Y3 A z C
   by_cases T:j<L
   ·have p:j<(ch n).length:=by rw[<-D.out];exact T
    obtain⟨k,c⟩:∃k,(ch n)[j]?=some k:=⟨_,Ur p⟩;have ka:k∈ch n:=Uq c;obtain⟨g,cap',o,X⟩:=(P n f).kid (j:=j) (b:=k.ze) (by rw[K.blks n f];simp[c]);have Z:ao=some (vA g 0):=by
     have:=Q.out;rw[o]at this;injection this with ba _ _;exact ba.symm
    have N:Hid ((ch n).take (j+1)=(ch n).take j++[k]):=by
     rw[VT p];rw[Ur p]at c;cases c;rfl
    have ia:(pre++n::((ch n).take j).flatMap sub)++sub k <+: d:=by
     refine List.IsPrefix.trans ⟨((ch n).drop (j+1)).flatMap sub,?_⟩ G
     conv=>rhs;rw[<-List.take_append_drop (j+1) (ch n),N.out]
     simp
    have u:=M k ka (m-1) _ wr P s ia;clear M H c s;unfold zi at u X;subst Z
    gi_wp2_with ((first|refine⟨trivial,E _,?_⟩|refine⟨trivial,?_⟩);gi_at_call 150;refine u.mono ?_;clear u;rintro e ma (⟨rfl,R,Y⟩|⟨rfl,q,hq,S⟩))
    ·go_roundw
     case rel =>
      refine⟨j+1,by go_num,o_,?_,C.trans Y⟩
      rw[N.out];simpa using R
     case measure=>simp[intOf];omega
    ·go_ret
     exact .inr ⟨rfl,q,hq,S⟩
   ·gi_wp2
    go_ret
    have p:(ch n).take j=ch n:=Vl (by rw[<-D.out];omega);rw[p]at s
    exact .inl ⟨rfl,s,C⟩
 ·go_ret
  exact .inr ⟨rfl,_,O,ha⟩
theorem sR{za:List zc}(T:zr za){ch:zc->List zc}(K:xy za ch){n:zc}(d:n∈za):(ch n).length<=20:=by
 have f:((ch n).map (·.zb)).Nodup:=by
  have:((ch n).map fun k=>mN k.zb).Nodup:=(K.sort n d).imp (fun {a b} h e=>by subst e;rw[show yn a a=0 from XL a]at h;omega)
  rw[show((ch n).map fun k=>mN k.zb)=((ch n).map (·.zb)).map mN by simp]at this
  exact Yz this
 have i:∀x∈(ch n).map (·.zb),x∈za.map (·.zb):=by
  intro k g;obtain⟨c,l,rfl⟩:=UC.1 g
  exact UC.2 ⟨c,((K.mem n d c).1 l).1,rfl⟩
 have j:=YD f i;have h3:=T.len
 simp at j;omega
theorem kJ{za:List zc}(T:zr za){ch:zc->List zc}(K:xy za ch)(l:Nat)(a:Nat->Prop)(c:List zc)(J d:List zc->World->Prop)
  (u:∀n∈za,¬a n.ze/\∀g,n.sl.ownBlock=some g->¬a g)
  (v:∀m pre x j,J pre j->pre++[x] <+: c->YieldAt Fence.wide m prog l #[zi x.ze] j fun e W' =>
   (e=vR (.bool true)/\J (pre++[x]) W'/\zd a j W')\/(e=vR (.bool false)/\d (pre++[x]) W')) :
  ∀(f:Nat) (n:zc),n∈za->4<=n.zb.length+f->∀(m:Nat) (pre:List zc) (W:World),(∀n∈za,UA W n)->J pre W->pre++dfs ch f n <+: c ->
   CallsIn Fence.wide m prog 150 #[zi n.ze,.func (.yield l) #[] #[]] W fun e W' =>
    (e=vR (.bool true)/\J (pre++dfs ch f n) W'/\zd a W W')\/(e=vR (.bool false)/\∃q,q <+: c/\d q W'):=by
 intro f
 induction f with
 |zero =>
  intro n b w m pre W p o r;have i:ch n=[]:=by
   rcases List.eq_nil_or_concat (ch n) with h|⟨A,k,h⟩
   ·exact h
   ·exfalso
    obtain⟨z,x,s⟩:=(K.mem n b k).1 (by rw[h];simp)
    have:=(T.ok k z).2
    rw[s]at this;simp at this;omega
  have h:=gX K l a c J d u v n b (by rw[i];simp) (fun _=>[]) (by rw[i];simp) m pre W p o (by rw[i];exact r);rw[i]at h;exact h
 |succ f y =>
  intro n b w m pre W p o r
  exact gX K l a c J d u v n b (h_ (sR T K b)) (dfs ch f) (fun k t=>y k ((K.mem n b k).1 t).1 (by obtain⟨x,s⟩:=((K.mem n b k).1 t).2;rw[s];simp;omega)) m pre W p o r
theorem ZG{za:List zc}(T:zr za){ch:zc->List zc}(K:xy za ch){n:zc}(c:n∈za)(w:World)(r:∀n∈za,UA w n):
  Calls prog 101 #[zi n.ze] w fun e w'=>e=vR (.func (.func 149) #[] #[vP w.heap.size])/\w'=w.alloc (.cells #[zi n.ze] 97) /\
   ∀a:Nat->Prop,(∀n∈za,¬a n.ze/\∀g,n.sl.ownBlock=some g->¬a g)->SeqK prog 149 #[vP w.heap.size] (fun x:zc=>zi x.ze) (fun _=>False) a (dfs ch 4 n) w':=by
 have B:∀(fn:Fn) (first cap:Array Value) (w:World),(Instr.makeFunc fn first cap).run prog w=.ok (.func fn first cap) w:=fun _ _ _ _=>rfl
 have zb:∀a:Nat->Prop,(∀n∈za,¬a n.ze/\∀g,n.sl.ownBlock=some g->¬a g)->SeqK prog 149 #[vP w.heap.size] (fun x:zc=>zi x.ze) (fun _=>False) a (dfs ch 4 n) (w.alloc (.cells #[zi n.ze] 97)):=by
  intro a s m l J i W d A z C t p;have o:∀k:Nat,Fence.wide.depth.isSome=true->1<=k:=fun k h=>by simp[Fence.wide]at h
  have u:∀n∈za,UA W n:=fun n c=>(r n c).below (s5 ((Below.refl _ _).alloc (Nat.le_refl _) _) d)
  have hb:W.cell? (vA w.heap.size 0)=some (zi n.ze):=((zz.new w 97 (zi n.ze)).below d s_).cell;have b:=kJ T K l a (dfs ch 4 n) J i s t 4 n c o_ (m-1) [] W u p (List.prefix_refl _)
  refine callsIn_of_wp func149 rfl trivial ?_ rfl
  unfold zi at b hb;simp only[ntmps149,zC,Nat.reduceAdd,Nat.reduceSub]
  gi_wp2_with ((first|refine⟨trivial,o _,?_⟩|refine⟨trivial,?_⟩);gi_at_call 150;refine b.mono ?_;clear b;rintro e v (⟨rfl,f,y⟩|⟨rfl,q,hq,j⟩))
  ·go_end0
   exact⟨⟨_,rfl⟩,.inl f⟩
  ·go_end0
   exact⟨⟨_,rfl⟩,.inr ⟨q,hq,j⟩⟩
 unfold zi at zb ⊢
 go_enter func101,ntmps101
 go_wp2
 go_ret
 exact⟨rfl,rfl,zb⟩
end
end Go.Proofs.YtphclnolomgjoaaGreatDoor
