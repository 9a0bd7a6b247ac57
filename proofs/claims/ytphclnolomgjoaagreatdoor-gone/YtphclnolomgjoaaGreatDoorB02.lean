import Derived.Test.YtphclnolomgjoaaGreatDoorB01
import Derived.Laws.StructEq
set_option linter.unusedVariables false
set_option linter.unusedSimpArgs false
set_option maxRecDepth 100000
set_option maxHeartbeats 4000000
namespace Go.Proofs.YtphclnolomgjoaaGreatDoor
open Tryz
section
open Go.RowKit Go.Shelf
variable {W w:World}{B b:Nat}{t:TypeId}{v:Value}
attribute [local go_sem] Oper.semAt_some
theorem qi9(s:ByteArray)(hs:s.size<=2000000)(w:World):
  Calls prog 102 #[.string s] w fun e w'=>∃gf lb,e=.returned (.func (.func gf) #[] lb)/\(∀args w,(callFunc gf args).run prog w=.ok (.enter gf args) w) /\
   Below w.heap.size w w'/\∀T:Nat->Prop,(∀b,w.heap.size<=b->b<w'.heap.size->¬T b) ->
    ∃S:Nat->Prop,(∀b,S b->w.heap.size<=b/\b<w'.heap.size)/\SeqK prog gf lb (fun l:Bs=>Value.string (sb l)) S T (qac (bl s)) w':=by
 refine(qtg s w).mono ?_
 rintro e w' (⟨h0,rfl,rfl⟩|⟨h0,rfl,rfl⟩)
 ·refine⟨151,#[],rfl,enters_of func151 (by kernel_rfl) rfl,Below.refl _ _,fun T _=>⟨fun _=>False,fun _ h=>h.elim,?_⟩⟩
  rw[show qac (bl s)=[] by simp[qac,h0]]
  exact qq4 T _
 ·refine⟨224,_,rfl,enters_of func224 (by kernel_rfl) rfl,by(repeat (first|exact Below.refl _ _|refine qab ?_ (by assumption)|refine Below.setCell ?_ (by first|omega|(simp<;>omega)) _|refine Below.alloc ?_ (by first|omega|(simp<;>omega)) _|refine Below.drew ?_|refine xrm ?_ _)),fun T hT=>⟨fun b=>b=w.heap.size,fun b h=>by subst h;exact⟨Nat.le_refl _,by simp;omega⟩,?_⟩⟩
  rw[show qac (bl s)=qax (bl s) by simp[qac,h0]]
  refine qrg s hs _ _ _ T _ (by omega) ⟨hT _ (by omega) (by simp<;>omega),hT _ (by omega) (by simp<;>omega),hT _ (by omega) (by simp<;>omega)⟩ ?_ ?_ ?_ ?_
  all_goals simp[go_sem]
theorem Box.put(h:Box W b t v)(D:Nat)(o:Obj)(hD:b≠D):Box (W.putObj D o) b t v:=(World.putObj_heap_other hD).trans h
theorem qay{A:World}(h:Below B w A)(D:Nat)(o:Obj)(hD:B<=D):Below B w (A.putObj D o) :=
 h.trans ⟨rfl,rfl,rfl,by simp,fun k hk=>World.putObj_heap_other (by omega)⟩
theorem qg9(s:ByteArray)(hs:s.size<=2000000)(w:World):
  Calls prog 62 #[.string s] w fun e w'=>e=.returned (.bool (qar (bl s)))/\Below w.heap.size w w':=by
 have bz:∀k:Nat,Fence.wide.depth.isSome=true->1<=k:=fun k h=>by simp[Fence.wide]at h
 refine(xrv (n:=3)).1 ?_
 refine callsIn_of_wp_marks func62 rfl trivial ?_ rfl
 simp only[ntmps62,List.size_toArray,List.length_cons,List.length_nil,Nat.reduceAdd,Nat.reduceSub,Array.replicate_succ,Array.replicate_zero,List.push_toArray,List.append_toArray,List.nil_append,List.cons_append]
 gi_wp2_with ((first|refine⟨trivial,bz _,?_⟩|refine⟨trivial,?_⟩);gi_at_call 102;refine(xrv.2 (qi9 s hs _)).mono ?_;rintro e W ⟨gf,lb,rfl,eg,hb,aB⟩)
 obtain⟨S,hS,hq⟩:=aB (fun b=>b=w.heap.size\/W.heap.size<=b) (fun b h1 h2 h=>by simp at h1;omega);have ct:Box W w.heap.size 4 (.bool false):=(Box.new w 4 _).below hb (by simp);have bZ:Below w.heap.size w W:=qab ((Below.refl _ _).alloc (Nat.le_refl _) _) hb;clear aB;have iJ:∀b,b<=w.heap.size->¬(S b\/W.heap.size<=b):=fun b bh h=>by
  have h2:=ct.lt
  rcases h with h|h
  ·have h1:=(hS _ h).1;simp at h1;omega
  ·omega
 refine qfo (T:=fun b=>b=w.heap.size) rfl eg hq (Below.refl _ _) rfl (fun b h=>(hS b h).2) (fun b h=>h ▸ ct.lt)
  (fun pre A=>pre.all qbr=true/\Box A w.heap.size 4 (.bool false)/\Below w.heap.size w A)
  (fun c pre A=>c=.ret/\qar (bl s)=false/\Box A w.heap.size 4 (.bool false)/\Below w.heap.size w A)
  (fun pre A B hs hk=>⟨hs.1,hs.2.1.keep hk (iJ _ (Nat.le_refl _)),hs.2.2.trans (hk.toBelow hs.2.2.size (fun b bh=>iJ b (by omega)))⟩)
  (fun c pre A B hs hk=>⟨hs.1,hs.2.1,hs.2.2.1.keep hk (iJ _ (Nat.le_refl _)),hs.2.2.2.trans (hk.toBelow hs.2.2.2.size (fun b bh=>iJ b (by omega)))⟩)
  ⟨rfl,ct,bZ⟩
  (fun x=>{tmps:=#[.string s,undef,.pointer (some ⟨w.heap.size,0,none⟩),.string (sb x),.string s,.func (.func gf) #[] lb,.string (sb x),undef,undef,undef],defers:=[]}) ?assign ?body ?done ?stop
 case assign =>
  intro l x W K hK
  gi_wp2
  exact hK
 case body =>
  rintro l pre x W2 ⟨aC,aU,ah⟩ cY ax
  have af:x∈qac (bl s):=ax.subset (by simp);have ie:(sb x).size<=maxLen:=by
   rw[qco];have:=qju _ _ af;rw[qcl]at this;unfold maxLen;omega
  have hv:=qly (sb x);rw[qbs]at hv;have hc:=aU.cell;have hf:=aU.frozen
  cases cg:qbr x
  ·rw[cg]at hv
   gi_wp2_with ((first|refine⟨trivial,bz _,?_⟩|refine⟨trivial,?_⟩);gi_at_call 103;refine(CallsIn.inRound l (xrv.2 (hv _ ie))).mono ?_;rintro e w' ⟨rfl,rfl⟩)
   refine⟨(Keep.refl (fun b=>b=w.heap.size) _).setCell (p:=⟨w.heap.size,0,none⟩) rfl _,rfl,?_,aU.set _,ah.setCell (Nat.le_refl _) _⟩
   rw[qar,List.all_eq_false];exact⟨x,af,by simp[cg]⟩
  ·rw[cg]at hv
   gi_wp2_with ((first|refine⟨trivial,bz _,?_⟩|refine⟨trivial,?_⟩);gi_at_call 103;refine(CallsIn.inRound l (xrv.2 (hv _ ie))).mono ?_;rintro e w' ⟨rfl,rfl⟩)
   exact⟨Keep.refl _ _,by simp[aC,cg],aU,ah⟩
 case done =>
  rintro A ⟨aC,aU,ah⟩ hD
  have hc:=aU.cell;have hf:=aU.frozen
  gi_wp2
  have ak:=ct.lt;have fU:(A.setCell ⟨w.heap.size,0,none⟩ (.bool true)).heap[W.heap.size]?=some (.deferred (some [])):=(Below.heap_setCell _ _ _ _ (by simp;omega)).trans hD;have ag:=((aU.set (.bool true)).put W.heap.size (.deferred none) (by omega)).cell
  refine⟨by simp,.inl ⟨_,_,rfl,run_takeDeferred fU,?_⟩⟩
  refine⟨.bool true,by simp[results,results159,go_sem,ag],qbt (by rw[qar];exact aC.symm),qay (ah.setCell (Nat.le_refl _) _) _ _ (by omega)⟩
 case stop =>
  rintro c pre A ax ⟨rfl,hv,aU,ah⟩ hD
  gi_wp2
  have ak:=ct.lt;have ag:=(aU.put W.heap.size (.deferred none) (by omega)).cell
  refine⟨by simp,.inl ⟨_,_,rfl,run_takeDeferred hD,?_⟩⟩
  refine⟨.bool false,by simp[results,results159,go_sem,ag],qbt hv.symm,qay ah _ _ (by omega)⟩
end
section
open Go
theorem qgo(a b:UInt8)(ki bs:Bs):Lib.compareBytes (a::ki) (b::bs)=if a<b then -1 else if b<a then 1 else Lib.compareBytes ki bs:=by
 simp[Lib.compareBytes]
theorem qdc:∀a:Bs,Lib.compareBytes a a=0
 | []=>rfl
 |a::ki=>by rw[qgo];simp[qdc ki]
theorem qic:∀a b:Bs,Lib.compareBytes a b=0->a=b
 | [],[],_=>rfl
 | [],_::_,h=>by simp[Lib.compareBytes]at h
 |_::_,[],h=>by simp[Lib.compareBytes]at h
 |a::ki,b::bs,h=>by
  rw[qgo]at h
  by_cases h1:a<b
  ·simp[h1]at h
  ·by_cases h2:b<a
   ·simp[h1,h2]at h
   ·simp only[h1,h2,if_false]at h
    have:a=b:=UInt8.le_antisymm (UInt8.not_lt.1 h2) (UInt8.not_lt.1 h1)
    rw[this,qic ki bs h]
theorem qk5:∀a b:Bs,Lib.compareBytes a b = - Lib.compareBytes b a
 | [],[]=>rfl
 | [],_::_=>rfl
 |_::_,[]=>rfl
 |a::ki,b::bs=>by
  rw[qgo,qgo]
  by_cases h1:a<b
  ·have h2:¬b<a:=UInt8.not_lt.2 (UInt8.le_of_lt h1)
   simp[h1,h2]
  ·by_cases h2:b<a
   ·simp[h1,h2]
   ·simp only[h1,h2,if_false];exact qk5 ki bs
theorem qgp:∀a b c:Bs,Lib.compareBytes a b<0->Lib.compareBytes b c<0->Lib.compareBytes a c<0
 | [],[],_,h,_=>by simp[Lib.compareBytes]at h
 | [],b::bs,[],_,h=>by simp[Lib.compareBytes]at h
 | [],b::bs,c::cs,_,_=>by simp[Lib.compareBytes]
 |a::ki,[],_,h,_=>by simp[Lib.compareBytes]at h
 |a::ki,b::bs,[],_,h=>by simp[Lib.compareBytes]at h
 |a::ki,b::bs,c::cs,h1,h2=>by
  rw[qgo]at h1 h2 ⊢
  by_cases ab:a<b
  ·by_cases bc:b<c
   ·simp[UInt8.lt_trans ab bc]
   ·by_cases cb:c<b
    ·simp[bc,cb]at h2
    ·have:b=c:=UInt8.le_antisymm (UInt8.not_lt.1 cb) (UInt8.not_lt.1 bc)
     subst this;simp[ab]
  ·by_cases ba:b<a
   ·simp[ab,ba]at h1
   ·have:a=b:=UInt8.le_antisymm (UInt8.not_lt.1 ba) (UInt8.not_lt.1 ab)
    subst this;simp only[ab,if_false]at h1
    by_cases bc:a<c
    ·simp[bc]
    ·by_cases cb:c<a
     ·simp[bc,cb]at h2
     ·simp only[bc,cb,if_false]at h2 ⊢
      exact qgp ki bs cs h1 h2
end
section
open Go.RowKit
variable {W W':World}{b i j:Nat}{v:Value}{T:Nat->Prop}
theorem qko(b:Nat)(nm x:ByteArray)(w:World)(h:w.cell? ⟨b,0,none⟩=some (.string nm)):
  Calls prog 154 #[.pointer (some ⟨b,0,none⟩),.string x] w fun e w'=>e=.returned (.int .i64 (cmpB (bl nm) (bl x)))/\w'=w:=by
 go_enter func154,ntmps154
 go_wp2_with (go_at_call 155;refine(qnq _ _ _).mono ?_;rintro e w1 ⟨rfl,rfl⟩)
 go_ret
 exact⟨rfl,rfl⟩
def Found(ns:List Bs)(x:Bs)(at_:Nat)(tc:Bool):Prop :=
 at_<=ns.length/\(∀(j:Nat) (n:Bs),j<at_->ns[j]?=some n->cmpB n x<0)/\(∀(j:Nat) (n:Bs),at_<=j->ns[j]?=some n->0<=cmpB n x)/\(tc=true↔ns[at_]?=some x)
theorem qmh(x:Bs):Found [] x 0 false:=⟨Nat.le_refl _,by simp,by simp,by simp⟩
theorem qno(x:ByteArray)(w:World):
  Calls prog 153 #[.slice none 0 0,.string x,.func (.func 154) #[] #[]] w fun e w'=>e=.returned (.tuple #[.int .i64 0,.bool false])/\w'=w:=by
 go_enter func153,ntmps153
 go_wp2
 refine wp_loop_rounds 1 ?_
 rw[rounds_succ]
 go_wp2
 go_ret2
 exact⟨rfl,rfl⟩
def qlz (ns:List Bs)(x:Bs)(e:Ending):Prop:=∃(at_:Nat) (th:Bool),e=.returned (.tuple #[.int .i64 at_,.bool th])/\Found ns x at_ th
theorem qnn(a cap:Nat)(kb:List Nat)(ns:List Bs)(x:ByteArray)(w:World)(hl:kb.length=ns.length)(a9:ns.length<=1000)
  (iG:ns.Pairwise fun a b=>cmpB a b<0)
  (hc:∀(j b:Nat),kb[j]?=some b->w.cell? ⟨a,j,none⟩=some (.pointer (some ⟨b,0,none⟩)))
  (hn:∀(j b:Nat) (n:Bs),kb[j]?=some b->ns[j]?=some n->w.cell? ⟨b,0,none⟩=some (.string (sb n))) :
  Calls prog 153 #[.slice (some ⟨a,0,none⟩) ns.length cap,.string x,.func (.func 154) #[] #[]] w fun e w' =>
   qlz ns (bl x) e/\w'=w:=by
 have aJ:∀j,j<ns.length->∃b n,ns[j]?=some n/\w.cell? ⟨a,j,none⟩=some (.pointer (some ⟨b,0,none⟩))/\w.cell? ⟨b,0,none⟩=some (.string (sb n)):=fun j hj=>by
  have h1:kb[j]?=some (kb[j]'(by omega)):=xr1 _;have h2:ns[j]?=some (ns[j]'hj):=xr1 _
  exact⟨_,_,h2,hc _ _ h1,hn _ _ _ h1 h2⟩
 have mono:∀(i j:Nat) (n m:Bs),i<j->ns[i]?=some n->ns[j]?=some m->cmpB n m<0:=fun i j n m mg h1 h2=>by
  obtain⟨hi,rfl⟩:=xr0.1 h1;obtain⟨hj,rfl⟩:=xr0.1 h2
  exact List.pairwise_iff_getElem.1 iG i j hi hj mg
 clear hc hn;obtain⟨L,hL⟩:∃L,L=ns.length:=⟨_,rfl⟩;rw[<-hL];rw[<-hL]at aJ a9;have HL:Hid (L=ns.length):=hL;clear hL iG hl
 go_enter func153,ntmps153
 go_wp2
 go_loop [9,10] (fun i j=>∃p q:Nat,i=.int .i64 p/\j=.int .i64 q/\p<=q/\q<=L/\(∀(k:Nat) (n:Bs),k<p->ns[k]?=some n->cmpB n (bl x)<0)/\(∀(k:Nat) (n:Bs),q<=k->ns[k]?=some n->0<=cmpB n (bl x)))
  (fun i j=>(intOf j-intOf i).toNat)
 case atStart=>exact⟨0,L,rfl,rfl,Nat.zero_le _,Nat.le_refl _,fun k n h=>by omega,fun k n h h'=>by rw[List.getElem?_eq_none (by have:=HL.out;omega)]at h';cases h'⟩
 case round =>
  obtain⟨p,q,rfl,rfl,nu,Cn,oR,rl⟩:=hrel;have uz:Hid (∀(k:Nat) (n:Bs),k<p->ns[k]?=some n->cmpB n (bl x)<0):=oR;have uw:Hid (∀(k:Nat) (n:Bs),q<=k->ns[k]?=some n->0<=cmpB n (bl x)):=rl;have xX:Hid (∀(i j:Nat) (n m:Bs),i<j->ns[i]?=some n->ns[j]?=some m->cmpB n m<0):=mono;clear oR rl mono
  by_cases ak:p<q
  ·have wO:(p+q) / 2<L:=by omega
   obtain⟨b,n,eZ,cQ,lr⟩:=aJ ((p+q) / 2) wO;have HB:Hid (ns[(p+q) / 2]?=some n):=eZ;clear eZ aJ;have cS:=qko b (sb n) x w lr;rw[qbs]at cS
   by_cases hcmp:cmpB n (bl x)<0
   ·go_wp2_with (go_at_call 154;refine cS.mono ?_;rintro e w1 ⟨rfl,rfl⟩)
    go_round
    case rel =>
     refine⟨(p+q) / 2+1,q,by go_num,rfl,by omega,Cn,fun k m hk hm=>?_,uw.out⟩
     rcases Nat.lt_or_ge k ((p+q) / 2) with h|h
     ·exact qgp _ _ _ (xX.out _ _ _ _ h hm HB.out) hcmp
     ·obtain rfl:k=(p+q) / 2:=by omega
      have:=HB.out;rw[hm]at this;cases this;exact hcmp
    case measure=>simp[intOf];omega
   ·go_wp2_with (go_at_call 154;refine cS.mono ?_;rintro e w1 ⟨rfl,rfl⟩)
    go_round
    case rel =>
     refine⟨p,(p+q) / 2,rfl,by go_num,by omega,by omega,uz.out,fun k m hk hm=>?_⟩
     rcases Nat.lt_or_ge ((p+q) / 2) k with h|h
     ·have h1:=xX.out _ _ _ _ h HB.out hm
      rcases Int.lt_or_le (cmpB m (bl x)) 0 with h2|h2
      ·exact absurd (qgp _ _ _ h1 h2) (Int.not_lt.2 hcmp)
      ·exact h2
     ·obtain rfl:k=(p+q) / 2:=by omega
      have:=HB.out;rw[hm]at this;cases this;omega
    case measure=>simp[intOf];omega
  ·obtain rfl:p=q:=by omega
   by_cases hpL:p<L
   ·obtain⟨b,n,eZ,cQ,lr⟩:=aJ p hpL;have HB:Hid (ns[p]?=some n):=eZ;clear eZ aJ;have cS:=qko b (sb n) x w lr;rw[qbs]at cS
    go_wp2_with (go_at_call 154;refine cS.mono ?_;rintro e w1 ⟨rfl,rfl⟩)
    go_ret2
    refine⟨⟨p,_,rfl,by have:=HL.out;omega,uz.out,uw.out,?_⟩,rfl⟩
    rw[HB.out];simp only[Option.some.injEq,beq_iff_eq]
    exact⟨fun h=>qic _ _ h,fun h=>by rw[h];exact qdc _⟩
   ·go_wp2
    go_ret2
    refine⟨⟨p,false,rfl,by have:=HL.out;omega,uz.out,uw.out,?_⟩,rfl⟩
    rw[List.getElem?_eq_none (by have:=HL.out;omega)]
    simp
theorem qm2(bq:Nat)(a cap:Nat)(kb:List Nat)(ns:List Bs)(x:ByteArray)(w:World)(hl:kb.length=ns.length)(a9:ns.length<=1000)
  (iG:ns.Pairwise fun a b=>cmpB a b<0)
  (hs:w.cell? ⟨bq,7,none⟩=some (.slice (some ⟨a,0,none⟩) ns.length cap))
  (hc:∀(j b:Nat),kb[j]?=some b->w.cell? ⟨a,j,none⟩=some (.pointer (some ⟨b,0,none⟩)))
  (hn:∀(j b:Nat) (n:Bs),kb[j]?=some b->ns[j]?=some n->w.cell? ⟨b,0,none⟩=some (.string (sb n))) :
  Calls prog 104 #[.pointer (some ⟨bq,0,none⟩),.string x] w fun e w'=>qlz ns (bl x) e/\w'=w:=by
 have h:=qnn a cap kb ns x w hl a9 iG hc hn;clear hc hn iG
 go_enter func104,ntmps104
 go_wp2_with (go_at_call 153;refine h.mono ?_;rintro e w1 ⟨⟨p,th,rfl,hF⟩,rfl⟩)
 go_ret2
 exact⟨⟨p,th,rfl,hF⟩,rfl⟩
theorem qm3(bq:Nat)(x:ByteArray)(w:World)(hs:w.cell? ⟨bq,7,none⟩=some (.slice none 0 0)):
  Calls prog 104 #[.pointer (some ⟨bq,0,none⟩),.string x] w fun e w'=>qlz [] (bl x) e/\w'=w:=by
 go_enter func104,ntmps104
 go_wp2_with (go_at_call 153;refine(qno x w).mono ?_;rintro e w1 ⟨rfl,rfl⟩)
 go_ret2
 exact⟨⟨0,false,rfl,qmh _⟩,rfl⟩
theorem qb1{α β : Type}{f : α -> β}{l:List α}(h:(l.map f).Nodup):l.Nodup:=by
 unfold List.Nodup at *;rw[List.pairwise_map]at h
 exact h.imp (fun hn e=>hn (by rw[e]))
theorem qdf{α : Type}[DecidableEq α]:∀ {l l':List α},l.Nodup->(∀x∈l,x∈l')->l.length<=l'.length
 | [],_,_,_=>Nat.zero_le _
 |a::l,l',h,hs=>by
  have ha:=hs a (by simp);obtain⟨h1,h2⟩:=List.nodup_cons.1 h;have h3:=qdf (l:=l) (l':=l'.erase a) h2 (fun x hx=>(List.mem_erase_of_ne (fun e=>h1 (by rw[<-e];exact hx))).2 (hs x (by simp[hx])));rw[List.length_erase_of_mem ha]at h3
  have:=List.length_pos_of_mem ha
  simp;omega
structure Node where
 blk:Nat
 key:List Bs
 leaf:Bool
 n0:Int
 n1:Int
 b0:Int
 b1:Int
 up:Option Nat
 sl:Value
 kids:List Nat
variable {nodes:List Node}{n:Node}
def nptr (b:Nat):Value:=.pointer (some ⟨b,0,none⟩)
def uptr (b:Option Nat):Value:=.pointer (b.map fun x=>⟨x,0,none⟩)
def qad (k:List Bs):Bs:=k.getLastD []
theorem qaq(k:List Bs)(n:Bs):qad (k++[n])=n:=by simp[qad]
def Node.cells(n:Node):Array Value:=#[.string (sb (qad n.key)),.bool n.leaf,.int .i64 n.n0,.int .i64 n.n1,.int .i64 n.b0,.int .i64 n.b1,uptr n.up,n.sl]
structure qag (W:World) (n:Node):Prop where
 at_:W.heap[n.blk]?=some (.cells n.cells 136 (0,0))
 row:W.ownsRow 0 97 1 n.sl n.kids.length (n.kids.map nptr)
structure Tree (nodes:List Node):Prop where
 root:∃r,nodes[0]?=some r/\r.key=[]/\r.leaf=false/\r.b0=0/\r.b1=0
 inj:∀n∈nodes,∀m∈nodes,n.key=m.key->n=m
 nodup:(nodes.map (·.key)).Nodup
 ok:∀n∈nodes,qbx n.key=true/\n.key.length<=4
 num:∀n∈nodes,(0<=n.n0/\n.n0<=1000)/\(0<=n.n1/\n.n1<=1000)/\(0<=n.b0/\n.b0<=1000)/\(0<=n.b1/\n.b1<=1000)/\(n.leaf=false->n.n0=0/\n.n1=0)
 top:∀n∈nodes,n.key=[]->n.up=none
 par:∀n∈nodes,∀k x,n.key=k++[x]->∃p∈nodes,p.key=k/\p.leaf=false/\n.up=some p.blk
 kids:∀p∈nodes,∃ks:List Node,p.kids=ks.map (·.blk)/\(∀k,k∈ks↔(k∈nodes/\∃x,k.key=p.key++[x]))/\(ks.map fun k=>qad k.key).Pairwise fun a b=>cmpB a b<0
 len:nodes.length<=20
theorem Tree.pre(T:Tree nodes):∀(r:List Bs) (k:List Bs) (n:Node),n∈nodes->n.key=k++r->∃m∈nodes,m.key=k:=by
 intro r
 induction h:r.length generalizing r with
 |zero =>
  intro k n hn hk
  have:r=[]:=List.eq_nil_of_length_eq_zero h
  subst this;exact⟨n,hn,by simpa using hk⟩
 |succ j ih =>
  intro k n hn hk;have hr:r≠[]:=fun e=>by subst e;simp at h
  have e:r=r.dropLast++[r.getLast hr]:=(List.dropLast_concat_getLast hr).symm;rw[e,<- List.append_assoc]at hk;obtain⟨p,hp,dS,_,_⟩:=T.par n hn _ _ hk
  exact ih r.dropLast (by simp[h]) k p hp dS
theorem qag.lt(h:qag W n):n.blk<W.heap.size:=(xrc.1 h.at_).1
theorem qag.cell(h:qag W n)(hv:n.cells[i]?=some v):W.cell? ⟨n.blk,i,none⟩=some v:=by
 unfold World.cell?
 have:=h.at_
 simp only[this];simpa using hv
theorem qag.frozen(h:qag W n)(i:Nat):W.frozen? ⟨n.blk,i,none⟩=false:=by
 unfold World.frozen?
 have:=h.at_
 simp only[this];simp
theorem qag.name(h:qag W n):W.cell? ⟨n.blk,0,none⟩=some (.string (sb (qad n.key))):=h.cell rfl
theorem qag.below(h:qag W n)(hb:Below W.heap.size W W'):qag W' n:=by
 refine⟨(hb.block _ h.lt).trans h.at_,h.row.kept (row:=none) ⟨hb.os,hb.tape,hb.output,hb.size,fun k hk _=>hb.block k hk⟩ ?_⟩
 cases h2:n.sl.ownBlock
 ·exact .inl rfl
 ·exact .inr (by simp)
theorem qag.keep(h:qag W n)(hb:Keep T W W')(h1:¬T n.blk)(h2:∀g,n.sl.ownBlock=some g->¬T g):qag W' n:=by
 refine⟨(hb.block _ h.lt h1).trans h.at_,?_⟩
 obtain⟨hl,hr⟩:=h.row
 refine⟨hl,?_⟩
 rcases hr with hr|⟨g,cap,aH,hv,eQ,hg,rest⟩
 ·exact .inl hr
 ·exact .inr ⟨g,cap,aH,hv,eQ,(hb.block g (xrc.1 hg).1 (h2 g (by rw[hv];rfl))).trans hg,rest⟩
theorem qag.kid(h:qag W n)(hj:n.kids[j]?=some b):∃g cap,n.sl=.slice (some ⟨g,0,none⟩) n.kids.length cap/\W.cell? ⟨g,j,none⟩=some (nptr b):=by
 obtain⟨hl,hr⟩:=h.row
 rcases hr with ⟨hv,h0⟩|⟨g,cap,aH,hv,eQ,hg,hn,hm,hc,ht⟩
 ·rw[List.getElem?_eq_none (by omega)]at hj;cases hj
 ·refine⟨g,cap,hv,?_⟩
  unfold World.cell?;simp only[hg];have h1:(n.kids.map nptr)[j]?=some (nptr b):=by simp[hj]
  rw[<-ht]at h1;have ak:j<n.kids.length:=(xr0.1 hj).1;rw[List.getElem?_take_of_lt (by omega)]at h1
  simpa using h1
theorem qkp(T:Tree nodes)(hN:∀n∈nodes,qag W n){p:Node}(hp:p∈nodes)(x:ByteArray):
  Calls prog 104 #[nptr p.blk,.string x] W fun e w'=>(∃ks:List Node,p.kids=ks.map (·.blk)/\(∀k,k∈ks↔(k∈nodes/\∃x,k.key=p.key++[x]))/\(ks.map fun k=>qad k.key).Pairwise (fun a b=>cmpB a b<0)/\qlz (ks.map fun k=>qad k.key) (bl x) e)/\w'=W:=by
 obtain⟨ks,hk,hm,hs⟩:=T.kids p hp;have hP:=hN p hp;have dh:W.cell? ⟨p.blk,7,none⟩=some p.sl:=hP.cell rfl;have a9:p.kids.length=ks.length:=by rw[hk];simp
 obtain⟨hl,hr⟩:=hP.row
 rcases hr with ⟨hv,h0⟩|⟨g,cap,aH,hv,eQ,hg,hn,ia,hc,ht⟩
 ·have:ks=[]:=List.eq_nil_of_length_eq_zero (by omega)
  subst this;rw[hv]at dh
  refine(qm3 p.blk x W dh).mono ?_
  rintro e w' ⟨h,rfl⟩
  exact⟨⟨[],hk,hm,hs,h⟩,rfl⟩
 ·rw[hv,a9]at dh;have oL:ks.length<=1000:=by
   have aD:(ks.map (·.key)).Nodup:=by
    have:(ks.map fun k=>qad k.key).Nodup:=hs.imp (fun {a b} h e=>by subst e;rw[show cmpB a a=0 from qdc a]at h;omega)
    rw[show(ks.map fun k=>qad k.key)=(ks.map (·.key)).map qad by simp]at this
    exact qb1 this
   have h1:(ks.map (·.key)) ⊆ nodes.map (·.key):=by
    intro k cx;obtain⟨n,dp,rfl⟩:=xrq.1 cx
    exact xrq.2 ⟨n,((hm n).1 dp).1,rfl⟩
   have h2:=qdf aD h1;have h3:=T.len
   simp at h2;omega
  have fZ:(ks.map fun k=>qad k.key).length=ks.length:=by simp
  rw[<-fZ]at dh
  refine(qm2 p.blk g cap p.kids (ks.map fun k=>qad k.key) x W (by simp[a9]) (by simpa using oL) hs dh ?_ ?_).mono ?_
  ·intro j b hj;obtain⟨g',av,dd,kR⟩:=hP.kid hj;rw[hv]at dd;cases dd;exact kR
  ·intro j b n hj dp;rw[hk]at hj;simp only[xrs,Option.map_eq_some_iff]at hj dp;obtain⟨k,fY,rfl⟩:=hj;obtain⟨k',lh,rfl⟩:=dp;rw[fY]at lh;cases lh
   exact(hN k ((hm k).1 (xr2 fY)).1).name
  ·rintro e w' ⟨h,rfl⟩
   exact⟨⟨ks,hk,hm,hs,h⟩,rfl⟩
end
section
open Go.RowKit Go.Shelf
variable {nodes:List Node}{n r:Node}
attribute [local go_sem] Oper.semAt_some
def qoy (nodes:List Node)(ks:List Bs)(e:Ending):Prop:=(∃n∈nodes,n.key=ks/\e=.returned (nptr n.blk))\/((∀n∈nodes,n.key≠ks)/\e=.returned (.pointer none))
theorem Tree.qti(T:Tree nodes){p:Node}(hp:p∈nodes){ks:List Node}(hm:∀k,k∈ks↔(k∈nodes/\∃x,k.key=p.key++[x])){x:Bs}(hx:x ∉ ks.map fun k=>qad k.key)
  {full:List Bs} (hf:p.key++[x] <+: full):∀n∈nodes,n.key≠full:=by
 intro n hn e;obtain⟨r,hr⟩:=hf;rw[<-hr]at e;obtain⟨m,Cc,df⟩:=T.pre r (p.key++[x]) n hn e
 exact hx (xrq.2 ⟨m,(hm m).2 ⟨Cc,x,df⟩,by rw[df,qaq]⟩)
def qw7 (nodes:List Node)(n:Node)(x:Bs)(W:World)(e:Ending):Prop :=
 (∃(at_:Nat) (k:Node) (g cap:Nat),e=.returned (.tuple #[.int .i64 at_,.bool true])/\k∈nodes/\k.key=n.key++[x]/\at_<n.kids.length/\W.cell? ⟨n.blk,7,none⟩=some (.slice (some ⟨g,0,none⟩) n.kids.length cap)/\W.cell? ⟨g,at_,none⟩=some (.pointer (some ⟨k.blk,0,none⟩))) \/
 (∃(at_:Nat),e=.returned (.tuple #[.int .i64 at_,.bool false])/\∀full,n.key++[x] <+: full->∀m∈nodes,m.key≠full)
theorem qs4(T:Tree nodes)(hn:n∈nodes)(x:Bs)(W:World)(hN:∀n∈nodes,qag W n):
  Calls prog 104 #[.pointer (some ⟨n.blk,0,none⟩),.string (sb x)] W fun e w'=>qw7 nodes n x W e/\w'=W:=by
 refine(qkp T hN hn (sb x)).mono ?_
 rintro e w' ⟨⟨ks,hk,hm,hs,at_,th,rfl,dn,oR,rl,xn⟩,rfl⟩
 refine⟨?_,rfl⟩
 rw[qbs]at xn oR rl
 cases th with
 |true =>
  left
  have h1:=xn.1 rfl;simp only[xrs,Option.map_eq_some_iff]at h1;obtain⟨k,cf,aY⟩:=h1;obtain⟨gr,y,hy⟩:=(hm k).1 (xr2 cf);rw[hy,qaq]at aY;subst aY;have hj:n.kids[at_]?=some k.blk:=by rw[hk];simp[cf]
  obtain⟨g,cap,hv,hc⟩:=(hN n hn).kid hj
  exact⟨at_,k,g,cap,rfl,gr,hy,(xr0.1 hj).1,by rw[<-hv];exact(hN n hn).cell rfl,hc⟩
 |false =>
  right
  refine⟨at_,rfl,fun full hf=>T.qti hn hm (fun hx=>?_) hf⟩
  obtain⟨j,hj⟩:=xre hx;have h0:cmpB x x=0:=qdc x
  rcases Nat.lt_or_ge j at_ with h|h
  ·have:=oR j x h hj;omega
  ·rcases Nat.lt_or_ge at_ j with h2|h2
   ·-- the one at the place is less than x
    have ak:at_<(ks.map fun k=>qad k.key).length:=by have:=(xr0.1 hj).1;omega
    have h3:=List.pairwise_iff_getElem.1 hs at_ j ak (xr0.1 hj).1 h2;rw[(xr0.1 hj).2]at h3;have h4:=rl at_ _ (Nat.le_refl _) (xr1 ak)
    omega
   ·obtain rfl:j=at_:=by omega
    have:=xn.2 hj;cases this
theorem qu6(T:Tree nodes)(hr:r∈nodes)(a_:r.key=[])(s:ByteArray)(hs:s.size<=2000000)(w:World)(hN:∀n∈nodes,qag w n):
  Calls prog 63 #[nptr r.blk,.string s] w fun e w'=>qoy nodes (qac (bl s)) e/\Below w.heap.size w w':=by
 have bz:∀k:Nat,Fence.wide.depth.isSome=true->1<=k:=fun k h=>by simp[Fence.wide]at h
 refine(xrv (n:=3)).1 ?_
 refine callsIn_of_wp_marks func63 rfl trivial ?_ rfl
 unfold nptr;simp only[ntmps63,List.size_toArray,List.length_cons,List.length_nil,Nat.reduceAdd,Nat.reduceSub,Array.replicate_succ,Array.replicate_zero,List.push_toArray,List.append_toArray,List.nil_append,List.cons_append]
 gi_wp2_with ((first|refine⟨trivial,bz _,?_⟩|refine⟨trivial,?_⟩);gi_at_call 102;refine(xrv.2 (qi9 s hs _)).mono ?_;rintro e W ⟨gf,lb,rfl,eg,hb,aB⟩)
 have eO:w.heap.size+2<=W.heap.size:=by have:=hb.size;simp at this;omega
 obtain⟨S,hS,hq⟩:=aB (fun b=>(b=w.heap.size\/b=w.heap.size+1)\/W.heap.size<=b) (fun b h1 h2 h=>by simp at h1;omega);have o5:Box W w.heap.size 97 (.pointer none):=((Box.new w 97 _).alloc _).below hb (by simp<;>omega);have o6:Box W (w.heap.size+1) 97 (.pointer (some ⟨r.blk,0,none⟩)):=by
  have:=Box.new (w.alloc (.cells #[.pointer none] 97)) 97 (.pointer (some ⟨r.blk,0,none⟩))
  rw[xrt]at this
  exact this.below hb (by simp)
 have bZ:Below w.heap.size w W:=qab (((Below.refl _ _).alloc (Nat.le_refl _) _).alloc (by simp) _) hb;clear aB hb;have iJ:∀b,b<=w.heap.size+1->¬(S b\/W.heap.size<=b):=fun b bh h=>by
  rcases h with h|h
  ·have h1:=(hS _ h).1;simp at h1;omega
  ·omega
 refine qfo (T:=fun b=>b=w.heap.size\/b=w.heap.size+1) rfl eg hq (Below.refl _ _) rfl (fun b h=>(hS b h).2) (fun b h=>by omega)
  (fun pre A=>(∃n∈nodes,n.key=pre/\Box A (w.heap.size+1) 97 (.pointer (some ⟨n.blk,0,none⟩)))/\Box A w.heap.size 97 (.pointer none)/\Below w.heap.size w A)
  (fun c pre A=>c=.ret/\(∀n∈nodes,n.key≠qac (bl s))/\Box A w.heap.size 97 (.pointer none)/\Below w.heap.size w A)
  (fun pre A B hs hk=>⟨by obtain⟨n,h1,h2,h3⟩:=hs.1;exact⟨n,h1,h2,h3.keep hk (iJ _ (Nat.le_refl _))⟩,hs.2.1.keep hk (iJ _ (by omega)),hs.2.2.trans (hk.toBelow hs.2.2.size (fun b bh=>iJ b (by omega)))⟩)
  (fun c pre A B hs hk=>⟨hs.1,hs.2.1,hs.2.2.1.keep hk (iJ _ (by omega)),hs.2.2.2.trans (hk.toBelow hs.2.2.2.size (fun b bh=>iJ b (by omega)))⟩)
  ⟨⟨r,hr,a_,o6⟩,o5,bZ⟩
  (fun x=>{tmps:=#[.pointer (some ⟨r.blk,0,none⟩),.string s,undef,undef,.pointer (some ⟨w.heap.size,0,none⟩),.pointer (some ⟨w.heap.size+1,0,none⟩),.string (sb x),undef,undef,
   .pointer (some ⟨r.blk,0,none⟩),.string s,.func (.func gf) #[] lb,.string (sb x),undef,undef,undef,undef,undef,undef,undef,undef,undef,undef,undef,undef,undef,undef,undef,undef],defers:=[]}) ?assign ?body ?done ?stop
 case assign =>
  intro l x W K hK
  gi_wp2
  exact hK
 case body =>
  rintro l pre x W2 ⟨⟨n,hn,bX,cZ⟩,bI,ah⟩ cY ax
  have vm:∀n∈nodes,qag W2 n:=fun n hn=>(hN n hn).below ah
  have oO:=qs4 T hn x W2 vm;have nK:=bI.cell;have wg:=bI.frozen;have tL:=cZ.cell;have wh:=cZ.frozen
  gi_wp2_with ((first|refine⟨trivial,bz _,?_⟩|refine⟨trivial,?_⟩);gi_at_call 104;refine(CallsIn.inRound l (xrv.2 oO)).mono ?_;rintro e w' ⟨(⟨at_,k,g,cap,rfl,cf,aY,bW,gL,gN⟩|⟨at_,rfl,ay⟩),rfl⟩)
  ·refine⟨(Keep.refl (fun b=>b=w.heap.size\/b=w.heap.size+1) _).setCell (p:=⟨w.heap.size+1,0,none⟩) (.inr rfl) _,⟨k,cf,by rw[aY,bX],cZ.set _⟩,bI.other _ _ (by simp),ah.setCell (by simp) _⟩
  ·refine⟨(Keep.refl (fun b=>b=w.heap.size\/b=w.heap.size+1) _).setCell (p:=⟨w.heap.size,0,none⟩) (.inl rfl) _,rfl,ay _ (by rw[bX];exact ax),bI.set _,ah.setCell (Nat.le_refl _) _⟩
 case done =>
  rintro A ⟨⟨n,hn,bX,cZ⟩,bI,ah⟩ hD
  have nK:=bI.cell;have wg:=bI.frozen;have tL:=cZ.cell;have wh:=cZ.frozen
  gi_wp2
  have fU:(A.setCell ⟨w.heap.size,0,none⟩ (.pointer (some ⟨n.blk,0,none⟩))).heap[W.heap.size]?=some (.deferred (some [])):=(Below.heap_setCell _ _ _ _ (by simp;omega)).trans hD;have ag:=((bI.set (.pointer (some ⟨n.blk,0,none⟩))).put W.heap.size (.deferred none) (by omega)).cell
  refine⟨by simp,.inl ⟨_,_,rfl,run_takeDeferred fU,?_⟩⟩
  refine⟨.pointer (some ⟨n.blk,0,none⟩),by simp[results,results127,go_sem,ag],.inl ⟨n,hn,bX,rfl⟩,qay (ah.setCell (Nat.le_refl _) _) _ _ (by omega)⟩
 case stop =>
  rintro c pre A ax ⟨rfl,hv,bI,ah⟩ hD
  gi_wp2
  have ag:=(bI.put W.heap.size (.deferred none) (by omega)).cell
  refine⟨by simp,.inl ⟨_,_,rfl,run_takeDeferred hD,?_⟩⟩
  refine⟨.pointer none,by simp[results,results127,go_sem,ag],.inr ⟨hv,rfl⟩,qay ah _ _ (by omega)⟩
end
section
open Go.RowKit
theorem eq35(d:Nat)(a b c e:Int)(w:World):(Op.equalIn (d+2) 35 (.agg #[.int .i64 a,.int .i64 b]) (.agg #[.int .i64 c,.int .i64 e])).run prog w=.ok (a == c&&b == e) w:=by
 have u3:=underlying3;have Dx:=underlying35;have z3:=sizeOf3;have a3:=isAgg3;unfold Op.equalIn;simp only[Sem.run_bind,run_underlying Dx,Result.andThen_ok]
 simp[go_sem,z3,a3,List.range',Std.Legacy.Range.forIn_eq_forIn_range',part]
 by_cases h:a=c<;>by_cases k:b=e<;>simp[h,k]
theorem qz6(a b c e:Int)(w:World):(binOp .eql 35 (.agg #[.int .i64 a,.int .i64 b]) (.agg #[.int .i64 c,.int .i64 e])).run prog w=.ok (.bool (a == c&&b == e)) w:=by
 rw[run_eql_struct,show(10000:Nat)=9998+2 from rfl,eq35];rfl
theorem qvt(a b c e:Int)(w:World):(binOp .neq 35 (.agg #[.int .i64 a,.int .i64 b]) (.agg #[.int .i64 c,.int .i64 e])).run prog w=.ok (.bool (!(a == c&&b == e))) w:=by
 rw[run_neq_struct,show(10000:Nat)=9998+2 from rfl,eq35];rfl
theorem qxj(op:BinOp)(x y:Operand)(xs ys:Array Value)(w:World):(eqGuard op 35 x y (.agg xs) (.agg ys)).run prog w=.ok () w :=
 run_eqGuard_agg w op 35 x y xs ys (by kernel_rfl)
theorem qsd(a b:Int)(w:World):
  Calls prog 195 #[.agg #[.int .i64 a,.int .i64 b]] w fun e w'=>e=.returned (.agg #[.int .i64 (max 0 (min a 1000)),.int .i64 (max 0 (min b 1000))])/\Below w.heap.size w w':=by
 have i0:∀w,(Instr.index 35 (.agg #[.int .i64 a,.int .i64 b]) (.int .i64 0)).run prog w=.ok (.int .i64 a) w:=fun _=>by kernel_rfl
 have i1:∀w,(Instr.index 35 (.agg #[.int .i64 a,.int .i64 b]) (.int .i64 1)).run prog w=.ok (.int .i64 b) w:=fun _=>by kernel_rfl
 go_enter func195,ntmps195
 go_wp2
 go_rounds 3
 all_goals go_wp2
 all_goals refine xrn (v:=.agg #[.int .i64 (max 0 (min a 1000)),.int .i64 (max 0 (min b 1000))]) (by simp[results,results60,go_sem];omega) rfl ⟨rfl,by(repeat (first|exact Below.refl _ _|refine qab ?_ (by assumption)|refine Below.setCell ?_ (by first|omega|(simp<;>omega)) _|refine Below.alloc ?_ (by first|omega|(simp<;>omega)) _|refine Below.drew ?_|refine xrm ?_ _))⟩
theorem qip(a b:Int)(w:World):
  Calls prog 147 #[.agg #[.int .i64 a,.int .i64 b]] w fun e w'=>e=.returned (.bool (qao a b))/\Below w.heap.size w w':=by
 have hq:=qz6;have hg:=qxj
 go_enter func147,ntmps147
 go_wp2
 go_region_with (go_at_call 195;refine(qsd _ _ _).mono ?_;rintro e w1 ⟨rfl,aa⟩;have c0:=(aa.cell (p:=⟨w.heap.size,0,none⟩) (by simp));have c1:=(aa.cell (p:=⟨w.heap.size,1,none⟩) (by simp)))
 all_goals go_wp2
 all_goals go_ret
 all_goals exact⟨qbt (by rw[Bool.eq_iff_iff];simp[qao];omega),(by(repeat (first|exact Below.refl _ _|refine qab ?_ (by assumption)|refine Below.setCell ?_ (by first|omega|(simp<;>omega)) _|refine Below.alloc ?_ (by first|omega|(simp<;>omega)) _|refine Below.drew ?_|refine xrm ?_ _)))⟩
theorem qe3(a b:Int)(w:World):
  Calls prog 54 #[.agg #[.int .i64 a,.int .i64 b]] w fun e w'=>e=.returned (.pointer (some ⟨w.heap.size+1,0,none⟩)) /\
   w'=((w.alloc (.cells #[.int .i64 a,.int .i64 b] 35)).alloc (.cells #[.string ⟨#[]⟩,.bool false,.int .i64 0,.int .i64 0,.int .i64 a,.int .i64 b,.pointer none,.slice none 0 0] 136)):=by
 go_enter func54,ntmps54
 go_wp2
 go_ret
 exact⟨rfl,rfl⟩
theorem qof(c d a b:Int)(w:World):
  Calls prog 53 #[.agg #[.int .i64 c,.int .i64 d],.agg #[.int .i64 a,.int .i64 b]] w fun e w'=>e=.returned (.pointer (some ⟨w.heap.size+2,0,none⟩)) /\
   w'=(((w.alloc (.cells #[.int .i64 c,.int .i64 d] 35)).alloc (.cells #[.int .i64 a,.int .i64 b] 35)).alloc (.cells #[.string ⟨#[]⟩,.bool true,.int .i64 c,.int .i64 d,.int .i64 a,.int .i64 b,.pointer none,.slice none 0 0] 136)):=by
 go_enter func53,ntmps53
 go_wp2
 go_ret
 exact⟨rfl,rfl⟩
theorem qgx(b:Nat)(f:Bool)(w:World)(h:w.cell? ⟨b,1,none⟩=some (.bool f)):
  Calls prog 105 #[.pointer (some ⟨b,0,none⟩)] w fun e w'=>e=.returned (.bool f)/\w'=w:=by
 go_enter func105,ntmps105
 go_wp2
 go_ret
 exact⟨rfl,rfl⟩
theorem qj5(b:Nat)(x y:Int)(w:World)(h:w.cell? ⟨b,4,none⟩=some (.int .i64 x))(h':w.cell? ⟨b,5,none⟩=some (.int .i64 y)):
  Calls prog 86 #[.pointer (some ⟨b,0,none⟩)] w fun e w'=>e=.returned (.agg #[.int .i64 x,.int .i64 y])/\Below w.heap.size w w':=by
 have hb:=xrb w _ h
 go_enter func86,ntmps86
 go_wp2
 exact xrn (v:=.agg #[.int .i64 x,.int .i64 y]) (by simp[results,results129,go_sem]) rfl ⟨rfl,by(repeat (first|exact Below.refl _ _|refine qab ?_ (by assumption)|refine Below.setCell ?_ (by first|omega|(simp<;>omega)) _|refine Below.alloc ?_ (by first|omega|(simp<;>omega)) _|refine Below.drew ?_|refine xrm ?_ _))⟩
theorem qim(a b c d:Int)(w:World)(h1:0<=a)(h2:a<=100000)(h3:0<=b)(h4:b<=100000)(h5:0<=c)(h6:c<=100000)(h7:0<=d)(h8:d<=100000):
  Calls prog 139 #[.agg #[.int .i64 a,.int .i64 b],.agg #[.int .i64 c,.int .i64 d]] w fun e w'=>e=.returned (.agg #[.int .i64 (a+c),.int .i64 (b+d)])/\Below w.heap.size w w':=by
 go_enter func139,ntmps139
 go_wp2
 refine wp_loop_rounds 3 ?_
 rw[rounds_succ];go_wp2
 go_region
 go_wp2
 rw[rounds_succ];go_wp2
 go_region
 go_wp2
 rw[rounds_succ];go_wp2
 exact xrn (v:=.agg #[.int .i64 (a+c),.int .i64 (b+d)]) (by simp[results,results78,go_sem]) rfl ⟨rfl,by(repeat (first|exact Below.refl _ _|refine qab ?_ (by assumption)|refine Below.setCell ?_ (by first|omega|(simp<;>omega)) _|refine Below.alloc ?_ (by first|omega|(simp<;>omega)) _|refine Below.drew ?_|refine xrm ?_ _))⟩
end
section
open Go.RowKit Go.Shelf
variable {nodes:List Node}{Tm:Nat->Prop}{W W':World}{n:Node}
attribute [local go_sem] Oper.semAt_some
def dfs (ch:Node->List Node):Nat->Node->List Node
 |0,n=>[n]
 |f+1,n=>n::(ch n).flatMap (dfs ch f)
structure Kids (nodes:List Node) (ch:Node->List Node):Prop where
 blks:∀p∈nodes,p.kids=(ch p).map (·.blk)
 mem:∀p∈nodes,∀k,k∈ch p↔(k∈nodes/\∃x,k.key=p.key++[x])
 sort:∀p∈nodes,((ch p).map fun k=>qad k.key).Pairwise fun a b=>cmpB a b<0
theorem Tree.ch(T:Tree nodes):∃ch,Kids nodes ch:=by
 have:∀p:Node,∃ks:List Node,p∈nodes->p.kids=ks.map (·.blk)/\(∀k,k∈ks↔(k∈nodes/\∃x,k.key=p.key++[x]))/\(ks.map fun k=>qad k.key).Pairwise fun a b=>cmpB a b<0:=fun p=>by
  by_cases hp:p∈nodes
  ·obtain⟨ks,h⟩:=T.kids p hp;exact⟨ks,fun _=>h⟩
  ·exact⟨[],fun h=>absurd h hp⟩
 refine⟨fun p=>(this p).choose,⟨fun p hp=>((this p).choose_spec hp).1,fun p hp=>((this p).choose_spec hp).2.1,fun p hp=>((this p).choose_spec hp).2.2⟩⟩
theorem qe2(hT:∀n∈nodes,¬Tm n.blk/\∀g,n.sl.ownBlock=some g->¬Tm g)(hN:∀n∈nodes,qag W n)(hk:Keep Tm W W'):∀n∈nodes,qag W' n :=
 fun n hn=>(hN n hn).keep hk (hT n hn).1 (hT n hn).2
theorem qmb{ch:Node->List Node}(K:Kids nodes ch)(l:Nat)(Tm:Nat->Prop)(XS:List Node)(J Jx:List Node->World->Prop)
  (hT:∀n∈nodes,¬Tm n.blk/\∀g,n.sl.ownBlock=some g->¬Tm g)
  (hY:∀m pre x W1,J pre W1->pre++[x] <+: XS->YieldAt Fence.wide m prog l #[nptr x.blk] W1 fun e W' =>
   (e=.returned (.bool true)/\J (pre++[x]) W'/\Keep Tm W1 W')\/(e=.returned (.bool false)/\Jx (pre++[x]) W'))
  (n:Node) (hn:n∈nodes) (a9:(ch n).length<=1000) (sub:Node->List Node)
  (ih:∀k∈ch n,∀(m:Nat) (pre:List Node) (W:World),(∀n∈nodes,qag W n)->J pre W->pre++sub k <+: XS ->
   CallsIn Fence.wide m prog 150 #[nptr k.blk,.func (.yield l) #[] #[]] W fun e W' =>
    (e=.returned (.bool true)/\J (pre++sub k) W'/\Keep Tm W W')\/(e=.returned (.bool false)/\∃q,q <+: XS/\Jx q W'))
  (m:Nat) (pre:List Node) (W:World) (hN:∀n∈nodes,qag W n) (hJ:J pre W) (hX:pre++n::(ch n).flatMap sub <+: XS) :
   CallsIn Fence.wide m prog 150 #[nptr n.blk,.func (.yield l) #[] #[]] W fun e W' =>
    (e=.returned (.bool true)/\J (pre++n::(ch n).flatMap sub) W'/\Keep Tm W W')\/(e=.returned (.bool false)/\∃q,q <+: XS/\Jx q W'):=by
 have bz:∀k:Nat,Fence.wide.depth.isSome=true->1<=k:=fun k h=>by simp[Fence.wide]at h
 have km:pre++[n] <+: XS:=List.IsPrefix.trans ⟨(ch n).flatMap sub,by simp⟩ hX;obtain⟨fn,tmps,assign,body,hy,hR⟩:=hY (m-1) pre n W hJ km;have fO:n.kids.length=(ch n).length:=by rw[K.blks n hn];simp
 obtain⟨ao,cap,dh⟩:∃ao cap,n.sl=.slice ao (ch n).length cap:=by
  obtain⟨_,hr⟩:=(hN n hn).row
  rcases hr with ⟨hv,h0⟩|⟨g,cap,aH,hv,_⟩
  ·exact⟨none,0,by rw[hv,<- fO,h0]⟩
  ·exact⟨_,_,by rw[hv,fO]⟩
 have cX:=hR.mono (R':=fun e W'=>(e=.returned (.bool true)/\J (pre++[n]) W'/\Keep Tm W W'/\W'.cell? ⟨n.blk,7,none⟩=some (.slice ao (ch n).length cap))\/(e=.returned (.bool false)/\Jx (pre++[n]) W'))
  (fun e W' h=>h.elim (fun ⟨he,hj,hk⟩=>.inl ⟨he,hj,hk,by rw[<-dh];exact((hN n hn).keep hk (hT n hn).1 (hT n hn).2).cell rfl⟩) .inr)
 clear hR;obtain⟨L,hL⟩:∃L,L=(ch n).length:=⟨_,rfl⟩;rw[<-hL]at cX a9;have HL:Hid (L=(ch n).length):=hL;have qm:Hid (n.sl=.slice ao (ch n).length cap):=dh;clear hL dh fO
 refine callsIn_of_wp func150 rfl trivial ?_ rfl
 unfold nptr at hy ⊢;simp only[ntmps150,List.size_toArray,List.length_cons,List.length_nil,Nat.reduceAdd,Nat.reduceSub,Array.replicate_succ,Array.replicate_zero,List.push_toArray,List.append_toArray,List.nil_append,List.cons_append]
 gi_wp2_with (refine⟨bz _,?_⟩;refine cX.mono ?_;clear cX;rintro e W2 (⟨rfl,jy,aY,fl⟩|⟨rfl,jh⟩))
 ·gi_loopw [16] (fun i wr=>∃j:Nat,i=.int .i64 j/\j<=L/\J (pre++n::((ch n).take j).flatMap sub) wr/\Keep Tm W wr) (fun i _=>L-(intOf i).toNat)
  case atStart=>exact⟨0,rfl,Nat.zero_le _,by simpa using jy,aY⟩
  case round =>
   obtain⟨j,rfl,hj,jm,fY⟩:=hrel;have oh:=qe2 hT hN fY
   by_cases ak:j<L
   ·have fE:j<(ch n).length:=by rw[<-HL.out];exact ak
    obtain⟨k,hk⟩:∃k,(ch n)[j]?=some k:=⟨_,xr1 fE⟩;have BZ:k∈ch n:=xr2 hk;obtain⟨g,av,hv,cQ⟩:=(oh n hn).kid (j:=j) (b:=k.blk) (by rw[K.blks n hn];simp[hk]);have Bm:ao=some ⟨g,0,none⟩:=by
     have:=qm.out;rw[hv]at this;injection this with h1 _ _;exact h1.symm
    have kh:Hid ((ch n).take (j+1)=(ch n).take j++[k]):=by
     rw[xrf fE];rw[xr1 fE]at hk;cases hk;rfl
    have gy:(pre++n::((ch n).take j).flatMap sub)++sub k <+: XS:=by
     refine List.IsPrefix.trans ⟨((ch n).drop (j+1)).flatMap sub,?_⟩ hX
     conv=>rhs;rw[<-List.take_append_drop (j+1) (ch n),kh.out]
     simp
    have aJ:=ih k BZ (m-1) _ wr oh jm gy;clear ih hY hk jm;unfold nptr at aJ cQ;subst Bm
    gi_wp2_with ((first|refine⟨trivial,bz _,?_⟩|refine⟨trivial,?_⟩);gi_at_call 150;refine aJ.mono ?_;clear aJ;rintro e W3 (⟨rfl,ve,bW⟩|⟨rfl,q,hq,ug⟩))
    ·go_roundw
     case rel =>
      refine⟨j+1,by go_num,by omega,?_,fY.trans bW⟩
      rw[kh.out];simpa using ve
     case measure=>simp[intOf];omega
    ·go_ret
     exact .inr ⟨rfl,q,hq,ug⟩
   ·gi_wp2
    go_ret
    have fE:(ch n).take j=ch n:=xrd (by rw[<-HL.out];omega);rw[fE]at jm
    exact .inl ⟨rfl,jm,fY⟩
 ·go_ret
  exact .inr ⟨rfl,_,km,jh⟩
theorem qvk(T:Tree nodes){ch:Node->List Node}(K:Kids nodes ch)(hn:n∈nodes):(ch n).length<=20:=by
 have aD:((ch n).map (·.key)).Nodup:=by
  have:((ch n).map fun k=>qad k.key).Nodup:=(K.sort n hn).imp (fun {a b} h e=>by subst e;rw[show cmpB a a=0 from qdc a]at h;omega)
  rw[show((ch n).map fun k=>qad k.key)=((ch n).map (·.key)).map qad by simp]at this
  exact qb1 this
 have h1:∀x∈(ch n).map (·.key),x∈nodes.map (·.key):=by
  intro k cx;obtain⟨c,hc,rfl⟩:=xrq.1 cx
  exact xrq.2 ⟨c,((K.mem n hn c).1 hc).1,rfl⟩
 have h2:=qdf aD h1;have h3:=T.len
 simp at h2;omega
theorem qxh(T:Tree nodes){ch:Node->List Node}(K:Kids nodes ch)(l:Nat)(Tm:Nat->Prop)(XS:List Node)(J Jx:List Node->World->Prop)
  (hT:∀n∈nodes,¬Tm n.blk/\∀g,n.sl.ownBlock=some g->¬Tm g)
  (hY:∀m pre x W1,J pre W1->pre++[x] <+: XS->YieldAt Fence.wide m prog l #[nptr x.blk] W1 fun e W' =>
   (e=.returned (.bool true)/\J (pre++[x]) W'/\Keep Tm W1 W')\/(e=.returned (.bool false)/\Jx (pre++[x]) W')) :
  ∀(f:Nat) (n:Node),n∈nodes->4<=n.key.length+f->∀(m:Nat) (pre:List Node) (W:World),(∀n∈nodes,qag W n)->J pre W->pre++dfs ch f n <+: XS ->
   CallsIn Fence.wide m prog 150 #[nptr n.blk,.func (.yield l) #[] #[]] W fun e W' =>
    (e=.returned (.bool true)/\J (pre++dfs ch f n) W'/\Keep Tm W W')\/(e=.returned (.bool false)/\∃q,q <+: XS/\Jx q W'):=by
 intro f
 induction f with
 |zero =>
  intro n hn hk m pre W hN hJ hX;have oB:ch n=[]:=by
   rcases List.eq_nil_or_concat (ch n) with h|⟨ks,k,h⟩
   ·exact h
   ·exfalso
    obtain⟨gr,x,hx⟩:=(K.mem n hn k).1 (by rw[h];simp)
    have:=(T.ok k gr).2
    rw[hx]at this;simp at this;omega
  have h:=qmb K l Tm XS J Jx hT hY n hn (by rw[oB];simp) (fun _=>[]) (by rw[oB];simp) m pre W hN hJ (by rw[oB];exact hX);rw[oB]at h;exact h
 |succ f ih =>
  intro n hn hk m pre W hN hJ hX
  exact qmb K l Tm XS J Jx hT hY n hn (by have:=qvk T K hn;omega) (dfs ch f) (fun k cx=>ih k ((K.mem n hn k).1 cx).1 (by obtain⟨x,hx⟩:=((K.mem n hn k).1 cx).2;rw[hx];simp;omega)) m pre W hN hJ hX
theorem qio(T:Tree nodes){ch:Node->List Node}(K:Kids nodes ch)(hn:n∈nodes)(w:World)(hN:∀n∈nodes,qag w n):
  Calls prog 101 #[nptr n.blk] w fun e w'=>e=.returned (.func (.func 149) #[] #[.pointer (some ⟨w.heap.size,0,none⟩)])/\w'=w.alloc (.cells #[nptr n.blk] 97) /\
   ∀Tm:Nat->Prop,(∀n∈nodes,¬Tm n.blk/\∀g,n.sl.ownBlock=some g->¬Tm g)->SeqK prog 149 #[.pointer (some ⟨w.heap.size,0,none⟩)] (fun x:Node=>nptr x.blk) (fun _=>False) Tm (dfs ch 4 n) w':=by
 have jL:∀(fn:Fn) (first cap:Array Value) (w:World),(Instr.makeFunc fn first cap).run prog w=.ok (.func fn first cap) w:=fun _ _ _ _=>rfl
 have key:∀Tm:Nat->Prop,(∀n∈nodes,¬Tm n.blk/\∀g,n.sl.ownBlock=some g->¬Tm g)->SeqK prog 149 #[.pointer (some ⟨w.heap.size,0,none⟩)] (fun x:Node=>nptr x.blk) (fun _=>False) Tm (dfs ch 4 n) (w.alloc (.cells #[nptr n.blk] 97)):=by
  intro Tm hT m l J Jx W hW hl hJ jz hY h0;have bz:∀k:Nat,Fence.wide.depth.isSome=true->1<=k:=fun k h=>by simp[Fence.wide]at h
  have kl:∀n∈nodes,qag W n:=fun n hn=>(hN n hn).below (qab ((Below.refl _ _).alloc (Nat.le_refl _) _) hW)
  have hb:W.cell? ⟨w.heap.size,0,none⟩=some (nptr n.blk):=((Box.new w 97 (nptr n.blk)).below hW (by simp)).cell;have he:=qxh T K l Tm (dfs ch 4 n) J Jx hT hY 4 n hn (by omega) (m-1) [] W kl h0 (List.prefix_refl _)
  refine callsIn_of_wp func149 rfl trivial ?_ rfl
  unfold nptr at he hb;simp only[ntmps149,List.size_toArray,List.length_cons,List.length_nil,Nat.reduceAdd,Nat.reduceSub,Array.replicate_succ,Array.replicate_zero,List.push_toArray,List.append_toArray,List.nil_append,List.cons_append]
  gi_wp2_with ((first|refine⟨trivial,bz _,?_⟩|refine⟨trivial,?_⟩);gi_at_call 150;refine he.mono ?_;clear he;rintro e W3 (⟨rfl,ve,bW⟩|⟨rfl,q,hq,ug⟩))
  ·go_end0
   exact⟨⟨_,rfl⟩,.inl ve⟩
  ·go_end0
   exact⟨⟨_,rfl⟩,.inr ⟨q,hq,ug⟩⟩
 unfold nptr at key ⊢
 go_enter func101,ntmps101
 go_wp2
 go_ret
 exact⟨rfl,rfl,key⟩
end
end Go.Proofs.YtphclnolomgjoaaGreatDoor
