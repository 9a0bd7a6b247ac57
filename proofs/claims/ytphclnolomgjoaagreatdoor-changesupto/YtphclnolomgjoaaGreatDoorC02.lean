import Derived.Test.YtphclnolomgjoaaGreatDoorC01
import Derived.Laws.StructEq
set_option linter.unusedVariables false
set_option linter.unusedSimpArgs false
set_option maxRecDepth 100000
set_option maxHeartbeats 4000000
namespace Go.Proofs.YtphclnolomgjoaaGreatDoor
open Tryz
section
open Go.RowKit Go.Shelf
variable {W w:World}{B b:Nat}{v:Value}
attribute [local go_sem] Oper.semAt_some
theorem qly(s:ByteArray)(hs:s.size<=2000000)(w:World):
  Cl 102 #[.string s] w fun e w'=>∃gf lb,e=.returned (.func (.func gf) #[] lb)/\(∀args w,(callFunc gf args).run prog w=.ok (.enter gf args) w) /\
   Bw w w'/\∀T:Nat->Prop,(∀b,w.heap.size<=b->b<w'.heap.size->¬T b) ->
    ∃S:Nat->Prop,(∀b,S b->w.heap.size<=b/\b<w'.heap.size)/\SeqK prog gf lb (fun l:Bs=>Value.string (sb l)) S T (qaa (bl s)) w':=by
 refine(qq3 s w).mono ?_
 rintro e w' (⟨h0,rfl,rfl⟩|⟨h0,rfl,rfl⟩)
 ·refine⟨151,#[],rfl,enters_of func151 (by kernel_rfl) rfl,Below.refl _ _,fun T _=>⟨fun _=>False,fun _ h=>h.elim,?_⟩⟩
  rw[show qaa (bl s)=[] by simp[qaa,h0]]
  exact qoy T _
 ·refine⟨224,_,rfl,enters_of func224 (by kernel_rfl) rfl,by(repeat (first|exact Below.refl _ _|refine qac ?_ (by assumption)|refine Below.setCell ?_ (by first|omega|(simp<;>omega)) _|refine Below.alloc ?_ (by first|omega|(simp<;>omega)) _|refine Below.drew ?_|refine xrm ?_ _)),fun T hT=>⟨fun b=>b=w.heap.size,fun b h=>by subst h;exact⟨Nat.le_refl _,by simp;omega⟩,?_⟩⟩
  rw[show qaa (bl s)=splitB (bl s) by simp[qaa,h0]]
  refine qo1 s hs _ _ _ T _ (by omega) ⟨hT _ (by omega) (by simp<;>omega),hT _ (by omega) (by simp<;>omega),hT _ (by omega) (by simp<;>omega)⟩ ?_ ?_ ?_ ?_
  all_goals simp[go_sem]
theorem Box.put{t:TypeId}(h:Box W b t v)(D:Nat)(o:Obj)(hD:b≠D):Box (W.putObj D o) b t v:=(World.putObj_heap_other hD).trans h
theorem qa8{A:World}(h:Below B w A)(D:Nat)(o:Obj)(hD:B<=D):Below B w (A.putObj D o) :=
 h.trans ⟨rfl,rfl,rfl,by simp,fun k hk=>World.putObj_heap_other (by omega)⟩
theorem qh2(s:ByteArray)(hs:s.size<=2000000)(w:World):
  Cl 62 #[.string s] w fun e w'=>e=.returned (.bool (qar (bl s)))/\Bw w w':=by
 have b_:∀k:Nat,Fence.wide.depth.isSome=true->1<=k:=fun k h=>by simp[Fence.wide]at h
 refine(xrv (n:=3)).1 ?_
 refine callsIn_of_wp_marks func62 rfl trivial ?_ rfl
 simp only[ntmps62,List.size_toArray,List.length_cons,List.length_nil,Nat.reduceAdd,Nat.reduceSub,Array.replicate_succ,Array.replicate_zero,List.push_toArray,List.append_toArray,List.nil_append,List.cons_append]
 gi_wp2_with ((first|refine⟨trivial,b_ _,?_⟩|refine⟨trivial,?_⟩);gi_at_call 102;refine(xrv.2 (qly s hs _)).mono ?_;rintro e W ⟨gf,lb,rfl,eg,hb,aI⟩)
 obtain⟨S,hS,hq⟩:=aI (fun b=>b=w.heap.size\/W.heap.size<=b) (fun b h1 h2 h=>by simp at h1;omega);have dr:Box W w.heap.size 4 (.bool false):=(Box.new w 4 _).below hb (by simp);have cn:Bw w W:=qac ((Below.refl _ _).alloc (Nat.le_refl _) _) hb;clear aI;have jg:∀b,b<=w.heap.size->¬(S b\/W.heap.size<=b):=fun b aZ h=>by
  have h2:=dr.lt
  rcases h with h|h
  ·have h1:=(hS _ h).1;simp at h1;omega
  ·omega
 refine qgy (T:=fun b=>b=w.heap.size) rfl eg hq (Below.refl _ _) rfl (fun b h=>(hS b h).2) (fun b h=>h ▸ dr.lt)
  (fun pre A=>pre.all qbd=true/\Box A w.heap.size 4 (.bool false)/\Bw w A)
  (fun c pre A=>c=.ret/\qar (bl s)=false/\Box A w.heap.size 4 (.bool false)/\Bw w A)
  (fun pre A B hs hk=>⟨hs.1,hs.2.1.keep hk (jg _ (Nat.le_refl _)),hs.2.2.trans (hk.toBelow hs.2.2.size (fun b aZ=>jg b (by omega)))⟩)
  (fun c pre A B hs hk=>⟨hs.1,hs.2.1,hs.2.2.1.keep hk (jg _ (Nat.le_refl _)),hs.2.2.2.trans (hk.toBelow hs.2.2.2.size (fun b aZ=>jg b (by omega)))⟩)
  ⟨rfl,dr,cn⟩
  (fun x=>{tmps:=#[.string s,undef,vP w.heap.size,.string (sb x),.string s,.func (.func gf) #[] lb,.string (sb x),undef,undef,undef],defers:=[]}) ?assign ?body ?done ?stop
 case assign =>
  intro l x W K hK
  gi_wp2
  exact hK
 case body =>
  rintro l pre x W2 ⟨a8,bC,ae⟩ dk aC
  have ai:x∈qaa (bl s):=aC.subset (by simp);have jD:(sb x).size<=maxLen:=by
   rw[qd3];have:=qix _ _ ai;rw[qb4]at this;unfold maxLen;omega
  have hv:=qkm (sb x);rw[qbi]at hv;have hc:=bC.cell;have hf:=bC.frozen
  cases ec:qbd x
  ·rw[ec]at hv
   gi_wp2_with ((first|refine⟨trivial,b_ _,?_⟩|refine⟨trivial,?_⟩);gi_at_call 103;refine(CallsIn.inRound l (xrv.2 (hv _ jD))).mono ?_;rintro e w' ⟨rfl,rfl⟩)
   refine⟨(Keep.refl (fun b=>b=w.heap.size) _).setCell (p:=vA w.heap.size 0) rfl _,rfl,?_,bC.set _,ae.setCell (Nat.le_refl _) _⟩
   rw[qar,List.all_eq_false];exact⟨x,ai,by simp[ec]⟩
  ·rw[ec]at hv
   gi_wp2_with ((first|refine⟨trivial,b_ _,?_⟩|refine⟨trivial,?_⟩);gi_at_call 103;refine(CallsIn.inRound l (xrv.2 (hv _ jD))).mono ?_;rintro e w' ⟨rfl,rfl⟩)
   exact⟨Keep.refl _ _,by simp[a8,ec],bC,ae⟩
 case done =>
  rintro A ⟨a8,bC,ae⟩ hD
  have hc:=bC.cell;have hf:=bC.frozen
  gi_wp2
  have ak:=dr.lt;have jl:(A.setCell (vA w.heap.size 0) (.bool true)).heap[W.heap.size]?=some (.deferred (some [])):=(Below.heap_setCell _ _ _ _ (by simp;omega)).trans hD;have af:=((bC.set (.bool true)).put W.heap.size (.deferred none) (by omega)).cell
  refine⟨by simp,.inl ⟨_,_,rfl,run_takeDeferred jl,?_⟩⟩
  refine⟨.bool true,by simp[results,results159,go_sem,af],qa9 (by rw[qar];exact a8.symm),qa8 (ae.setCell (Nat.le_refl _) _) _ _ (by omega)⟩
 case stop =>
  rintro c pre A aC ⟨rfl,hv,bC,ae⟩ hD
  gi_wp2
  have ak:=dr.lt;have af:=(bC.put W.heap.size (.deferred none) (by omega)).cell
  refine⟨by simp,.inl ⟨_,_,rfl,run_takeDeferred hD,?_⟩⟩
  refine⟨.bool false,by simp[results,results159,go_sem,af],qa9 hv.symm,qa8 ae _ _ (by omega)⟩
end
section
open Go
theorem qf9(a b:UInt8)(oh bs:Bs):Lib.compareBytes (a::oh) (b::bs)=if a<b then -1 else if b<a then 1 else Lib.compareBytes oh bs:=by
 simp[Lib.compareBytes]
theorem qei:∀a:Bs,Lib.compareBytes a a=0
 | []=>rfl
 |a::oh=>by rw[qf9];simp[qei oh]
theorem qkl:∀a b:Bs,Lib.compareBytes a b=0->a=b
 | [],[],_=>rfl
 | [],_::_,h=>by simp[Lib.compareBytes]at h
 |_::_,[],h=>by simp[Lib.compareBytes]at h
 |a::oh,b::bs,h=>by
  rw[qf9]at h
  by_cases h1:a<b
  ·simp[h1]at h
  ·by_cases h2:b<a
   ·simp[h1,h2]at h
   ·simp only[h1,h2,if_false]at h
    have:a=b:=UInt8.le_antisymm (UInt8.not_lt.1 h2) (UInt8.not_lt.1 h1)
    rw[this,qkl oh bs h]
theorem qrv:∀a b:Bs,Lib.compareBytes a b = - Lib.compareBytes b a
 | [],[]=>rfl
 | [],_::_=>rfl
 |_::_,[]=>rfl
 |a::oh,b::bs=>by
  rw[qf9,qf9]
  by_cases h1:a<b
  ·have h2:¬b<a:=UInt8.not_lt.2 (UInt8.le_of_lt h1)
   simp[h1,h2]
  ·by_cases h2:b<a
   ·simp[h1,h2]
   ·simp only[h1,h2,if_false];exact qrv oh bs
theorem qim:∀a b c:Bs,Lib.compareBytes a b<0->Lib.compareBytes b c<0->Lib.compareBytes a c<0
 | [],[],_,h,_=>by simp[Lib.compareBytes]at h
 | [],b::bs,[],_,h=>by simp[Lib.compareBytes]at h
 | [],b::bs,c::cs,_,_=>by simp[Lib.compareBytes]
 |a::oh,[],_,h,_=>by simp[Lib.compareBytes]at h
 |a::oh,b::bs,[],_,h=>by simp[Lib.compareBytes]at h
 |a::oh,b::bs,c::cs,h1,h2=>by
  rw[qf9]at h1 h2 ⊢
  by_cases ab:a<b
  ·by_cases bc:b<c
   ·simp[UInt8.lt_trans ab bc]
   ·by_cases cb:c<b
    ·simp[bc,cb]at h2
    ·have:b=c:=UInt8.le_antisymm (UInt8.not_lt.1 cb) (UInt8.not_lt.1 bc)
     subst this;simp[ab]
  ·by_cases ba:b<a
   ·simp[ab,ba]at h1
   ·have:a=b:=UInt8.le_antisymm (UInt8.not_lt.1 ba) (UInt8.not_lt.1 ab)
    subst this;simp only[ab,if_false]at h1
    by_cases bc:a<c
    ·simp[bc]
    ·by_cases cb:c<a
     ·simp[bc,cb]at h2
     ·simp only[bc,cb,if_false]at h2 ⊢
      exact qim oh bs cs h1 h2
end
section
open Go.RowKit
variable {W W':World}{b i j:Nat}{v:Value}{T:Nat->Prop}
theorem qjz(b:Nat)(nm x:ByteArray)(w:World)(h:w.cell? (vA b 0)=some (.string nm)):
  Cl 154 #[vP b,.string x] w fun e w'=>e=.returned (vI (cmpB (bl nm) (bl x)))/\w'=w:=by
 go_enter func154,ntmps154
 go_wp2_with (go_at_call 155;refine(qmw _ _ _).mono ?_;rintro e w1 ⟨rfl,rfl⟩)
 go_ret
 exact⟨rfl,rfl⟩
def Found(ns:List Bs)(x:Bs)(at_:Nat)(Ab:Bool):Prop :=
 at_<=ns.length/\(∀(j:Nat) (n:Bs),j<at_->ns[j]?=some n->cmpB n x<0)/\(∀(j:Nat) (n:Bs),at_<=j->ns[j]?=some n->0<=cmpB n x)/\(Ab=true↔ns[at_]?=some x)
theorem qrj(x:Bs):Found [] x 0 false:=⟨Nat.le_refl _,by simp,by simp,by simp⟩
theorem qmy(x:ByteArray)(w:World):
  Cl 153 #[v0_,.string x,.func (.func 154) #[] #[]] w fun e w'=>e=.returned (.tuple #[vI 0,.bool false])/\w'=w:=by
 go_enter func153,ntmps153
 go_wp2
 refine wp_loop_rounds 1 ?_
 rw[rounds_succ]
 go_wp2
 go_ret2
 exact⟨rfl,rfl⟩
def qn0 (ns:List Bs)(x:Bs)(e:Ending):Prop:=∃(at_:Nat) (th:Bool),e=.returned (.tuple #[vI at_,.bool th])/\Found ns x at_ th
theorem qni(a cap:Nat)(kb:List Nat)(ns:List Bs)(x:ByteArray)(w:World)(hl:kb.length=ns.length)(an:ns.length<=1000)
  (lH:ns.Pairwise fun a b=>cmpB a b<0)
  (hc:∀(j b:Nat),kb[j]?=some b->w.cell? (vA a j)=some (vP b))
  (hn:∀(j b:Nat) (n:Bs),kb[j]?=some b->ns[j]?=some n->w.cell? (vA b 0)=some (.string (sb n))) :
  Cl 153 #[vS a ns.length cap,.string x,.func (.func 154) #[] #[]] w fun e w' =>
   qn0 ns (bl x) e/\w'=w:=by
 have cm:∀j,j<ns.length->∃b n,ns[j]?=some n/\w.cell? (vA a j)=some (vP b)/\w.cell? (vA b 0)=some (.string (sb n)):=fun j hj=>by
  have h1:kb[j]?=some (kb[j]'(by omega)):=xr1 _;have h2:ns[j]?=some (ns[j]'hj):=xr1 _
  exact⟨_,_,h2,hc _ _ h1,hn _ _ _ h1 h2⟩
 have mono:∀(i j:Nat) (n m:Bs),i<j->ns[i]?=some n->ns[j]?=some m->cmpB n m<0:=fun i j n m ot h1 h2=>by
  obtain⟨hi,rfl⟩:=xr0.1 h1;obtain⟨hj,rfl⟩:=xr0.1 h2
  exact List.pairwise_iff_getElem.1 lH i j hi hj ot
 clear hc hn;obtain⟨L,hL⟩:∃L,L=ns.length:=⟨_,rfl⟩;rw[<-hL];rw[<-hL]at cm an;have HL:Hid (L=ns.length):=hL;clear hL lH hl
 go_enter func153,ntmps153
 go_wp2
 go_loop [9,10] (fun i j=>∃p q:Nat,i=vI p/\j=vI q/\p<=q/\q<=L/\(∀(k:Nat) (n:Bs),k<p->ns[k]?=some n->cmpB n (bl x)<0)/\(∀(k:Nat) (n:Bs),q<=k->ns[k]?=some n->0<=cmpB n (bl x)))
  (fun i j=>(intOf j-intOf i).toNat)
 case atStart=>exact⟨0,L,rfl,rfl,Nat.zero_le _,Nat.le_refl _,fun k n h=>by omega,fun k n h h'=>by rw[List.getElem?_eq_none (by have:=HL.out;omega)]at h';cases h'⟩
 case round =>
  obtain⟨p,q,rfl,rfl,rR,JF,mG,yG⟩:=hrel;have Bu:Hid (∀(k:Nat) (n:Bs),k<p->ns[k]?=some n->cmpB n (bl x)<0):=mG;have Bp:Hid (∀(k:Nat) (n:Bs),q<=k->ns[k]?=some n->0<=cmpB n (bl x)):=yG;have EF:Hid (∀(i j:Nat) (n m:Bs),i<j->ns[i]?=some n->ns[j]?=some m->cmpB n m<0):=mono;clear mG yG mono
  by_cases ak:p<q
  ·have Dz:(p+q) / 2<L:=by omega
   obtain⟨b,n,ju,bZ,pP⟩:=cm ((p+q) / 2) Dz;have HB:Hid (ns[(p+q) / 2]?=some n):=ju;clear ju cm;have de:=qjz b (sb n) x w pP;rw[qbi]at de
   by_cases hcmp:cmpB n (bl x)<0
   ·go_wp2_with (go_at_call 154;refine de.mono ?_;rintro e w1 ⟨rfl,rfl⟩)
    go_round
    case rel =>
     refine⟨(p+q) / 2+1,q,by go_num,rfl,by omega,JF,fun k m hk hm=>?_,Bp.out⟩
     rcases Nat.lt_or_ge k ((p+q) / 2) with h|h
     ·exact qim _ _ _ (EF.out _ _ _ _ h hm HB.out) hcmp
     ·obtain rfl:k=(p+q) / 2:=by omega
      have:=HB.out;rw[hm]at this;cases this;exact hcmp
    case measure=>simp[intOf];omega
   ·go_wp2_with (go_at_call 154;refine de.mono ?_;rintro e w1 ⟨rfl,rfl⟩)
    go_round
    case rel =>
     refine⟨p,(p+q) / 2,rfl,by go_num,by omega,by omega,Bu.out,fun k m hk hm=>?_⟩
     rcases Nat.lt_or_ge ((p+q) / 2) k with h|h
     ·have h1:=EF.out _ _ _ _ h HB.out hm
      rcases Int.lt_or_le (cmpB m (bl x)) 0 with h2|h2
      ·exact absurd (qim _ _ _ h1 h2) (Int.not_lt.2 hcmp)
      ·exact h2
     ·obtain rfl:k=(p+q) / 2:=by omega
      have:=HB.out;rw[hm]at this;cases this;omega
    case measure=>simp[intOf];omega
  ·obtain rfl:p=q:=by omega
   by_cases hpL:p<L
   ·obtain⟨b,n,ju,bZ,pP⟩:=cm p hpL;have HB:Hid (ns[p]?=some n):=ju;clear ju cm;have de:=qjz b (sb n) x w pP;rw[qbi]at de
    go_wp2_with (go_at_call 154;refine de.mono ?_;rintro e w1 ⟨rfl,rfl⟩)
    go_ret2
    refine⟨⟨p,_,rfl,by have:=HL.out;omega,Bu.out,Bp.out,?_⟩,rfl⟩
    rw[HB.out];simp only[Option.some.injEq,beq_iff_eq]
    exact⟨fun h=>qkl _ _ h,fun h=>by rw[h];exact qei _⟩
   ·go_wp2
    go_ret2
    refine⟨⟨p,false,rfl,by have:=HL.out;omega,Bu.out,Bp.out,?_⟩,rfl⟩
    rw[List.getElem?_eq_none (by have:=HL.out;omega)]
    simp
theorem qsv(bq:Nat)(a cap:Nat)(kb:List Nat)(ns:List Bs)(x:ByteArray)(w:World)(hl:kb.length=ns.length)(an:ns.length<=1000)
  (lH:ns.Pairwise fun a b=>cmpB a b<0)
  (hs:w.cell? (vA bq 7)=some (vS a ns.length cap))
  (hc:∀(j b:Nat),kb[j]?=some b->w.cell? (vA a j)=some (vP b))
  (hn:∀(j b:Nat) (n:Bs),kb[j]?=some b->ns[j]?=some n->w.cell? (vA b 0)=some (.string (sb n))) :
  Cl 104 #[vP bq,.string x] w fun e w'=>qn0 ns (bl x) e/\w'=w:=by
 have h:=qni a cap kb ns x w hl an lH hc hn;clear hc hn lH
 go_enter func104,ntmps104
 go_wp2_with (go_at_call 153;refine h.mono ?_;rintro e w1 ⟨⟨p,th,rfl,hF⟩,rfl⟩)
 go_ret2
 exact⟨⟨p,th,rfl,hF⟩,rfl⟩
theorem qr6(bq:Nat)(x:ByteArray)(w:World)(hs:w.cell? (vA bq 7)=some v0_):
  Cl 104 #[vP bq,.string x] w fun e w'=>qn0 [] (bl x) e/\w'=w:=by
 go_enter func104,ntmps104
 go_wp2_with (go_at_call 153;refine(qmy x w).mono ?_;rintro e w1 ⟨rfl,rfl⟩)
 go_ret2
 exact⟨⟨0,false,rfl,qrj _⟩,rfl⟩
theorem qcc{α β : Type}{f : α -> β}{l:List α}(h:(l.map f).Nodup):l.Nodup:=by
 unfold List.Nodup at *;rw[List.pairwise_map]at h
 exact h.imp (fun hn e=>hn (by rw[e]))
theorem qdg{α : Type}[DecidableEq α]:∀ {l l':List α},l.Nodup->(∀x∈l,x∈l')->l.length<=l'.length
 | [],_,_,_=>Nat.zero_le _
 |a::l,l',h,hs=>by
  have ha:=hs a (by simp);obtain⟨h1,h2⟩:=List.nodup_cons.1 h;have h3:=qdg (l:=l) (l':=l'.erase a) h2 (fun x hx=>(List.mem_erase_of_ne (fun e=>h1 (by rw[<-e];exact hx))).2 (hs x (by simp[hx])));rw[List.length_erase_of_mem ha]at h3
  have:=List.length_pos_of_mem ha
  simp;omega
structure Node where
 blk:Nat
 key:List Bs
 leaf:Bool
 n0:Int
 n1:Int
 b0:Int
 b1:Int
 up:Option Nat
 sl:Value
 kids:List Nat
variable {nodes:List Node}{n:Node}
def nptr (b:Nat):Value:=vP b
def uptr (b:Option Nat):Value:=.pointer (b.map fun x=>(vA x 0))
def qbv (k:List Bs):Bs:=k.getLastD []
theorem qdc(k:List Bs)(n:Bs):qbv (k++[n])=n:=by simp[qbv]
def Node.cells(n:Node):Array Value:=#[.string (sb (qbv n.key)),.bool n.leaf,vI n.n0,vI n.n1,vI n.b0,vI n.b1,uptr n.up,n.sl]
structure qan (W:World) (n:Node):Prop where
 at_:W.heap[n.blk]?=some (.cells n.cells 136 (0,0))
 row:W.ownsRow 0 97 1 n.sl n.kids.length (n.kids.map nptr)
structure Tree (nodes:List Node):Prop where
 root:∃r,nodes[0]?=some r/\r.key=[]/\r.leaf=false/\r.b0=0/\r.b1=0
 inj:∀n∈nodes,∀m∈nodes,n.key=m.key->n=m
 nodup:(nodes.map (·.key)).Nodup
 ok:∀n∈nodes,qbn n.key=true/\n.key.length<=4
 num:∀n∈nodes,(0<=n.n0/\n.n0<=1000)/\(0<=n.n1/\n.n1<=1000)/\(0<=n.b0/\n.b0<=1000)/\(0<=n.b1/\n.b1<=1000)/\(n.leaf=false->n.n0=0/\n.n1=0)
 top:∀n∈nodes,n.key=[]->n.up=none
 par:∀n∈nodes,∀k x,n.key=k++[x]->∃p∈nodes,p.key=k/\p.leaf=false/\n.up=some p.blk
 kids:∀p∈nodes,∃ks:List Node,p.kids=ks.map (·.blk)/\(∀k,k∈ks↔(k∈nodes/\∃x,k.key=p.key++[x]))/\(ks.map fun k=>qbv k.key).Pairwise fun a b=>cmpB a b<0
 len:nodes.length<=20
theorem Tree.pre(T:Tree nodes):∀(r:List Bs) (k:List Bs) (n:Node),n∈nodes->n.key=k++r->∃m∈nodes,m.key=k:=by
 intro r
 induction h:r.length generalizing r with
 |zero =>
  intro k n hn hk
  have:r=[]:=List.eq_nil_of_length_eq_zero h
  subst this;exact⟨n,hn,by simpa using hk⟩
 |succ j ih =>
  intro k n hn hk;have hr:r≠[]:=fun e=>by subst e;simp at h
  have e:r=r.dropLast++[r.getLast hr]:=(List.dropLast_concat_getLast hr).symm;rw[e,<- List.append_assoc]at hk;obtain⟨p,hp,fU,_,_⟩:=T.par n hn _ _ hk
  exact ih r.dropLast (by simp[h]) k p hp fU
theorem qan.lt(h:qan W n):n.blk<W.heap.size:=(xrc.1 h.at_).1
theorem qan.cell(h:qan W n)(hv:n.cells[i]?=some v):W.cell? (vA n.blk i)=some v:=by
 unfold World.cell?
 have:=h.at_
 simp only[this];simpa using hv
theorem qan.frozen(h:qan W n)(i:Nat):W.frozen? (vA n.blk i)=false:=by
 unfold World.frozen?
 have:=h.at_
 simp only[this];simp
theorem qan.name(h:qan W n):W.cell? (vA n.blk 0)=some (.string (sb (qbv n.key))):=h.cell rfl
theorem qan.below(h:qan W n)(hb:Bw W W'):qan W' n:=by
 refine⟨(hb.block _ h.lt).trans h.at_,h.row.kept (row:=none) ⟨hb.os,hb.tape,hb.output,hb.size,fun k hk _=>hb.block k hk⟩ ?_⟩
 cases h2:n.sl.ownBlock
 ·exact .inl rfl
 ·exact .inr (by simp)
theorem qan.keep(h:qan W n)(hb:Keep T W W')(h1:¬T n.blk)(h2:∀g,n.sl.ownBlock=some g->¬T g):qan W' n:=by
 refine⟨(hb.block _ h.lt h1).trans h.at_,?_⟩
 obtain⟨hl,hr⟩:=h.row
 refine⟨hl,?_⟩
 rcases hr with hr|⟨g,cap,aD,hv,eO,hg,rest⟩
 ·exact .inl hr
 ·exact .inr ⟨g,cap,aD,hv,eO,(hb.block g (xrc.1 hg).1 (h2 g (by rw[hv];rfl))).trans hg,rest⟩
theorem qan.kid(h:qan W n)(hj:n.kids[j]?=some b):∃g cap,n.sl=vS g n.kids.length cap/\W.cell? (vA g j)=some (nptr b):=by
 obtain⟨hl,hr⟩:=h.row
 rcases hr with ⟨hv,h0⟩|⟨g,cap,aD,hv,eO,hg,hn,hm,hc,ht⟩
 ·rw[List.getElem?_eq_none (by omega)]at hj;cases hj
 ·refine⟨g,cap,hv,?_⟩
  unfold World.cell?;simp only[hg];have h1:(n.kids.map nptr)[j]?=some (nptr b):=by simp[hj]
  rw[<-ht]at h1;have ak:j<n.kids.length:=(xr0.1 hj).1;rw[List.getElem?_take_of_lt (by omega)]at h1
  simpa using h1
theorem qja(T:Tree nodes)(hN:∀n∈nodes,qan W n){p:Node}(hp:p∈nodes)(x:ByteArray):
  Cl 104 #[nptr p.blk,.string x] W fun e w'=>(∃ks:List Node,p.kids=ks.map (·.blk)/\(∀k,k∈ks↔(k∈nodes/\∃x,k.key=p.key++[x]))/\(ks.map fun k=>qbv k.key).Pairwise (fun a b=>cmpB a b<0)/\qn0 (ks.map fun k=>qbv k.key) (bl x) e)/\w'=W:=by
 obtain⟨ks,hk,hm,hs⟩:=T.kids p hp;have hP:=hN p hp;have eK:W.cell? (vA p.blk 7)=some p.sl:=hP.cell rfl;have an:p.kids.length=ks.length:=by rw[hk];simp
 obtain⟨hl,hr⟩:=hP.row
 rcases hr with ⟨hv,h0⟩|⟨g,cap,aD,hv,eO,hg,hn,jf,hc,ht⟩
 ·have:ks=[]:=List.eq_nil_of_length_eq_zero (by omega)
  subst this;rw[hv]at eK
  refine(qr6 p.blk x W eK).mono ?_
  rintro e w' ⟨h,rfl⟩
  exact⟨⟨[],hk,hm,hs,h⟩,rfl⟩
 ·rw[hv,an]at eK;have uN:ks.length<=1000:=by
   have aF:(ks.map (·.key)).Nodup:=by
    have:(ks.map fun k=>qbv k.key).Nodup:=hs.imp (fun {a b} h e=>by subst e;rw[show cmpB a a=0 from qei a]at h;omega)
    rw[show(ks.map fun k=>qbv k.key)=(ks.map (·.key)).map qbv by simp]at this
    exact qcc this
   have h1:(ks.map (·.key)) ⊆ nodes.map (·.key):=by
    intro k dz;obtain⟨n,ez,rfl⟩:=xrq.1 dz
    exact xrq.2 ⟨n,((hm n).1 ez).1,rfl⟩
   have h2:=qdg aF h1;have h3:=T.len
   simp at h2;omega
  have gx:(ks.map fun k=>qbv k.key).length=ks.length:=by simp
  rw[<-gx]at eK
  refine(qsv p.blk g cap p.kids (ks.map fun k=>qbv k.key) x W (by simp[an]) (by simpa using uN) hs eK ?_ ?_).mono ?_
  ·intro j b hj;obtain⟨g',cap',dW,fR⟩:=hP.kid hj;rw[hv]at dW;cases dW;exact fR
  ·intro j b n hj ez;rw[hk]at hj;simp only[xrs,Option.map_eq_some_iff]at hj ez;obtain⟨k,jr,rfl⟩:=hj;obtain⟨k',pD,rfl⟩:=ez;rw[jr]at pD;cases pD
   exact(hN k ((hm k).1 (xr2 jr)).1).name
  ·rintro e w' ⟨h,rfl⟩
   exact⟨⟨ks,hk,hm,hs,h⟩,rfl⟩
end
section
open Go.RowKit Go.Shelf
variable {ks nodes:List Node}{nG:List Bs}{n r:Node}
attribute [local go_sem] Oper.semAt_some
def qs9 (nodes:List Node)(ks:List Bs)(e:Ending):Prop:=(∃n∈nodes,n.key=ks/\e=.returned (nptr n.blk))\/((∀n∈nodes,n.key≠ks)/\e=.returned (.pointer none))
theorem Tree.qra(T:Tree nodes){p:Node}(hp:p∈nodes)(hm:∀k,k∈ks↔(k∈nodes/\∃x,k.key=p.key++[x])){x:Bs}(hx:x ∉ ks.map fun k=>qbv k.key)
  (hf:p.key++[x] <+: nG):∀n∈nodes,n.key≠nG:=by
 intro n hn e;obtain⟨r,hr⟩:=hf;rw[<-hr]at e;obtain⟨m,J7,eZ⟩:=T.pre r (p.key++[x]) n hn e
 exact hx (xrq.2 ⟨m,(hm m).2 ⟨J7,x,eZ⟩,by rw[eZ,qdc]⟩)
def qv0 (nodes:List Node)(n:Node)(x:Bs)(W:World)(e:Ending):Prop :=
 (∃(at_:Nat) (k:Node) (g cap:Nat),e=.returned (.tuple #[vI at_,.bool true])/\k∈nodes/\k.key=n.key++[x]/\at_<n.kids.length/\W.cell? (vA n.blk 7)=some (vS g n.kids.length cap)/\W.cell? (vA g at_)=some (vP k.blk)) \/
 (∃(at_:Nat),e=.returned (.tuple #[vI at_,.bool false])/\∀nG,n.key++[x] <+: nG->∀m∈nodes,m.key≠nG)
theorem qvs(T:Tree nodes)(hn:n∈nodes)(x:Bs)(W:World)(hN:∀n∈nodes,qan W n):
  Cl 104 #[vP n.blk,.string (sb x)] W fun e w'=>qv0 nodes n x W e/\w'=W:=by
 refine(qja T hN hn (sb x)).mono ?_
 rintro e w' ⟨⟨ks,hk,hm,hs,at_,th,rfl,dV,mG,yG,DS⟩,rfl⟩
 refine⟨?_,rfl⟩
 rw[qbi]at DS mG yG
 cases th with
 |true =>
  left
  have h1:=DS.1 rfl;simp only[xrs,Option.map_eq_some_iff]at h1;obtain⟨k,c_,bM⟩:=h1;obtain⟨je,y,hy⟩:=(hm k).1 (xr2 c_);rw[hy,qdc]at bM;subst bM;have hj:n.kids[at_]?=some k.blk:=by rw[hk];simp[c_]
  obtain⟨g,cap,hv,hc⟩:=(hN n hn).kid hj
  exact⟨at_,k,g,cap,rfl,je,hy,(xr0.1 hj).1,by rw[<-hv];exact(hN n hn).cell rfl,hc⟩
 |false =>
  right
  refine⟨at_,rfl,fun nG hf=>T.qra hn hm (fun hx=>?_) hf⟩
  obtain⟨j,hj⟩:=xre hx;have h0:cmpB x x=0:=qei x
  rcases Nat.lt_or_ge j at_ with h|h
  ·have:=mG j x h hj;omega
  ·rcases Nat.lt_or_ge at_ j with h2|h2
   ·-- the one at the place is less than x
    have ak:at_<(ks.map fun k=>qbv k.key).length:=by have:=(xr0.1 hj).1;omega
    have h3:=List.pairwise_iff_getElem.1 hs at_ j ak (xr0.1 hj).1 h2;rw[(xr0.1 hj).2]at h3;have h4:=yG at_ _ (Nat.le_refl _) (xr1 ak)
    omega
   ·obtain rfl:j=at_:=by omega
    have:=DS.2 hj;cases this
theorem quc(T:Tree nodes)(hr:r∈nodes)(bK:r.key=[])(s:ByteArray)(hs:s.size<=2000000)(w:World)(hN:∀n∈nodes,qan w n):
  Cl 63 #[nptr r.blk,.string s] w fun e w'=>qs9 nodes (qaa (bl s)) e/\Bw w w':=by
 have b_:∀k:Nat,Fence.wide.depth.isSome=true->1<=k:=fun k h=>by simp[Fence.wide]at h
 refine(xrv (n:=3)).1 ?_
 refine callsIn_of_wp_marks func63 rfl trivial ?_ rfl
 unfold nptr;simp only[ntmps63,List.size_toArray,List.length_cons,List.length_nil,Nat.reduceAdd,Nat.reduceSub,Array.replicate_succ,Array.replicate_zero,List.push_toArray,List.append_toArray,List.nil_append,List.cons_append]
 gi_wp2_with ((first|refine⟨trivial,b_ _,?_⟩|refine⟨trivial,?_⟩);gi_at_call 102;refine(xrv.2 (qly s hs _)).mono ?_;rintro e W ⟨gf,lb,rfl,eg,hb,aI⟩)
 have gP:w.heap.size+2<=W.heap.size:=by have:=hb.size;simp at this;omega
 obtain⟨S,hS,hq⟩:=aI (fun b=>(b=w.heap.size\/b=w.heap.size+1)\/W.heap.size<=b) (fun b h1 h2 h=>by simp at h1;omega);have uh:Box W w.heap.size 97 (.pointer none):=((Box.new w 97 _).alloc _).below hb (by simp<;>omega);have ui:Box W (w.heap.size+1) 97 (vP r.blk):=by
  have:=Box.new (w.alloc (.cells #[.pointer none] 97)) 97 (vP r.blk)
  rw[xrt]at this
  exact this.below hb (by simp)
 have cn:Bw w W:=qac (((Below.refl _ _).alloc (Nat.le_refl _) _).alloc (by simp) _) hb;clear aI hb;have jg:∀b,b<=w.heap.size+1->¬(S b\/W.heap.size<=b):=fun b aZ h=>by
  rcases h with h|h
  ·have h1:=(hS _ h).1;simp at h1;omega
  ·omega
 refine qgy (T:=fun b=>b=w.heap.size\/b=w.heap.size+1) rfl eg hq (Below.refl _ _) rfl (fun b h=>(hS b h).2) (fun b h=>by omega)
  (fun pre A=>(∃n∈nodes,n.key=pre/\Box A (w.heap.size+1) 97 (vP n.blk))/\Box A w.heap.size 97 (.pointer none)/\Bw w A)
  (fun c pre A=>c=.ret/\(∀n∈nodes,n.key≠qaa (bl s))/\Box A w.heap.size 97 (.pointer none)/\Bw w A)
  (fun pre A B hs hk=>⟨by obtain⟨n,h1,h2,h3⟩:=hs.1;exact⟨n,h1,h2,h3.keep hk (jg _ (Nat.le_refl _))⟩,hs.2.1.keep hk (jg _ (by omega)),hs.2.2.trans (hk.toBelow hs.2.2.size (fun b aZ=>jg b (by omega)))⟩)
  (fun c pre A B hs hk=>⟨hs.1,hs.2.1,hs.2.2.1.keep hk (jg _ (by omega)),hs.2.2.2.trans (hk.toBelow hs.2.2.2.size (fun b aZ=>jg b (by omega)))⟩)
  ⟨⟨r,hr,bK,ui⟩,uh,cn⟩
  (fun x=>{tmps:=#[vP r.blk,.string s,undef,undef,vP w.heap.size,vP (w.heap.size+1),.string (sb x),undef,undef,
   vP r.blk,.string s,.func (.func gf) #[] lb,.string (sb x),undef,undef,undef,undef,undef,undef,undef,undef,undef,undef,undef,undef,undef,undef,undef,undef],defers:=[]}) ?assign ?body ?done ?stop
 case assign =>
  intro l x W K hK
  gi_wp2
  exact hK
 case body =>
  rintro l pre x W2 ⟨⟨n,hn,dh,ei⟩,cL,ae⟩ dk aC
  have Cu:∀n∈nodes,qan W2 n:=fun n hn=>(hN n hn).below ae
  have uP:=qvs T hn x W2 Cu;have sK:=cL.cell;have CY:=cL.frozen;have AH:=ei.cell;have CZ:=ei.frozen
  gi_wp2_with ((first|refine⟨trivial,b_ _,?_⟩|refine⟨trivial,?_⟩);gi_at_call 104;refine(CallsIn.inRound l (xrv.2 uP)).mono ?_;rintro e w' ⟨(⟨at_,k,g,cap,rfl,c_,bM,dZ,lu,fS⟩|⟨at_,rfl,a7⟩),rfl⟩)
  ·refine⟨(Keep.refl (fun b=>b=w.heap.size\/b=w.heap.size+1) _).setCell (p:=vA (w.heap.size+1) 0) (.inr rfl) _,⟨k,c_,by rw[bM,dh],ei.set _⟩,cL.other _ _ (by simp),ae.setCell (by simp) _⟩
  ·refine⟨(Keep.refl (fun b=>b=w.heap.size\/b=w.heap.size+1) _).setCell (p:=vA w.heap.size 0) (.inl rfl) _,rfl,a7 _ (by rw[dh];exact aC),cL.set _,ae.setCell (Nat.le_refl _) _⟩
 case done =>
  rintro A ⟨⟨n,hn,dh,ei⟩,cL,ae⟩ hD
  have sK:=cL.cell;have CY:=cL.frozen;have AH:=ei.cell;have CZ:=ei.frozen
  gi_wp2
  have jl:(A.setCell (vA w.heap.size 0) (vP n.blk)).heap[W.heap.size]?=some (.deferred (some [])):=(Below.heap_setCell _ _ _ _ (by simp;omega)).trans hD;have af:=((cL.set (vP n.blk)).put W.heap.size (.deferred none) (by omega)).cell
  refine⟨by simp,.inl ⟨_,_,rfl,run_takeDeferred jl,?_⟩⟩
  refine⟨vP n.blk,by simp[results,results127,go_sem,af],.inl ⟨n,hn,dh,rfl⟩,qa8 (ae.setCell (Nat.le_refl _) _) _ _ (by omega)⟩
 case stop =>
  rintro c pre A aC ⟨rfl,hv,cL,ae⟩ hD
  gi_wp2
  have af:=(cL.put W.heap.size (.deferred none) (by omega)).cell
  refine⟨by simp,.inl ⟨_,_,rfl,run_takeDeferred hD,?_⟩⟩
  refine⟨.pointer none,by simp[results,results127,go_sem,af],.inr ⟨hv,rfl⟩,qa8 ae _ _ (by omega)⟩
end
section
open Go.RowKit
theorem eq35(d:Nat)(a b c e:Int)(w:World):(Op.equalIn (d+2) 35 (.agg #[vI a,vI b]) (.agg #[vI c,vI e])).run prog w=.ok (a == c&&b == e) w:=by
 have u3:=underlying3;have vX:=underlying35;have z3:=sizeOf3;have a3:=isAgg3;unfold Op.equalIn;simp only[Sem.run_bind,run_underlying vX,Result.andThen_ok]
 simp[go_sem,z3,a3,List.range',Std.Legacy.Range.forIn_eq_forIn_range',part]
 by_cases h:a=c<;>by_cases k:b=e<;>simp[h,k]
theorem qw7(a b c e:Int)(w:World):(binOp .eql 35 (.agg #[vI a,vI b]) (.agg #[vI c,vI e])).run prog w=.ok (.bool (a == c&&b == e)) w:=by
 rw[run_eql_struct,show(10000:Nat)=9998+2 from rfl,eq35];rfl
theorem qwk(a b c e:Int)(w:World):(binOp .neq 35 (.agg #[vI a,vI b]) (.agg #[vI c,vI e])).run prog w=.ok (.bool (!(a == c&&b == e))) w:=by
 rw[run_neq_struct,show(10000:Nat)=9998+2 from rfl,eq35];rfl
theorem qvb(op:BinOp)(x y:Operand)(xs ys:Array Value)(w:World):(eqGuard op 35 x y (.agg xs) (.agg ys)).run prog w=.ok () w :=
 run_eqGuard_agg w op 35 x y xs ys (by kernel_rfl)
theorem qrp(a b:Int)(w:World):
  Cl 195 #[.agg #[vI a,vI b]] w fun e w'=>e=.returned (.agg #[vI (max 0 (min a 1000)),vI (max 0 (min b 1000))])/\Bw w w':=by
 have i0:∀w,(Instr.index 35 (.agg #[vI a,vI b]) (vI 0)).run prog w=.ok (vI a) w:=fun _=>by kernel_rfl
 have i1:∀w,(Instr.index 35 (.agg #[vI a,vI b]) (vI 1)).run prog w=.ok (vI b) w:=fun _=>by kernel_rfl
 go_enter func195,ntmps195
 go_wp2
 go_rounds 3
 all_goals go_wp2
 all_goals refine xrn (v:=.agg #[vI (max 0 (min a 1000)),vI (max 0 (min b 1000))]) (by simp[results,results60,go_sem];omega) rfl ⟨rfl,by(repeat (first|exact Below.refl _ _|refine qac ?_ (by assumption)|refine Below.setCell ?_ (by first|omega|(simp<;>omega)) _|refine Below.alloc ?_ (by first|omega|(simp<;>omega)) _|refine Below.drew ?_|refine xrm ?_ _))⟩
theorem qin(a b:Int)(w:World):
  Cl 147 #[.agg #[vI a,vI b]] w fun e w'=>e=.returned (.bool (qao a b))/\Bw w w':=by
 have hq:=qw7;have hg:=qvb
 go_enter func147,ntmps147
 go_wp2
 go_region_with (go_at_call 195;refine(qrp _ _ _).mono ?_;rintro e w1 ⟨rfl,aa⟩;have c0:=(aa.cell (p:=vA w.heap.size 0) (by simp));have c1:=(aa.cell (p:=vA w.heap.size 1) (by simp)))
 all_goals go_wp2
 all_goals go_ret
 all_goals exact⟨qa9 (by rw[Bool.eq_iff_iff];simp[qao];omega),(by(repeat (first|exact Below.refl _ _|refine qac ?_ (by assumption)|refine Below.setCell ?_ (by first|omega|(simp<;>omega)) _|refine Below.alloc ?_ (by first|omega|(simp<;>omega)) _|refine Below.drew ?_|refine xrm ?_ _)))⟩
theorem qee(a b:Int)(w:World):
  Cl 54 #[.agg #[vI a,vI b]] w fun e w'=>e=.returned (vP (w.heap.size+1)) /\
   w'=((w.alloc (.cells #[vI a,vI b] 35)).alloc (.cells #[.string ⟨#[]⟩,.bool false,vI 0,vI 0,vI a,vI b,.pointer none,v0_] 136)):=by
 go_enter func54,ntmps54
 go_wp2
 go_ret
 exact⟨rfl,rfl⟩
theorem qnq(c d a b:Int)(w:World):
  Cl 53 #[.agg #[vI c,vI d],.agg #[vI a,vI b]] w fun e w'=>e=.returned (vP (w.heap.size+2)) /\
   w'=(((w.alloc (.cells #[vI c,vI d] 35)).alloc (.cells #[vI a,vI b] 35)).alloc (.cells #[.string ⟨#[]⟩,.bool true,vI c,vI d,vI a,vI b,.pointer none,v0_] 136)):=by
 go_enter func53,ntmps53
 go_wp2
 go_ret
 exact⟨rfl,rfl⟩
theorem qko(b:Nat)(f:Bool)(w:World)(h:w.cell? (vA b 1)=some (.bool f)):
  Cl 105 #[vP b] w fun e w'=>e=.returned (.bool f)/\w'=w:=by
 go_enter func105,ntmps105
 go_wp2
 go_ret
 exact⟨rfl,rfl⟩
theorem qpw(b:Nat)(x y:Int)(w:World)(h:w.cell? (vA b 4)=some (vI x))(h':w.cell? (vA b 5)=some (vI y)):
  Cl 86 #[vP b] w fun e w'=>e=.returned (.agg #[vI x,vI y])/\Bw w w':=by
 have hb:=xrb w _ h
 go_enter func86,ntmps86
 go_wp2
 exact xrn (v:=.agg #[vI x,vI y]) (by simp[results,results129,go_sem]) rfl ⟨rfl,by(repeat (first|exact Below.refl _ _|refine qac ?_ (by assumption)|refine Below.setCell ?_ (by first|omega|(simp<;>omega)) _|refine Below.alloc ?_ (by first|omega|(simp<;>omega)) _|refine Below.drew ?_|refine xrm ?_ _))⟩
theorem qid(a b c d:Int)(w:World)(h1:0<=a)(h2:a<=100000)(h3:0<=b)(h4:b<=100000)(h5:0<=c)(h6:c<=100000)(h7:0<=d)(h8:d<=100000):
  Cl 139 #[.agg #[vI a,vI b],.agg #[vI c,vI d]] w fun e w'=>e=.returned (.agg #[vI (a+c),vI (b+d)])/\Bw w w':=by
 go_enter func139,ntmps139
 go_wp2
 refine wp_loop_rounds 3 ?_
 rw[rounds_succ];go_wp2
 go_region
 go_wp2
 rw[rounds_succ];go_wp2
 go_region
 go_wp2
 rw[rounds_succ];go_wp2
 exact xrn (v:=.agg #[vI (a+c),vI (b+d)]) (by simp[results,results78,go_sem]) rfl ⟨rfl,by(repeat (first|exact Below.refl _ _|refine qac ?_ (by assumption)|refine Below.setCell ?_ (by first|omega|(simp<;>omega)) _|refine Below.alloc ?_ (by first|omega|(simp<;>omega)) _|refine Below.drew ?_|refine xrm ?_ _))⟩
end
section
open Go.RowKit Go.Shelf
variable {nodes:List Node}{Tm:Nat->Prop}{W W':World}{n:Node}
attribute [local go_sem] Oper.semAt_some
def dfs (ch:Node->List Node):Nat->Node->List Node
 |0,n=>[n]
 |f+1,n=>n::(ch n).flatMap (dfs ch f)
structure Kids (nodes:List Node) (ch:Node->List Node):Prop where
 blks:∀p∈nodes,p.kids=(ch p).map (·.blk)
 mem:∀p∈nodes,∀k,k∈ch p↔(k∈nodes/\∃x,k.key=p.key++[x])
 sort:∀p∈nodes,((ch p).map fun k=>qbv k.key).Pairwise fun a b=>cmpB a b<0
theorem Tree.ch(T:Tree nodes):∃ch,Kids nodes ch:=by
 have:∀p:Node,∃ks:List Node,p∈nodes->p.kids=ks.map (·.blk)/\(∀k,k∈ks↔(k∈nodes/\∃x,k.key=p.key++[x]))/\(ks.map fun k=>qbv k.key).Pairwise fun a b=>cmpB a b<0:=fun p=>by
  by_cases hp:p∈nodes
  ·obtain⟨ks,h⟩:=T.kids p hp;exact⟨ks,fun _=>h⟩
  ·exact⟨[],fun h=>absurd h hp⟩
 refine⟨fun p=>(this p).choose,⟨fun p hp=>((this p).choose_spec hp).1,fun p hp=>((this p).choose_spec hp).2.1,fun p hp=>((this p).choose_spec hp).2.2⟩⟩
theorem qel(hT:∀n∈nodes,¬Tm n.blk/\∀g,n.sl.ownBlock=some g->¬Tm g)(hN:∀n∈nodes,qan W n)(hk:Keep Tm W W'):∀n∈nodes,qan W' n :=
 fun n hn=>(hN n hn).keep hk (hT n hn).1 (hT n hn).2
theorem qmk{ch:Node->List Node}(K:Kids nodes ch)(l:Nat)(Tm:Nat->Prop)(XS:List Node)(J Jx:List Node->World->Prop)
  (hT:∀n∈nodes,¬Tm n.blk/\∀g,n.sl.ownBlock=some g->¬Tm g)
  (hY:∀m pre x W1,J pre W1->pre++[x] <+: XS->YieldAt Fence.wide m prog l #[nptr x.blk] W1 fun e W' =>
   (e=.returned (.bool true)/\J (pre++[x]) W'/\Keep Tm W1 W')\/(e=.returned (.bool false)/\Jx (pre++[x]) W'))
  (n:Node) (hn:n∈nodes) (an:(ch n).length<=1000) (sub:Node->List Node)
  (ih:∀k∈ch n,∀(m:Nat) (pre:List Node) (W:World),(∀n∈nodes,qan W n)->J pre W->pre++sub k <+: XS ->
   CallsIn Fence.wide m prog 150 #[nptr k.blk,.func (.yield l) #[] #[]] W fun e W' =>
    (e=.returned (.bool true)/\J (pre++sub k) W'/\Keep Tm W W')\/(e=.returned (.bool false)/\∃q,q <+: XS/\Jx q W'))
  (m:Nat) (pre:List Node) (W:World) (hN:∀n∈nodes,qan W n) (hJ:J pre W) (hX:pre++n::(ch n).flatMap sub <+: XS) :
   CallsIn Fence.wide m prog 150 #[nptr n.blk,.func (.yield l) #[] #[]] W fun e W' =>
    (e=.returned (.bool true)/\J (pre++n::(ch n).flatMap sub) W'/\Keep Tm W W')\/(e=.returned (.bool false)/\∃q,q <+: XS/\Jx q W'):=by
 have b_:∀k:Nat,Fence.wide.depth.isSome=true->1<=k:=fun k h=>by simp[Fence.wide]at h
 have om:pre++[n] <+: XS:=List.IsPrefix.trans ⟨(ch n).flatMap sub,by simp⟩ hX;obtain⟨fn,tmps,assign,body,hy,hR⟩:=hY (m-1) pre n W hJ om;have j9:n.kids.length=(ch n).length:=by rw[K.blks n hn];simp
 obtain⟨ao,cap,eK⟩:∃ao cap,n.sl=.slice ao (ch n).length cap:=by
  obtain⟨_,hr⟩:=(hN n hn).row
  rcases hr with ⟨hv,h0⟩|⟨g,cap,aD,hv,_⟩
  ·exact⟨none,0,by rw[hv,<- j9,h0]⟩
  ·exact⟨_,_,by rw[hv,j9]⟩
 have eh:=hR.mono (R':=fun e W'=>(e=.returned (.bool true)/\J (pre++[n]) W'/\Keep Tm W W'/\W'.cell? (vA n.blk 7)=some (.slice ao (ch n).length cap))\/(e=.returned (.bool false)/\Jx (pre++[n]) W'))
  (fun e W' h=>h.elim (fun ⟨he,hj,hk⟩=>.inl ⟨he,hj,hk,by rw[<-eK];exact((hN n hn).keep hk (hT n hn).1 (hT n hn).2).cell rfl⟩) .inr)
 clear hR;obtain⟨L,hL⟩:∃L,L=(ch n).length:=⟨_,rfl⟩;rw[<-hL]at eh an;have HL:Hid (L=(ch n).length):=hL;have xh:Hid (n.sl=.slice ao (ch n).length cap):=eK;clear hL eK j9
 refine callsIn_of_wp func150 rfl trivial ?_ rfl
 unfold nptr at hy ⊢;simp only[ntmps150,List.size_toArray,List.length_cons,List.length_nil,Nat.reduceAdd,Nat.reduceSub,Array.replicate_succ,Array.replicate_zero,List.push_toArray,List.append_toArray,List.nil_append,List.cons_append]
 gi_wp2_with (refine⟨b_ _,?_⟩;refine eh.mono ?_;clear eh;rintro e W2 (⟨rfl,nI,bM,jc⟩|⟨rfl,ke⟩))
 ·gi_loopw [16] (fun i wr=>∃j:Nat,i=vI j/\j<=L/\J (pre++n::((ch n).take j).flatMap sub) wr/\Keep Tm W wr) (fun i _=>L-(intOf i).toNat)
  case atStart=>exact⟨0,rfl,Nat.zero_le _,by simpa using nI,bM⟩
  case round =>
   obtain⟨j,rfl,hj,nc,jr⟩:=hrel;have tS:=qel hT hN jr
   by_cases ak:j<L
   ·have iL:j<(ch n).length:=by rw[<-HL.out];exact ak
    obtain⟨k,hk⟩:∃k,(ch n)[j]?=some k:=⟨_,xr1 iL⟩;have Ds:k∈ch n:=xr2 hk;obtain⟨g,cap',hv,bZ⟩:=(tS n hn).kid (j:=j) (b:=k.blk) (by rw[K.blks n hn];simp[hk]);have eT:ao=some (vA g 0):=by
     have:=xh.out;rw[hv]at this;injection this with h1 _ _;exact h1.symm
    have ku:Hid ((ch n).take (j+1)=(ch n).take j++[k]):=by
     rw[xrf iL];rw[xr1 iL]at hk;cases hk;rfl
    have jA:(pre++n::((ch n).take j).flatMap sub)++sub k <+: XS:=by
     refine List.IsPrefix.trans ⟨((ch n).drop (j+1)).flatMap sub,?_⟩ hX
     conv=>rhs;rw[<-List.take_append_drop (j+1) (ch n),ku.out]
     simp
    have cm:=ih k Ds (m-1) _ wr tS nc jA;clear ih hY hk nc;unfold nptr at cm bZ;subst eT
    gi_wp2_with ((first|refine⟨trivial,b_ _,?_⟩|refine⟨trivial,?_⟩);gi_at_call 150;refine cm.mono ?_;clear cm;rintro e W3 (⟨rfl,Cq,dZ⟩|⟨rfl,q,hq,Eg⟩))
    ·go_roundw
     case rel =>
      refine⟨j+1,by go_num,by omega,?_,jr.trans dZ⟩
      rw[ku.out];simpa using Cq
     case measure=>simp[intOf];omega
    ·go_ret
     exact .inr ⟨rfl,q,hq,Eg⟩
   ·gi_wp2
    go_ret
    have iL:(ch n).take j=ch n:=xrd (by rw[<-HL.out];omega);rw[iL]at nc
    exact .inl ⟨rfl,nc,jr⟩
 ·go_ret
  exact .inr ⟨rfl,_,om,ke⟩
theorem qt8(T:Tree nodes){ch:Node->List Node}(K:Kids nodes ch)(hn:n∈nodes):(ch n).length<=20:=by
 have aF:((ch n).map (·.key)).Nodup:=by
  have:((ch n).map fun k=>qbv k.key).Nodup:=(K.sort n hn).imp (fun {a b} h e=>by subst e;rw[show cmpB a a=0 from qei a]at h;omega)
  rw[show((ch n).map fun k=>qbv k.key)=((ch n).map (·.key)).map qbv by simp]at this
  exact qcc this
 have h1:∀x∈(ch n).map (·.key),x∈nodes.map (·.key):=by
  intro k dz;obtain⟨c,hc,rfl⟩:=xrq.1 dz
  exact xrq.2 ⟨c,((K.mem n hn c).1 hc).1,rfl⟩
 have h2:=qdg aF h1;have h3:=T.len
 simp at h2;omega
theorem qvp(T:Tree nodes){ch:Node->List Node}(K:Kids nodes ch)(l:Nat)(Tm:Nat->Prop)(XS:List Node)(J Jx:List Node->World->Prop)
  (hT:∀n∈nodes,¬Tm n.blk/\∀g,n.sl.ownBlock=some g->¬Tm g)
  (hY:∀m pre x W1,J pre W1->pre++[x] <+: XS->YieldAt Fence.wide m prog l #[nptr x.blk] W1 fun e W' =>
   (e=.returned (.bool true)/\J (pre++[x]) W'/\Keep Tm W1 W')\/(e=.returned (.bool false)/\Jx (pre++[x]) W')) :
  ∀(f:Nat) (n:Node),n∈nodes->4<=n.key.length+f->∀(m:Nat) (pre:List Node) (W:World),(∀n∈nodes,qan W n)->J pre W->pre++dfs ch f n <+: XS ->
   CallsIn Fence.wide m prog 150 #[nptr n.blk,.func (.yield l) #[] #[]] W fun e W' =>
    (e=.returned (.bool true)/\J (pre++dfs ch f n) W'/\Keep Tm W W')\/(e=.returned (.bool false)/\∃q,q <+: XS/\Jx q W'):=by
 intro f
 induction f with
 |zero =>
  intro n hn hk m pre W hN hJ hX;have uo:ch n=[]:=by
   rcases List.eq_nil_or_concat (ch n) with h|⟨ks,k,h⟩
   ·exact h
   ·exfalso
    obtain⟨je,x,hx⟩:=(K.mem n hn k).1 (by rw[h];simp)
    have:=(T.ok k je).2
    rw[hx]at this;simp at this;omega
  have h:=qmk K l Tm XS J Jx hT hY n hn (by rw[uo];simp) (fun _=>[]) (by rw[uo];simp) m pre W hN hJ (by rw[uo];exact hX);rw[uo]at h;exact h
 |succ f ih =>
  intro n hn hk m pre W hN hJ hX
  exact qmk K l Tm XS J Jx hT hY n hn (by have:=qt8 T K hn;omega) (dfs ch f) (fun k dz=>ih k ((K.mem n hn k).1 dz).1 (by obtain⟨x,hx⟩:=((K.mem n hn k).1 dz).2;rw[hx];simp;omega)) m pre W hN hJ hX
theorem qm5(T:Tree nodes){ch:Node->List Node}(K:Kids nodes ch)(hn:n∈nodes)(w:World)(hN:∀n∈nodes,qan w n):
  Cl 101 #[nptr n.blk] w fun e w'=>e=.returned (.func (.func 149) #[] #[vP w.heap.size])/\w'=w.alloc (.cells #[nptr n.blk] 97) /\
   ∀Tm:Nat->Prop,(∀n∈nodes,¬Tm n.blk/\∀g,n.sl.ownBlock=some g->¬Tm g)->SeqK prog 149 #[vP w.heap.size] (fun x:Node=>nptr x.blk) (fun _=>False) Tm (dfs ch 4 n) w':=by
 have nT:∀(fn:Fn) (first cap:Array Value) (w:World),(Instr.makeFunc fn first cap).run prog w=.ok (.func fn first cap) w:=fun _ _ _ _=>rfl
 have key:∀Tm:Nat->Prop,(∀n∈nodes,¬Tm n.blk/\∀g,n.sl.ownBlock=some g->¬Tm g)->SeqK prog 149 #[vP w.heap.size] (fun x:Node=>nptr x.blk) (fun _=>False) Tm (dfs ch 4 n) (w.alloc (.cells #[nptr n.blk] 97)):=by
  intro Tm hT m l J Jx W hW hl hJ nJ hY h0;have b_:∀k:Nat,Fence.wide.depth.isSome=true->1<=k:=fun k h=>by simp[Fence.wide]at h
  have oj:∀n∈nodes,qan W n:=fun n hn=>(hN n hn).below (qac ((Below.refl _ _).alloc (Nat.le_refl _) _) hW)
  have hb:W.cell? (vA w.heap.size 0)=some (nptr n.blk):=((Box.new w 97 (nptr n.blk)).below hW (by simp)).cell;have he:=qvp T K l Tm (dfs ch 4 n) J Jx hT hY 4 n hn (by omega) (m-1) [] W oj h0 (List.prefix_refl _)
  refine callsIn_of_wp func149 rfl trivial ?_ rfl
  unfold nptr at he hb;simp only[ntmps149,List.size_toArray,List.length_cons,List.length_nil,Nat.reduceAdd,Nat.reduceSub,Array.replicate_succ,Array.replicate_zero,List.push_toArray,List.append_toArray,List.nil_append,List.cons_append]
  gi_wp2_with ((first|refine⟨trivial,b_ _,?_⟩|refine⟨trivial,?_⟩);gi_at_call 150;refine he.mono ?_;clear he;rintro e W3 (⟨rfl,Cq,dZ⟩|⟨rfl,q,hq,Eg⟩))
  ·go_end0
   exact⟨⟨_,rfl⟩,.inl Cq⟩
  ·go_end0
   exact⟨⟨_,rfl⟩,.inr ⟨q,hq,Eg⟩⟩
 unfold nptr at key ⊢
 go_enter func101,ntmps101
 go_wp2
 go_ret
 exact⟨rfl,rfl,key⟩
end
end Go.Proofs.YtphclnolomgjoaaGreatDoor
