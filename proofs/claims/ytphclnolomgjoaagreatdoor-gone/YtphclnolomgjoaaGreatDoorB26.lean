import Derived.Test.YtphclnolomgjoaaGreatDoorB18
set_option linter.unusedVariables false
set_option linter.unusedSimpArgs false
set_option maxRecDepth 100000
set_option maxHeartbeats 4000000
namespace Go.Proofs.YtphclnolomgjoaaGreatDoor
open Tryz
section
open Go.RowKit Go.Shelf
variable {nodes:List Node}{r:Node}
attribute [local go_sem] Oper.semAt_some
theorem qso(T:Tree nodes)(hr:r∈nodes)(s:ByteArray)(hs:s.size<=2000000)(w:World)(hN:∀n∈nodes,qag w n):
  Calls prog 63 #[nptr r.blk,.string s] w fun e w'=>qoy nodes (r.key++qac (bl s)) e/\Below w.heap.size w w':=by
 have bz:∀k:Nat,Fence.wide.depth.isSome=true->1<=k:=fun k h=>by simp[Fence.wide]at h
 refine(xrv (n:=3)).1 ?_
 refine callsIn_of_wp_marks func63 rfl trivial ?_ rfl
 unfold nptr;simp only[ntmps63,List.size_toArray,List.length_cons,List.length_nil,Nat.reduceAdd,Nat.reduceSub,Array.replicate_succ,Array.replicate_zero,List.push_toArray,List.append_toArray,List.nil_append,List.cons_append]
 gi_wp2_with ((first|refine⟨trivial,bz _,?_⟩|refine⟨trivial,?_⟩);gi_at_call 102;refine(xrv.2 (qi9 s hs _)).mono ?_;rintro e W ⟨gf,lb,rfl,eg,hb,aB⟩)
 have eO:w.heap.size+2<=W.heap.size:=by have:=hb.size;simp at this;omega
 obtain⟨S,hS,hq⟩:=aB (fun b=>(b=w.heap.size\/b=w.heap.size+1)\/W.heap.size<=b) (fun b h1 h2 h=>by simp at h1;omega);have o5:Box W w.heap.size 97 (.pointer none):=((Box.new w 97 _).alloc _).below hb (by simp<;>omega);have o6:Box W (w.heap.size+1) 97 (.pointer (some ⟨r.blk,0,none⟩)):=by
  have:=Box.new (w.alloc (.cells #[.pointer none] 97)) 97 (.pointer (some ⟨r.blk,0,none⟩))
  rw[xrt]at this
  exact this.below hb (by simp)
 have bZ:Below w.heap.size w W:=qab (((Below.refl _ _).alloc (Nat.le_refl _) _).alloc (by simp) _) hb;clear aB hb;have iJ:∀b,b<=w.heap.size+1->¬(S b\/W.heap.size<=b):=fun b bh h=>by
  rcases h with h|h
  ·have h1:=(hS _ h).1;simp at h1;omega
  ·omega
 refine qfo (T:=fun b=>b=w.heap.size\/b=w.heap.size+1) rfl eg hq (Below.refl _ _) rfl (fun b h=>(hS b h).2) (fun b h=>by omega)
  (fun pre A=>(∃n∈nodes,n.key=r.key++pre/\Box A (w.heap.size+1) 97 (.pointer (some ⟨n.blk,0,none⟩)))/\Box A w.heap.size 97 (.pointer none)/\Below w.heap.size w A)
  (fun c pre A=>c=.ret/\(∀n∈nodes,n.key≠r.key++qac (bl s))/\Box A w.heap.size 97 (.pointer none)/\Below w.heap.size w A)
  (fun pre A B hs hk=>⟨by obtain⟨n,h1,h2,h3⟩:=hs.1;exact⟨n,h1,h2,h3.keep hk (iJ _ (Nat.le_refl _))⟩,hs.2.1.keep hk (iJ _ (by omega)),hs.2.2.trans (hk.toBelow hs.2.2.size (fun b bh=>iJ b (by omega)))⟩)
  (fun c pre A B hs hk=>⟨hs.1,hs.2.1,hs.2.2.1.keep hk (iJ _ (by omega)),hs.2.2.2.trans (hk.toBelow hs.2.2.2.size (fun b bh=>iJ b (by omega)))⟩)
  ⟨⟨r,hr,by simp,o6⟩,o5,bZ⟩
  (fun x=>{tmps:=#[.pointer (some ⟨r.blk,0,none⟩),.string s,undef,undef,.pointer (some ⟨w.heap.size,0,none⟩),.pointer (some ⟨w.heap.size+1,0,none⟩),.string (sb x),undef,undef,
   .pointer (some ⟨r.blk,0,none⟩),.string s,.func (.func gf) #[] lb,.string (sb x),undef,undef,undef,undef,undef,undef,undef,undef,undef,undef,undef,undef,undef,undef,undef,undef],defers:=[]}) ?assign ?body ?done ?stop
 case assign =>
  intro l x W K hK
  gi_wp2
  exact hK
 case body =>
  rintro l pre x W2 ⟨⟨n,hn,bX,cZ⟩,bI,ah⟩ cY ax
  have vm:∀n∈nodes,qag W2 n:=fun n hn=>(hN n hn).below ah
  have oO:=qs4 T hn x W2 vm;have nK:=bI.cell;have wg:=bI.frozen;have tL:=cZ.cell;have wh:=cZ.frozen
  gi_wp2_with ((first|refine⟨trivial,bz _,?_⟩|refine⟨trivial,?_⟩);gi_at_call 104;refine(CallsIn.inRound l (xrv.2 oO)).mono ?_;rintro e w' ⟨(⟨at_,k,g,cap,rfl,cf,aY,bW,gL,gN⟩|⟨at_,rfl,ay⟩),rfl⟩)
  ·refine⟨(Keep.refl (fun b=>b=w.heap.size\/b=w.heap.size+1) _).setCell (p:=⟨w.heap.size+1,0,none⟩) (.inr rfl) _,⟨k,cf,by rw[aY,bX,List.append_assoc],cZ.set _⟩,bI.other _ _ (by simp),ah.setCell (by simp) _⟩
  ·refine⟨(Keep.refl (fun b=>b=w.heap.size\/b=w.heap.size+1) _).setCell (p:=⟨w.heap.size,0,none⟩) (.inl rfl) _,rfl,ay _ (by rw[bX,List.append_assoc];exact(List.prefix_append_right_inj _).2 ax),bI.set _,ah.setCell (Nat.le_refl _) _⟩
 case done =>
  rintro A ⟨⟨n,hn,bX,cZ⟩,bI,ah⟩ hD
  have nK:=bI.cell;have wg:=bI.frozen;have tL:=cZ.cell;have wh:=cZ.frozen
  gi_wp2
  have fU:(A.setCell ⟨w.heap.size,0,none⟩ (.pointer (some ⟨n.blk,0,none⟩))).heap[W.heap.size]?=some (.deferred (some [])):=(Below.heap_setCell _ _ _ _ (by simp;omega)).trans hD;have ag:=((bI.set (.pointer (some ⟨n.blk,0,none⟩))).put W.heap.size (.deferred none) (by omega)).cell
  refine⟨by simp,.inl ⟨_,_,rfl,run_takeDeferred fU,?_⟩⟩
  refine⟨.pointer (some ⟨n.blk,0,none⟩),by simp[results,results127,go_sem,ag],.inl ⟨n,hn,bX,rfl⟩,qay (ah.setCell (Nat.le_refl _) _) _ _ (by omega)⟩
 case stop =>
  rintro c pre A ax ⟨rfl,hv,bI,ah⟩ hD
  gi_wp2
  have ag:=(bI.put W.heap.size (.deferred none) (by omega)).cell
  refine⟨by simp,.inl ⟨_,_,rfl,run_takeDeferred hD,?_⟩⟩
  refine⟨.pointer none,by simp[results,results127,go_sem,ag],.inr ⟨hv,rfl⟩,qay ah _ _ (by omega)⟩
end
section
open Go.RowKit
variable {B gb:Nat}{W w w1:World}
theorem qo2(hB:B<=w.heap.size)(h:Below B w W)(hb:Below W.heap.size W w1):Below B w w1:=h.trans (hb.mono (Nat.le_trans hB h.size))
theorem qh8(first:ByteArray)(v:Value)(l:List ByteArray)(cY:∀s∈l,s.size<=2000000)(hl:l.length<=100)(w:World)(mD:B<=w.heap.size)
  (cB:∃v' w',(∀ty,(Builtin.append_ #[46,46] ty #[v,.slice (some ⟨w.heap.size,0,none⟩) 1 1]).run prog (w.alloc (.cells #[.string first] 9))=.ok v' w')/\∃g cap,v'=.slice (some ⟨g,0,none⟩) l.length cap/\l.length<=cap/\cap<=maxLen/\g<w'.heap.size/\Below B w w'/\∀(k:Nat) s,l[k]?=some s->w'.cell? ⟨g,k,none⟩=some (.string s)) :
  Calls prog 132 #[.string first,v] w fun e w'=>e=.returned (.int .i64 (errP (l.map bl) (bl first)))/\Below B w w':=by
 have aA:=fun s (hs:s∈l) W=>qg9 s (cY s hs) W
 obtain⟨n,hn⟩:∃n,n=l.length:=⟨_,rfl⟩;rw[<-hn]at cB hl;have HN:Hid (n=l.length):=hn;clear hn
 go_enter func132,ntmps132
 go_wp2_with (at_builtin;refine qbd (by rfl) _ _ _ _ rfl _ _ rfl (by rfl) cB ?_;rintro v1 w1 ⟨g1,q1,rfl,dV,gU,me,au,bm⟩)
 clear cB
 go_loopw [12] (fun i wr=>∃k:Nat,k<=n/\i=.int .i64 k/\((l.map bl).take k).all qar=true/\Below w1.heap.size w1 wr) (fun i _=>n-(intOf i).toNat)
 case atStart=>exact⟨0,Nat.zero_le _,rfl,rfl,Below.refl _ _⟩
 case round =>
  obtain⟨k,hk,rfl,aC,ah⟩:=hrel;have HA:Hid (((l.map bl).take k).all qar=true):=aC;clear aC
  by_cases ak:k<n
  ·have bN:k<l.length:=by rw[<-HN.out];exact ak
   obtain⟨s,hs⟩:∃s,l[k]?=some s:=⟨_,xr1 bN⟩;have hc:=(ah.cell (p:=⟨g1,k,none⟩) me).trans (bm k s hs);have hv:=aA s (xr2 hs);have HT:Hid ((l.map bl).take (k+1)=(l.map bl).take k++[bl s]):=by
    show _=_
    rw[xrf (by simpa using bN)];rw[xr1 bN]at hs;cases hs;simp
   have HM:Hid (bl s∈l.map bl):=xrq.2 ⟨s,xr2 hs,rfl⟩;clear hs bm aA;have ja:(k:Int)<n:=by omega
   have eM:(0:Int)<=k:=by omega
   cases cU:qar (bl s)
   ·rw[cU]at hv
    go_wp2_with (go_at_call 62;refine(hv _).mono ?_;rintro e w2 ⟨rfl,ag⟩)
    go_ret
    have h1:errP (l.map bl) (bl first)=1:=by
     unfold errP
     exact if_pos (List.all_eq_false.2 ⟨_,HM.out,by simp[cU]⟩)
    exact⟨by rw[h1];rfl,qo2 mD (qo2 mD au ah) ag⟩
   ·rw[cU]at hv
    go_wp2_with (go_at_call 62;refine(hv _).mono ?_;rintro e w2 ⟨rfl,ag⟩)
    refine⟨⟨k+1,by omega,by go_num,?_,qab ah ag⟩,by simp[intOf];omega⟩
    rw[HT.out,List.all_append,HA.out]
    simp[cU]
  ·have aC:(l.map bl).all qar=true:=by
    have:=HA.out
    rwa[xrd (by simp;have:=HN.out;omega)]at this
   have HF:Hid (errP (l.map bl) (bl first)=if bl first=[] then 2 else 0):=by
    show _=_
    unfold errP;rw[aC];simp
   clear aC HA bm aA
   by_cases h0:bl first=[]
   ·have hz:first=⟨#[]⟩:=qd8 (h0.trans qhs.symm);have h1:errP (l.map bl) (bl first)=2:=by rw[HF.out,if_pos h0]
    subst hz;have H1:Hid (errP (l.map bl) (bl ⟨#[]⟩)=2):=h1;clear h1 HF h0
    go_wp2
    go_ret
    exact⟨by rw[H1.out];rfl,qo2 mD au ah⟩
   ·have hq:(first.toList.isEmpty)=false:=by rw[qb3];simpa using h0
    have h1:errP (l.map bl) (bl first)=0:=by rw[HF.out,if_neg h0]
    have H1:Hid (errP (l.map bl) (bl first)=0):=h1;clear h1 HF h0
    go_wp2
    go_ret
    exact⟨by rw[H1.out];rfl,qo2 mD au ah⟩
theorem qjh(first other:ByteArray)(hs:first.size<=2000000)(dW:other.size<=2000000)(hB:B<=gb)(cN:Blk w gb 9 #[.string other]):
  Calls prog 132 #[.string first,.slice (some ⟨gb,0,none⟩) 1 1] w fun e w'=>e=.returned (.int .i64 (errP [bl other,bl first] (bl first)))/\Below B w w':=by
 have bK:=cN.lt
 refine qh8 first (.slice (some ⟨gb,0,none⟩) 1 1) [other,first] (fun s h=>by simp at h;rcases h with rfl|rfl<;>assumption) (by simp) w (by omega) ?_
 have hb:Blk (w.alloc (.cells #[.string first] 9)) w.heap.size 9 #[.string first]:=Blk.new w 9 _;have aa:Blk (w.alloc (.cells #[.string first] 9)) gb 9 #[.string other]:=cN.alloc _;have aS:(w.alloc (.cells #[.string first] 9)).ownsRow 0 9 1 (.slice (some ⟨gb,0,none⟩) 1 1) 1 [.string other] :=
  ⟨rfl,.inr ⟨gb,1,_,rfl,Nat.zero_le _,aa,Nat.le_refl _,by unfold maxLen;omega,rfl,rfl⟩⟩
 obtain⟨v',w',hr,g,cap,rfl,R⟩:=qey qzw inf9 (by omega) (w.alloc (.cells #[.string first] 9)) (.slice (some ⟨gb,0,none⟩) 1 1) 1 [.string other] aS w.heap.size 1 1 (by omega) [.string first] rfl hb (fun u hu=>by simp at hu;subst hu;rfl) (by unfold maxLen;omega) (by omega)
 refine⟨_,w',hr,g,cap,rfl,R.le,R.mx,qap R.own rfl,?_,fun k s hk=>?_⟩
 ·have hk:=R.keep;have h0:Below B w (w.alloc (.cells #[.string first] 9)):=((Below.refl _ _).alloc (by omega) _)
  exact h0.trans ⟨hk.os,hk.tape,hk.output,hk.size,fun k cf=>hk.block k (by simp;omega) (by simp[Value.ownBlock];omega)⟩
 ·have:=R.own.cells (g:=g) rfl k (.string s) (by
   cases k with
   |zero=>simp at hk;subst hk;rfl
   |succ k =>
    cases k with
    |zero=>simp at hk;subst hk;rfl
    |succ k=>simp at hk)
  rwa[Addr.add_lit,Nat.zero_add]at this
end
section
open Go.RowKit Go.Shelf
variable {W w:World}{nodes:List Node}{bt:Nat}{r:Node}{ai va vw:Value}{as_ ws:List Pw}
attribute [local go_sem] Oper.semAt_some
def okQ (nodes:List Node)(l:List Pw)(m:Node):Bool:=(abv (ws0 (pun l m.key)) (pn0 nodes m.key+m.b0) == 0)&&(abv (ws1 (pun l m.key)) (pn1 nodes m.key+m.b1) == 0)
def qcm (nodes:List Node)(l:List Pw):Int:=if nodes.all (okQ nodes l) then 0 else 11
theorem qo0{α : Type}{l l':List α}(h:l.Perm l')(f : α -> Bool):l.all f=l'.all f:=by
 rw[Bool.eq_iff_iff,List.all_eq_true,List.all_eq_true]
 exact⟨fun k x hx=>k x (h.mem_iff.2 hx),fun k x hx=>k x (h.mem_iff.1 hx)⟩
theorem TwAt.qzy(h:TwAt W nodes bt r ai vw va ws as_)(k:List Bs):(0<=ws0 (pun as_ k)/\ws0 (pun as_ k)<=24000)/\(0<=ws1 (pun as_ k)/\ws1 (pun as_ k)<=24000):=by
 have hl:as_.length<=24:=by have:=h.bk.len;omega
 have bQ:=fun p hp=>h.nm p (xra _ hp)
 exact qtp bQ hl k
theorem qd0(T:Tree nodes)(hB:qa1 nodes)(h:TwAt w nodes bt r ai vw va ws as_)(hr:r∈nodes)(a_:r.key=[]):
  Calls prog 141 #[.pointer (some ⟨bt,0,none⟩)] w fun e w'=>e=.returned (.int .i64 (qcm nodes as_))/\Below w.heap.size w w':=by
 obtain⟨ch,K⟩:=T.ch;have bz:∀k:Nat,Fence.wide.depth.isSome=true->1<=k:=fun k h=>by simp[Fence.wide]at h
 have aC:∀W,(∀n∈nodes,qag W n)->_:=fun W hW=>qio T K hr W hW
 have af:=qk7 K 4 r hr;have aN:(dfs ch 4 r).Perm nodes:=by
  have:=qe0 T K T.nd hr
  have e:(nodes.filter fun m=>r.key.isPrefixOf m.key)=nodes:=List.filter_eq_self.2 (fun _ _=>by rw[a_];rfl);rw[e]at this
  exact this
 have kU:qcm nodes as_=if (dfs ch 4 r).all (okQ nodes as_) then 0 else 11:=by unfold qcm;rw[qo0 aN]
 have ic:=fun W (hW:Below w.heap.size w W) m (hm:m∈nodes)=>qhq T hB W (h.below hW).ins bt (va:=va) (l:=as_) (by have:=(h.below hW).bk.at_.cell 3;simpa using this) (h.below hW).pws hm
 have fF:=fun W (hW:Below w.heap.size w W) m (hm:m∈nodes)=>qkl T hm W (h.below hW).ins
 have g_:=fun W m (hm:m∈nodes)=>by
  have u:=h.qzy m.key;have q:=qm6 T m.key;have b:=T.num m hm
  exact qgj (ws0 (pun as_ m.key)) (ws1 (pun as_ m.key)) (pn0 nodes m.key+m.b0) (pn1 nodes m.key+m.b1) W (by omega) (by omega) (by omega) (by omega) (by omega) (by omega) (by omega) (by omega)
 have cD:w.cell? ⟨bt,0,none⟩=some (.pointer (some ⟨r.blk,0,none⟩)):=by have:=h.bk.at_.cell 0;simpa [nptr] using this
 have dk:=h.bk.at_.lt;have hN:=h.ins;generalize dfs ch 4 r=X at aC af kU aN;generalize qcm nodes as_=eo at kU ⊢;have HE:Hid ((X.all (okQ nodes as_)=true->eo=0)/\(X.all (okQ nodes as_)=false->eo=11)):=⟨fun h=>by rw[kU,h];rfl,fun h=>by rw[kU,h];rfl⟩;clear kU aN
 refine(xrv (n:=3)).1 ?_
 refine callsIn_of_wp_marks func141 rfl trivial ?_ rfl
 unfold nptr at aC ic fF;have e1:¬(bt=w.heap.size):=by omega
 have e3:¬(bt=w.heap.size+1):=by omega
 simp only[ntmps141,List.size_toArray,List.length_cons,List.length_nil,Nat.reduceAdd,Nat.reduceSub,Array.replicate_succ,Array.replicate_zero,List.push_toArray,List.append_toArray,List.nil_append,List.cons_append]
 gi_wp2_with ((first|refine⟨trivial,bz _,?_⟩|refine⟨trivial,?_⟩);gi_at_call 101;refine(xrv.2 (aC _ (fun n hn=>(hN n hn).below (by exact bel1)))).mono ?_;rintro e W ⟨rfl,rfl,aB⟩)
 obtain⟨W,hW⟩:∃W,W=((w.alloc (.cells #[.pointer (some ⟨bt,0,none⟩)] 45)).alloc (.cells #[.int .i64 0] 53)).alloc (.cells #[.pointer (some ⟨r.blk,0,none⟩)] 97):=⟨_,rfl⟩;have cY:W.heap.size=w.heap.size+3:=by rw[hW];simp
 have e2:((w.alloc (.cells #[.pointer (some ⟨bt,0,none⟩)] 45)).alloc (.cells #[.int .i64 0] 53)).heap.size=w.heap.size+1+1:=by simp
 have ag:Box W w.heap.size 45 (.pointer (some ⟨bt,0,none⟩)):=by rw[hW];exact((Box.new w 45 _).alloc _).alloc _
 have aM:Box W (w.heap.size+1) 53 (.int .i64 0):=by
  rw[hW];have:=Box.new (w.alloc (.cells #[.pointer (some ⟨bt,0,none⟩)] 45)) 53 (.int .i64 0);rw[xrt]at this;exact this.alloc _
 have bZ:Below w.heap.size w W:=by rw[hW];exact bel1
 rw[e2]at aB;simp only[<-hW]at aB ⊢;have hq:=aB (fun b=>b=w.heap.size+1\/W.heap.size<=b) (fun k hk=>⟨fun h=>by have:=(hN k hk).lt;omega,fun g hg h=>by have:=((hN k hk).row.lt g hg).2;omega⟩);clear aB aC e2 hW;have ay:∀b,b<W.heap.size->¬(False\/W.heap.size<=b):=fun b hb e=>by rcases e with e|e;exact e;omega
 refine qfo (T:=fun b=>b=w.heap.size+1) (S:=fun _=>False) rfl (enters_of func149 (by kernel_rfl) rfl) hq (Below.refl _ _) rfl (fun b h=>h.elim) (fun b h=>by omega)
  (fun pre A=>pre.all (okQ nodes as_)=true/\Box A w.heap.size 45 (.pointer (some ⟨bt,0,none⟩))/\Box A (w.heap.size+1) 53 (.int .i64 0)/\Below w.heap.size w A)
  (fun c pre A=>c=.ret/\pre.all (okQ nodes as_)=false/\Box A (w.heap.size+1) 53 (.int .i64 11)/\Below w.heap.size w A)
  (fun pre A B hs hk=>⟨hs.1,hs.2.1.keep hk (ay _ (by omega)),hs.2.2.1.keep hk (ay _ (by omega)),hs.2.2.2.trans (hk.toBelow hs.2.2.2.size (fun b bh=>ay b (by omega)))⟩)
  (fun c pre A B hs hk=>⟨hs.1,hs.2.1,hs.2.2.1.keep hk (ay _ (by omega)),hs.2.2.2.trans (hk.toBelow hs.2.2.2.size (fun b bh=>ay b (by omega)))⟩)
  ⟨rfl,ag,aM,bZ⟩
  (fun x=>{tmps:=#[.pointer (some ⟨bt,0,none⟩),.pointer (some ⟨w.heap.size,0,none⟩),.pointer (some ⟨w.heap.size+1,0,none⟩),.pointer (some ⟨x.blk,0,none⟩),.pointer (some ⟨bt,0,none⟩),.pointer (some ⟨bt,0,none⟩),.pointer (some ⟨bt,0,none⟩),.pointer (some ⟨r.blk,0,none⟩),
   .func (.func 149) #[] #[.pointer (some ⟨w.heap.size+1+1,0,none⟩)],.pointer (some ⟨x.blk,0,none⟩),undef,undef,undef,undef,undef,undef,undef,undef,undef,undef],defers:=[]}) ?assign ?body ?done ?stop
 case assign =>
  intro l x W K hK
  gi_wp2
  exact hK
 case body =>
  rintro l2 pre x W2 ⟨de,e8,bY,ah⟩ eO ax
  have cm:x∈nodes:=af x (ax.subset (by simp));have c2:=e8.cell;have c3:=bY.cell;have f3:=bY.frozen;have hu:=fun W hW=>ic W hW x cm
  have hl:=fun W hW=>fF W hW x cm
  have hv:=fun W=>g_ W x cm
  have eY:=fun W=>qvt (abv (ws0 (pun as_ x.key)) (pn0 nodes x.key+x.b0)) (abv (ws1 (pun as_ x.key)) (pn1 nodes x.key+x.b1)) 0 0 W
  have qf:Hid (pre.all (okQ nodes as_)=true):=de;have jk:Hid (okQ nodes as_ x=((abv (ws0 (pun as_ x.key)) (pn0 nodes x.key+x.b0) == 0)&&(abv (ws1 (pun as_ x.key)) (pn1 nodes x.key+x.b1) == 0))):=rfl;clear de ic fF g_ hq;generalize abv (ws0 (pun as_ x.key)) (pn0 nodes x.key+x.b0)=s0 at *;generalize abv (ws1 (pun as_ x.key)) (pn1 nodes x.key+x.b1)=s1 at *;generalize ws0 (pun as_ x.key)=u0 at *;generalize ws1 (pun as_ x.key)=u1 at *;generalize pn0 nodes x.key+x.b0=m0 at *;generalize pn1 nodes x.key+x.b1=m1 at *;generalize iq:(s0 == 0&&s1 == 0)=bv at jk eY;clear iq
  cases bv
  ·gi_wp2_with ((first|refine⟨trivial,bz _,?_⟩|refine⟨trivial,?_⟩);first
    |(gi_at_call 106;refine(CallsIn.inRound l2 (xrv.2 (hu _ (by exact bel2)))).mono ?_;rintro e w3 ⟨rfl,eD⟩;have bH:Below w.heap.size w w3:=qab ah eD)
    |(gi_at_call 190;refine(CallsIn.inRound l2 (xrv.2 (hl _ bH))).mono ?_;rintro e w4 ⟨rfl,qO⟩;have dL:Below w.heap.size w w4:=qab bH qO)
    |(gi_at_call 189;refine(CallsIn.inRound l2 (xrv.2 (hv _))).mono ?_;rintro e w5 ⟨rfl,qP⟩;have dE:Below w.heap.size w w5:=qab dL qP;have gN:Below W2.heap.size W2 w5:=qab (qab eD qO) qP;have k3:=bY.below gN bY.lt;have q3:=k3.cell;have g3:=k3.frozen))
   refine⟨(Keep.new (T:=fun b=>b=w.heap.size+1) gN).setCell (p:=⟨w.heap.size+1,0,none⟩) rfl _,rfl,?_,k3.set _,dE.setCell (by simp) _⟩
   rw[List.all_append,qf.out]
   simp[jk.out]
  ·gi_wp2_with ((first|refine⟨trivial,bz _,?_⟩|refine⟨trivial,?_⟩);first
    |(gi_at_call 106;refine(CallsIn.inRound l2 (xrv.2 (hu _ (by exact bel2)))).mono ?_;rintro e w3 ⟨rfl,eD⟩;have bH:Below w.heap.size w w3:=qab ah eD)
    |(gi_at_call 190;refine(CallsIn.inRound l2 (xrv.2 (hl _ bH))).mono ?_;rintro e w4 ⟨rfl,qO⟩;have dL:Below w.heap.size w w4:=qab bH qO)
    |(gi_at_call 189;refine(CallsIn.inRound l2 (xrv.2 (hv _))).mono ?_;rintro e w5 ⟨rfl,qP⟩;have dE:Below w.heap.size w w5:=qab dL qP;have gN:Below W2.heap.size W2 w5:=qab (qab eD qO) qP;have k3:=bY.below gN bY.lt;have k2:=e8.below gN e8.lt))
   refine⟨Keep.new gN,?_,k2,k3,dE⟩
   rw[List.all_append,qf.out]
   simp[jk.out]
 case done =>
  rintro A ⟨de,e8,bY,ah⟩ hD
  have hc:=bY.cell;have hf:=bY.frozen
  gi_wp2
  have fU:(A.setCell ⟨w.heap.size+1,0,none⟩ (.int .i64 0)).heap[W.heap.size]?=some (.deferred (some [])):=(Below.heap_setCell _ _ _ _ (by simp;omega)).trans hD;have ag:=((bY.set (.int .i64 0)).put W.heap.size (.deferred none) (by omega)).cell
  refine⟨by simp,.inl ⟨_,_,rfl,run_takeDeferred fU,?_⟩⟩
  exact⟨.int .i64 0,by simp[results,results141,go_sem,ag],by rw[HE.out.1 de],qay (ah.setCell (by simp) _) _ _ (by omega)⟩
 case stop =>
  rintro c pre A ax ⟨rfl,hv,bY,ah⟩ hD
  gi_wp2
  have ag:=(bY.put W.heap.size (.deferred none) (by omega)).cell
  refine⟨by simp,.inl ⟨_,_,rfl,run_takeDeferred hD,?_⟩⟩
  have hX:X.all (okQ nodes as_)=false:=by
   rw[List.all_eq_false]at hv ⊢;obtain⟨y,hy,j_⟩:=hv
   exact⟨y,ax.subset hy,j_⟩
  exact⟨.int .i64 11,by simp[results,results141,go_sem,ag],by rw[HE.out.2 hX],qay ah _ _ (by omega)⟩
end
section
open Go.RowKit
variable {nodes:List Node}{n q tq:Node}{W W' w:World}{bp bq cap cp gp i:Nat}{xs:List Value}{v:Value}{ns:List Bs}{th:Bool}{e:TypeId}{vq:Array Value}
theorem qqa(T:Tree nodes)(hn:n∈nodes)(w:World)(hN:∀n∈nodes,qag w n):
  Calls prog 192 #[.pointer (some ⟨n.blk,0,none⟩)] w fun e w'=>e=.returned (.int .i64 n.key.length)/\Below w.heap.size w w':=by
 have hp:=qig T _ n hn rfl w hN;have hk:=(T.ok n hn).1;have hj:=qi1 _ hk;have h4:=(T.ok n hn).2;have hd:=fun W=>qma (sb (qaa n.key)) W (by rw[qco];omega)
 have e:qep (bl (sb (qaa n.key)))=n.key.length:=by unfold qep;rw[qbs,qbi hk]
 rw[e]at hd;unfold nptr at hp
 go_enter func192,ntmps192
 go_wp2_with (first
  |(go_at_call 47;refine hp.mono ?_;rintro e w1 ⟨rfl,aa⟩)
  |(go_at_call 134;refine(hd _).mono ?_;rintro e w2 ⟨rfl,eG⟩;subst eG))
 go_ret
 exact⟨rfl,aa⟩
def okD (sh:Int)(m:Node):Bool:=!decide ((m.key.length:Int)+sh>4)
theorem qnh(T:Tree nodes)(hN:∀n∈nodes,qag w n)(hq:q∈nodes)(ht:tq∈nodes):
  Calls prog 143 #[.pointer (some ⟨q.blk,0,none⟩),.pointer (some ⟨tq.blk,0,none⟩)] w fun e w'=>e=.returned (.bool (!(nodes.filter fun m=>q.key.isPrefixOf m.key).all (okD ((tq.key.length:Int)+1-q.key.length))))/\Below w.heap.size w w':=by
 obtain⟨ch,K⟩:=T.ch;have bz:∀k:Nat,Fence.wide.depth.isSome=true->1<=k:=fun k h=>by simp[Fence.wide]at h
 have aC:∀W,(∀n∈nodes,qag W n)->_:=fun W hW=>qio T K hq W hW
 have af:=qk7 K 4 q hq;have aN:=qe0 T K T.nd hq;have fA:=fun W (hW:Below w.heap.size w W) m (hm:m∈nodes)=>qqa T hm W (fun n hn=>(hN n hn).below hW)
 have vY:=fA;have f_:=fun m (hm:m∈nodes)=>(T.ok m hm).2
 have pQ:=f_ q hq;have ak:=f_ tq ht;rw[<-qo0 aN];generalize dfs ch 4 q=X at aC af aN ⊢;clear aN;generalize fp:((tq.key.length:Int)+1-q.key.length)=sh;have sd : -4<=sh/\sh<=5:=by omega
 have v_:=fun W hW=>fA W hW tq ht
 have vZ:=fun W hW=>fA W hW q hq
 obtain⟨lt,eW⟩:∃l:Nat,l=tq.key.length:=⟨_,rfl⟩;obtain⟨lq,rF⟩:∃l:Nat,l=q.key.length:=⟨_,rfl⟩;rw[<-eW]at fp ak v_;rw[<-rF]at fp pQ vZ;generalize heo:(!X.all (okD sh))=eo;have HE:Hid ((X.all (okD sh)=true->eo=false)/\(X.all (okD sh)=false->eo=true)):=⟨fun h=>by rw[<-heo,h];rfl,fun h=>by rw[<-heo,h];rfl⟩;clear heo eW rF vY;have w1:IntKind.i64.wrap ((lt:Int)+1)=(lt:Int)+1:=by rw[IntKind.wrap_i64];omega
 have w2:IntKind.i64.wrap ((lt:Int)+1-lq)=sh:=by rw[IntKind.wrap_i64];omega
 refine(xrv (n:=3)).1 ?_
 refine callsIn_of_wp_marks func143 rfl trivial ?_ rfl
 unfold nptr at aC;simp only[ntmps143,List.size_toArray,List.length_cons,List.length_nil,Nat.reduceAdd,Nat.reduceSub,Array.replicate_succ,Array.replicate_zero,List.push_toArray,List.append_toArray,List.nil_append,List.cons_append];have eT:Box (w.alloc (.cells #[.bool false] 4)) w.heap.size 4 (.bool false):=Box.new w 4 _
 gi_wp2_with ((first|refine⟨trivial,bz _,?_⟩|refine⟨trivial,?_⟩);first
  |(gi_at_call 192;refine(xrv.2 (v_ _ (by exact bel2))).mono ?_;clear v_;rintro e w3 ⟨rfl,aM⟩;have pX:=eT.below aM eT.lt;have bH:Below w.heap.size w w3:=qab (by exact bel2) aM;have lQ:=bH.size;have Bq:=aM.size)
  |(gi_at_call 192;refine(xrv.2 (vZ _ bH)).mono ?_;rintro e w4 ⟨rfl,bf⟩;have xi:=pX.below bf pX.lt;have dL:Below w.heap.size w w4:=qab bH bf;have qa:=dL.size;have Br:=bf.size)
  |(gi_at_call 101;refine(xrv.2 (aC _ (fun n hn=>(hN n hn).below (by exact bel2)))).mono ?_;rintro e W ⟨rfl,rfl,aB⟩))
 obtain⟨W,hW⟩:∃W,W=(w4.alloc (.cells #[.int .i64 sh] 3)).alloc (.cells #[.pointer (some ⟨q.blk,0,none⟩)] 97):=⟨_,rfl⟩;have cY:W.heap.size=w4.heap.size+2:=by rw[hW];simp
 have e2:(w4.alloc (.cells #[.int .i64 sh] 3)).heap.size=w4.heap.size+1:=by simp
 have E0:w.heap.size<w4.heap.size:=xi.lt;have ag:Box W w4.heap.size 3 (.int .i64 sh):=by rw[hW];exact(Box.new w4 3 _).alloc _
 have cC:Box W w.heap.size 4 (.bool false):=by rw[hW];exact(xi.alloc _).alloc _
 have bZ:Below w.heap.size w W:=by rw[hW];exact bel2
 rw[e2]at aB;simp only[<-hW]at aB ⊢;have gU:=aB (fun b=>b=w.heap.size\/W.heap.size<=b) (fun k hk=>⟨fun h=>by have:=(hN k hk).lt;omega,fun g hg h=>by have:=((hN k hk).row.lt g hg).2;omega⟩);clear aB aC e2 hW eT pX xi vZ aM bf;have ay:∀b,b<W.heap.size->¬(False\/W.heap.size<=b):=fun b hb e=>by rcases e with e|e;exact e;omega
 generalize w4.heap.size=b5 at *
 refine qfo (T:=fun b=>b=w.heap.size) (S:=fun _=>False) rfl (enters_of func149 (by kernel_rfl) rfl) gU (Below.refl _ _) rfl (fun b h=>h.elim) (fun b h=>by omega)
  (fun pre A=>pre.all (okD sh)=true/\Box A b5 3 (.int .i64 sh)/\Box A w.heap.size 4 (.bool false)/\Below w.heap.size w A)
  (fun c pre A=>c=.ret/\pre.all (okD sh)=false/\Box A w.heap.size 4 (.bool true)/\Below w.heap.size w A)
  (fun pre A B hs hk=>⟨hs.1,hs.2.1.keep hk (ay _ (by omega)),hs.2.2.1.keep hk (ay _ (by omega)),hs.2.2.2.trans (hk.toBelow hs.2.2.2.size (fun b bh=>ay b (by omega)))⟩)
  (fun c pre A B hs hk=>⟨hs.1,hs.2.1,hs.2.2.1.keep hk (ay _ (by omega)),hs.2.2.2.trans (hk.toBelow hs.2.2.2.size (fun b bh=>ay b (by omega)))⟩)
  ⟨rfl,ag,cC,bZ⟩
  (fun x=>{tmps:=#[.pointer (some ⟨q.blk,0,none⟩),.pointer (some ⟨tq.blk,0,none⟩),undef,undef,.pointer (some ⟨w.heap.size,0,none⟩),.pointer (some ⟨b5,0,none⟩),.pointer (some ⟨x.blk,0,none⟩),.pointer (some ⟨tq.blk,0,none⟩),.int .i64 lt,.int .i64 ((lt:Int)+1),.pointer (some ⟨q.blk,0,none⟩),.int .i64 lq,.int .i64 sh,.pointer (some ⟨q.blk,0,none⟩),
   .func (.func 149) #[] #[.pointer (some ⟨b5+1,0,none⟩)],.pointer (some ⟨x.blk,0,none⟩),undef,undef,undef,undef,undef],defers:=[]}) ?assign ?body ?done ?stop
 case assign =>
  intro l x W K hK;clear fA f_ af gU ay ag cC bZ hN fp sd w1 w2 pQ ak HE
  gi_wp2
  simp[go_sem,Oper.uponIn,Oper.semAt]
  gi_wp2
  exact hK
 case body =>
  rintro l2 pre x W2 ⟨de,e8,bY,ah⟩ eO ax
  have cm:x∈nodes:=af x (ax.subset (by simp));have c2:=e8.cell;have CP:=f_ x cm;have hd:=fun W hW=>fA W hW x cm
  have qf:Hid (pre.all (okD sh)=true):=de;have jk:Hid (okD sh x=!decide ((x.key.length:Int)+sh>4)):=rfl;clear de fA gU f_ af hN fp w1 w2 pQ ak ay ag cC bZ;generalize x.key.length=lx at *;have Dz:IntKind.i64.wrap ((lx:Int)+sh)=(lx:Int)+sh:=by rw[IntKind.wrap_i64];omega
  gi_upto_region 4 with fail
  refine qc8 (fun W'=>W'.cell? ⟨b5,0,none⟩=some (.int .i64 sh)/\Below W2.heap.size W2 W') (by kernel_rfl) (by kernel_rfl) ⟨c2,by exact bel2⟩ (fun hS=>?_)
  refine wpAnyH_take (i:=0) (v:=.pointer (some ⟨x.blk,0,none⟩)) rfl (by kernel_rfl) (by kernel_rfl) (by kernel_rfl) (fun _ _ _ h=>absurd h.1 (by intro e;cases e)) (Or.inl ⟨by rfl,?_⟩) hS ?_
  ·intro w' b8;obtain⟨s2,_⟩:=b8
   go_simp
  simp only[xr5,xr3,xr4,Act.put,xr6,xr8,xr7]
  refine wpAnyH_take (i:=2) (v:=.int .i64 sh) rfl (by kernel_rfl) (by kernel_rfl) (by kernel_rfl) (fun _ _ _ h=>absurd h.1 (by intro e;cases e)) (Or.inl ⟨by rfl,?_⟩) hS ?_
  ·intro w' b8;obtain⟨s2,_⟩:=b8
   go_simp
  simp only[xr5,xr3,xr4,Act.put,xr6,xr8,xr7]
  refine wpAnyH_ready (rs:=[1]) (by kernel_rfl) (by simp) ?_
  refine AllReadyH.cons rfl (fun K hK=>?_) AllReadyH.nil
  rw[if_pos (by rfl)]
  try simp only[xr5,xr3,xr4]
  go_simp
  refine(hd _ (qab ah (by exact bel2))).mono ?_
  rintro e W3 ⟨rfl,eD⟩
  have cC:Below W2.heap.size W2 W3:=qab (show Below W2.heap.size W2 W2.drew by exact bel2) eD;have eW:=e8.lt
  refine hK.out _ _ ⟨(cC.cell (p:=⟨b5,0,none⟩) eW).trans c2,cC⟩ (fun hS=>?_)
  clear hK
  try simp only[xr5,xr3,xr4,Act.put,xr6,xr8,xr7]
  refine wpAnyH_take (i:=3) (v:=.int .i64 ((lx:Int)+sh)) rfl (by kernel_rfl) (by kernel_rfl) (by kernel_rfl) (fun _ _ _ h=>absurd h.1 (by intro e;cases e)) (Or.inl ⟨by rfl,?_⟩) hS ?_
  ·intro w' b8
   go_simp
  try simp only[xr5,xr3,xr4,Act.put,xr6,xr8,xr7]
  refine wpAnyH_take (i:=4) (v:=.bool (decide ((lx:Int)+sh>4))) rfl (by kernel_rfl) (by kernel_rfl) (by kernel_rfl) (fun _ _ _ h=>absurd h.1 (by intro e;cases e)) (Or.inl ⟨by rfl,?_⟩) hS ?_
  ·intro w' b8
   go_simp
  try simp only[xr5,xr3,xr4,Act.put,xr6,xr8,xr7]
  refine wpAnyH_done (by kernel_rfl) ⟨rfl,?_⟩ _
  have bH:Below w.heap.size w W3:=qab ah cC;have k2:=e8.below cC eW;have k3:=bY.below cC bY.lt;have q3:=k3.cell;have f3:=k3.frozen;generalize iq:decide ((lx:Int)+sh>4)=bv at jk ⊢;clear iq;clear sd CP Dz hd hS
  cases bv
  ·gi_wp2
   refine⟨Keep.new cC,?_,k2,k3,bH⟩
   rw[List.all_append,qf.out]
   simp[jk.out]
  ·gi_wp2
   simp[go_sem,Oper.uponIn,Oper.semAt,q3,f3]
   gi_wp2
   refine⟨(Keep.new (T:=fun b=>b=w.heap.size) cC).setCell (p:=⟨w.heap.size,0,none⟩) rfl _,rfl,?_,k3.set _,bH.setCell (by simp) _⟩
   rw[List.all_append,qf.out]
   simp[jk.out]
 case done =>
  rintro A ⟨de,e8,bY,ah⟩ hD
  have hc:=bY.cell;have hf:=bY.frozen
  gi_wp2
  have fU:(A.setCell ⟨w.heap.size,0,none⟩ (.bool false)).heap[W.heap.size]?=some (.deferred (some [])):=(Below.heap_setCell _ _ _ _ (by simp;omega)).trans hD;have ag:=((bY.set (.bool false)).put W.heap.size (.deferred none) (by omega)).cell
  refine⟨by simp,.inl ⟨_,_,rfl,run_takeDeferred fU,?_⟩⟩
  exact⟨.bool false,by simp[results,results143,go_sem,ag],by rw[HE.out.1 de],qay (ah.setCell (by simp) _) _ _ (by omega)⟩
 case stop =>
  rintro c pre A ax ⟨rfl,hv,bY,ah⟩ hD
  gi_wp2
  have ag:=(bY.put W.heap.size (.deferred none) (by omega)).cell
  refine⟨by simp,.inl ⟨_,_,rfl,run_takeDeferred hD,?_⟩⟩
  have hX:X.all (okD sh)=false:=by
   rw[List.all_eq_false]at hv ⊢;obtain⟨y,hy,j_⟩:=hv
   exact⟨y,ax.subset hy,j_⟩
  exact⟨.bool true,by simp[results,results143,go_sem,ag],by rw[HE.out.2 hX],qay ah _ _ (by omega)⟩
theorem i97a:(prog.info? 97).map (fun i=>(i.size,i.bytes))=some (1,8):=by kernel_rfl
theorem i97b:(prog.info? 97).bind (fun i=>i.zero)=some (.pointer none):=by kernel_rfl
theorem qyx:qfa 97 1 8:=qge i97a i97b rfl
theorem qx8:prog.underlying 134=some (.slice 97):=by kernel_rfl
theorem qz0(w:World):(zeroValue 97).run prog w=.ok (.pointer none) w:=by kernel_rfl
theorem qxa{g n:Nat}(h:W.ownsRow 0 97 1 (.slice (some ⟨g,0,none⟩) n cap) n xs)(hi:i+1<n)(h1:∀u∈xs,u.oneCell'=true)(c:Nat):
  ∃v' w',(∀ty,(Builtin.append_ #[134,134] ty #[.slice (some ⟨g,0,none⟩) i cap,.slice (some ⟨g,i+1,none⟩) (n-(i+1)) c]).run prog W=.ok v' w')/\v'=.slice (some ⟨g,0,none⟩) (n-1) cap /\
   (∃last,w'.ownsRow 0 97 1 (.slice (some ⟨g,0,none⟩) n cap) n (xs.take i++xs.drop (i+1)++[last]))/\Keep (fun b=>b=g) W w':=by
 obtain⟨i0,z,q2,q3,q4,q5,q6⟩:=qyx;have iS:=fun j (hj:j<n*1)=>h.cellAt j hj
 obtain⟨hl,hr⟩:=h
 rcases hr with ⟨hv,_⟩|⟨g',av,aH,hv,hb,hg,lu,iT,cv,db⟩
 ·cases hv
 cases hv
 have a9:xs.length=n:=by omega
 have hr:=fun ty=>run_append_room (P:=prog) W 134 ty 97 i0 qx8 q2 g i cap aH hg ⟨g,i+1,none⟩ (n-(i+1)) c (xs.drop (i+1)) (by rw[q4];simp;omega)
  (fun j u hu=>by
   rw[List.getElem?_drop]at hu;rw[Addr.add_lit,iS _ (by have:=(xr0.1 hu).1;omega)];exact hu)
  (fun u hu=>h1 u (List.mem_of_mem_drop hu)) (by omega) (by rw[q4];simp;omega)
 rw[q4]at hr;have e1:i+(n-(i+1))=n-1:=by omega
 rw[e1]at hr
 refine⟨_,_,hr,rfl,⟨aH[n-1]'(by omega),⟨by simp;omega,.inr ⟨g,cap,_,rfl,Nat.zero_le _,setRow_heap W g aH _ 97 _ hg,lu,iT,?_,?_⟩⟩⟩,⟨rfl,rfl,rfl,by simp,fun k _ hk=>setRow_other W g k _ hk⟩⟩
 ·simp;omega
 ·have jZ:xs=aH.toList.take n:=by rw[<-db];simp
  have bm:aH.toList.length=cap*1:=by simpa using cv
  rw[Nat.mul_one,Nat.mul_one];have ht:(aH.toList.take i)=xs.take i:=by rw[jZ,List.take_take,Nat.min_eq_left (by omega)]
  have hd:i+(xs.drop (i+1)).length=n-1:=by simp;omega
  rw[ht,hd];have qY:aH.toList.drop (n-1)=aH[n-1]'(by omega)::aH.toList.drop n:=by
   have:=List.drop_eq_getElem_cons (l:=aH.toList) (i:=n-1) (by omega)
   rw[show n-1+1=n by omega]at this
   simpa using this
  rw[qY];have nQ:(xs.take i++xs.drop (i+1)).length=n-1:=by simp;omega
  rw[List.toList_toArray];generalize xs.take i++xs.drop (i+1)=A at nQ ⊢;generalize aH[n-1]'(by omega)=cc at qY ⊢
  have:n=A.length+1:=by omega
  rw[this,List.take_length_add_append]
  rfl
structure DelR (v:Value) (n i:Nat) (xs:List Value) (w:World) (v':Value) (w':World):Prop where
 row:w'.ownsRow 0 97 1 v' (n-1) (xs.take i++xs.drop (i+1))
 keep:Keep (fun b=>v.ownBlock=some b) w w'
 own:v'.ownBlock=v.ownBlock
theorem qon{n:Nat}(h:w.ownsRow 0 97 1 v n xs)(hn:n<=1000)(hi:i<n)(h1:∀u∈xs,u.oneCell'=true):
  Calls prog 146 #[v,.int .i64 i,.int .i64 ((i:Int)+1)] w fun e w'=>∃v',e=.returned v'/\DelR v n i xs w v' w':=by
 obtain⟨g,cap,rfl,lu,iT⟩:=qa9 h (by omega);have ie:xs.length=n:=by have:=h.1;omega
 have oC:∀W last,W.ownsRow 0 97 1 (.slice (some ⟨g,0,none⟩) n cap) n (xs.take i++xs.drop (i+1)++[last])->Keep (fun b=>b=g) w W->(∀ty c,(Builtin.clear_ #[134] ty #[.slice (some ⟨g,n-1,none⟩) (n-(n-1)) c]).run prog W=.ok (.tuple #[]) (W.setCell ⟨g,n-1,none⟩ (.pointer none)))/\DelR (.slice (some ⟨g,0,none⟩) n cap) n i xs w (.slice (some ⟨g,0,none⟩) (n-1) cap) (W.setCell ⟨g,n-1,none⟩ (.pointer none)):=by
  intro W last hR hK;have nQ:(xs.take i++xs.drop (i+1)).length=n-1:=by simp;omega
  have cz:=hR.cellAt (n-1) (by omega);rw[xro (by omega),nQ,Nat.sub_self]at cz;have fz:=hR.frozenAt (n-1);rw[show n-(n-1)=1 by omega]
  refine⟨fun ty c=>Lib.run_clear_slice (P:=prog) W 134 97 ty (.pointer none) qx8 qz0 rfl rfl g (n-1) 1 c (by omega) (fun k hk=>by
     have:k=0:=by omega
     subst this;rw[Nat.add_zero,cz];rfl) (fun k hk=>by
     have:k=0:=by omega
     subst this
     exact fz),⟨?_,?_,rfl⟩⟩
  ·have r1:=(hR.stored (n-1) (.pointer none)).1;have r2:=qlv r1 (m:=n-1) (by omega);rw[List.take_set_of_le (Nat.le_refl _),List.take_append,nQ,Nat.sub_self,List.take_zero,List.append_nil,xrd (by omega)]at r2
   exact r2
  ·exact(hK.mono (fun b e=>by rw[e];rfl)).setCell (p:=⟨g,n-1,none⟩) (by rfl) _
 have k0:(0:Int)<=i:=by omega
 have k1:(i:Int)<n:=by omega
 have k3:(n:Int)<=cap:=by omega
 have k4:((i:Int) == (i:Int)+1)=false:=by simp;omega
 have n1:((n-1:Nat):Int)<n:=by omega
 by_cases ak:i+1<n
 ·have vF:∀W,Below w.heap.size w W->∃v' w',(∀ty,(Builtin.append_ #[134,134] ty #[.slice (some ⟨g,0,none⟩) i cap,.slice (some ⟨g,i+1,none⟩) (n-(i+1)) (cap-(i+1))]).run prog W=.ok v' w')/\v'=.slice (some ⟨g,0,none⟩) (n-1) cap /\
   (∃last,w'.ownsRow 0 97 1 (.slice (some ⟨g,0,none⟩) n cap) n (xs.take i++xs.drop (i+1)++[last]))/\Keep (fun b=>b=g) w w':=fun W hW=>by
   obtain⟨v',w',q1,q2,q3,q4⟩:=qxa (qaf (T:=fun _=>False) h (Keep.new hW) (fun _ _ h=>h)) ak h1 (cap-(i+1))
   exact⟨v',w',q1,q2,q3,(Keep.new hW).trans q4⟩
  have k2:(i:Int)+1<n:=by omega
  have k5:¬(cap=i+1):=by omega
  have k6:¬(cap=n-1):=by omega
  have k7:(i:Int)<=cap:=by omega
  have k8:(i:Int)+1<=n:=by omega
  have k9:(0:Int)<=(i:Int)+1:=by omega
  have CJ:((n-1:Nat):Int)<=n:=by omega
  clear h
  go_enter func146,ntmps146
  go_wp2
  go_region_law (refine qa8 rfl (.tmp 22) (.tmp 25) 134 134 rfl _ _ ?_ ?_ (vF _ ?_) ?_;(focus (simp[Act.eval,Act.put]));(focus ((try simp[Act.eval,Act.put]);(try rfl)));(focus exact bel2);rintro v2 w2 ⟨rfl,⟨last,hR⟩,hK⟩;obtain⟨bm,hD⟩:=oC _ _ hR hK;have HD:Hid (DelR (.slice (some ⟨g,0,none⟩) n cap) n i xs w (.slice (some ⟨g,0,none⟩) (n-1) cap) (w2.setCell ⟨g,n-1,none⟩ (.pointer none))):=hD;clear hD)
  all_goals go_wp2
  all_goals go_ret
  all_goals exact⟨_,rfl,HD.out⟩
 ·obtain rfl:n=i+1:=by omega
  have jh:xs.take i++xs.drop (i+1)++[xs[i]'(by omega)]=xs:=by
   rw[List.drop_of_length_le (by omega),List.append_nil,List.take_append_getElem (by omega),xrd (by omega)]
  have mQ:=fun W (hW:Below w.heap.size w W)=>oC W (xs[i]'(by omega)) (by rw[jh];exact qaf (T:=fun _=>False) h (Keep.new hW) (fun _ _ h=>h)) (Keep.new hW)
  simp only[Nat.add_sub_cancel,Nat.add_sub_cancel_left]at mQ;have bm:=(mQ w.drew ((Below.refl _ _).drew)).1;have HD:Hid (∀W,Below w.heap.size w W->DelR (.slice (some ⟨g,0,none⟩) (i+1) cap) (i+1) i xs w (.slice (some ⟨g,0,none⟩) i cap) (W.setCell ⟨g,i,none⟩ (.pointer none))):=fun W hW=>(mQ W hW).2
  have k7:(i:Int)<=cap:=by omega
  have k8:(i:Int)+1<=(i+1:Nat):=by omega
  have k9:(0:Int)<=(i:Int)+1:=by omega
  have CJ:i<=cap:=by omega
  have EA:¬(cap=i):=by omega
  clear h mQ oC jh;have qN:∀W,Below w.heap.size w W->∀x2 c,∃v' w',(∀ty,(Builtin.append_ #[134,134] ty #[.slice (some ⟨g,0,none⟩) i cap,.slice x2 0 c]).run prog W=.ok v' w')/\v'=.slice (some ⟨g,0,none⟩) i cap/\Below w.heap.size w w':=fun W hW x2 c =>
   ⟨_,W,fun ty=>qo1 qx8 qyx W _ i cap (by omega) x2 c ty,rfl,hW⟩
  by_cases jD:cap=i+1
  ·subst jD;have EB:(i:Int)<=(i:Int)+1:=by omega
   have EC:((i:Int)+1<(i:Int))=False:=by simp;omega
   go_enter func146,ntmps146
   go_wp2
   go_region_law (refine qa8 rfl (.tmp 22) (.tmp 25) 134 134 rfl _ _ ?_ ?_ (qN _ ?_ _ _) ?_;(focus (simp[Act.eval,Act.put]));(focus ((try simp[Act.eval,Act.put]);(try rfl)));(focus exact bel2);rintro v2 w2 ⟨rfl,du⟩)
   all_goals go_wp2
   all_goals go_ret
   all_goals exact⟨_,rfl,HD.out w.drew (by exact bel2)⟩
  ·have y_:¬(i+1=cap):=fun e=>jD e.symm
   go_enter func146,ntmps146
   go_wp2
   go_region_law (refine qa8 rfl (.tmp 22) (.tmp 25) 134 134 rfl _ _ ?_ ?_ (qN _ ?_ _ _) ?_;(focus (simp[Act.eval,Act.put]));(focus ((try simp[Act.eval,Act.put]);(try rfl)));(focus exact bel2);rintro v2 w2 ⟨rfl,du⟩)
   all_goals go_wp2
   all_goals go_ret
   all_goals exact⟨_,rfl,HD.out w.drew (by exact bel2)⟩
structure qf0 (W:World) (p:Node) (ks:List Node):Prop where
 kids:p.kids=ks.map (·.blk)
 inn:∀k∈ks,qag W k
 sort:(ks.map fun k=>qad k.key).Pairwise fun a b=>cmpB a b<0
 len:ks.length<=1000
theorem qf0.below{p:Node}{ks:List Node}(h:qf0 W p ks)(hb:Below W.heap.size W W'):qf0 W' p ks:=⟨h.kids,fun k hk=>(h.inn k hk).below hb,h.sort,h.len⟩
theorem qm4{p:Node}(hP:qag W p){ks:List Node}(K:qf0 W p ks)(x:ByteArray):
  Calls prog 104 #[.pointer (some ⟨p.blk,0,none⟩),.string x] W fun e w'=>qlz (ks.map fun k=>qad k.key) (bl x) e/\w'=W:=by
 have dh:W.cell? ⟨p.blk,7,none⟩=some p.sl:=hP.cell rfl;have hk:=K.kids;have a9:p.kids.length=ks.length:=by rw[hk];simp
 obtain⟨hl,hr⟩:=hP.row
 rcases hr with ⟨hv,h0⟩|⟨g,cap,aH,hv,eQ,hg,hn,ia,hc,ht⟩
 ·have:ks=[]:=List.eq_nil_of_length_eq_zero (by omega)
  subst this;rw[hv]at dh
  exact qm3 p.blk x W dh
 ·rw[hv,a9]at dh;have fZ:(ks.map fun k=>qad k.key).length=ks.length:=by simp
  rw[<-fZ]at dh
  refine qm2 p.blk g cap p.kids (ks.map fun k=>qad k.key) x W (by simp[a9]) (by simpa using K.len) K.sort dh ?_ ?_
  ·intro j b hj;obtain⟨g',av,dd,kR⟩:=hP.kid hj;rw[hv]at dd;cases dd;exact kR
  ·intro j b n hj dp;rw[hk]at hj;simp only[xrs,Option.map_eq_some_iff]at hj dp;obtain⟨k,fY,rfl⟩:=hj;obtain⟨k',lh,rfl⟩:=dp;rw[fY]at lh;cases lh
   exact(K.inn k (xr2 fY)).name
theorem qva(hs:ns.Pairwise fun a b=>cmpB a b<0){x:Bs}{at_:Nat}(h:Found ns x at_ th)(hi:ns[i]?=some x):at_=i:=by
 obtain⟨h1,h2,h3,h4⟩:=h;have ep:=(xr0.1 hi).1;have zy:cmpB x x=0:=qdc x
 rcases Nat.lt_trichotomy at_ i with h5|h5|h5
 ·obtain⟨y,hy⟩:∃y,ns[at_]?=some y:=⟨_,xr1 (by omega)⟩;have h6:=h3 at_ y (Nat.le_refl _) hy;have h7:cmpB y x<0:=by
   have:=List.pairwise_iff_getElem.1 hs at_ i (by omega) ep h5
   rw[xr1 (by omega)]at hy;rw[xr1 ep]at hi;injection hy with e1;injection hi with e2;rw[e1,e2]at this;exact this
  omega
 ·exact h5
 ·have:=h2 i x h5 hi;omega
theorem qnc{size n:Nat}(h:W.ownsRow 0 e size v n xs):∃a c,v=.slice a n c:=by
 rcases h.2 with ⟨h1,h0⟩|⟨g,cap,aH,h1,_⟩
 ·rw[h0];exact⟨none,0,h1⟩
 ·exact⟨_,_,h1⟩
def Node.qb6(p:Node)(i:Nat)(sl:Value):Node:={p with sl:=sl,kids:=p.kids.take i++p.kids.drop (i+1)}
def Node.loose(q:Node):Node:={q with up:=none}
theorem qq0{n:Nat}{s:ByteArray}{vp:Array Value}(tG:Blk w bp 136 vp)(qI:Blk w bq 136 vq)
  (e7:vp[7]?=some (.slice (some ⟨gp,0,none⟩) n cp)) (e0:vq[0]?=some (.string s)) (e6:vq[6]?=some (.pointer (some ⟨bp,0,none⟩))) (nu:bp≠bq) (dg:gp≠bp) (jQ:gp≠bq)
  (dq:∀W,Below w.heap.size w W->Calls prog 104 #[.pointer (some ⟨bp,0,none⟩),.string s] W fun e w'=>e=.returned (.tuple #[.int .i64 i,.bool true])/\w'=W)
  (mR:∀W,Below w.heap.size w W->Calls prog 146 #[.slice (some ⟨gp,0,none⟩) n cp,.int .i64 i,.int .i64 ((i:Int)+1)] W fun e w'=>∃v',e=.returned v'/\DelR (.slice (some ⟨gp,0,none⟩) n cp) n i xs W v' w') (hn:i<n) (dH:n<=1000) :
  Calls prog 97 #[.pointer (some ⟨bq,0,none⟩)] w fun e w'=>e=.returned (.tuple #[])/\∃W W2 a c,Below w.heap.size w W/\DelR (.slice (some ⟨gp,0,none⟩) n cp) n i xs W (.slice a (n-1) c) W2/\Blk w' bp 136 (vp.setIfInBounds 7 (.slice a (n-1) c))/\Blk w' bq 136 (vq.setIfInBounds 6 (.pointer none))/\Keep (fun x=>x=bp\/x=bq) W2 w':=by
 have dU:=tG.lt;have jd:=qI.lt;have q6:w.cell? ⟨bq,6,none⟩=some (.pointer (some ⟨bp,0,none⟩)):=by rw[qI.cell 6];exact e6
 have q0:w.cell? ⟨bq,0,none⟩=some (.string s):=by rw[qI.cell 0];exact e0
 have p7:w.cell? ⟨bp,7,none⟩=some (.slice (some ⟨gp,0,none⟩) n cp):=by rw[tG.cell 7];exact e7
 have DF:∀W v' w2,Below w.heap.size w W->DelR (.slice (some ⟨gp,0,none⟩) n cp) n i xs W v' w2->(∃a c,v'=.slice a (n-1) c)/\w2.cell? ⟨bq,6,none⟩=some (.pointer (some ⟨bp,0,none⟩))/\w2.cell? ⟨bp,7,none⟩=some (.slice (some ⟨gp,0,none⟩) n cp)/\w2.frozen? ⟨bp,7,none⟩=false/\w2.frozen? ⟨bq,6,none⟩=false/\bp<w2.heap.size/\bq<w2.heap.size/\Blk w2 bp 136 vp/\Blk w2 bq 136 vq:=fun W v' w2 hW D=>by
  have b1:=(tG.below hW dU).keep D.keep (fun e=>dg (by simpa [Value.ownBlock] using e));have b2:=(qI.below hW jd).keep D.keep (fun e=>jQ (by simpa [Value.ownBlock] using e))
  exact⟨qnc D.row,by rw[b2.cell 6];exact e6,by rw[b1.cell 7];exact e7,b1.frozen 7,b2.frozen 6,b1.lt,b2.lt,b1,b2⟩
 have mU:(0:Int)<=i:=by omega
 have HX:Hid (∀W W2 a c w' kx,Below w.heap.size w W->DelR (.slice (some ⟨gp,0,none⟩) n cp) n i xs W (.slice a (n-1) c) W2->Below W2.heap.size W2 w'->Below (w'.setCell ⟨bp,7,none⟩ (.slice a (n-1) c)).heap.size (w'.setCell ⟨bp,7,none⟩ (.slice a (n-1) c)) kx->∃W W2 a c,Below w.heap.size w W/\DelR (.slice (some ⟨gp,0,none⟩) n cp) n i xs W (.slice a (n-1) c) W2/\Blk (kx.setCell ⟨bq,6,none⟩ (.pointer none)) bp 136 (vp.setIfInBounds 7 (.slice a (n-1) c))/\Blk (kx.setCell ⟨bq,6,none⟩ (.pointer none)) bq 136 (vq.setIfInBounds 6 (.pointer none))/\Keep (fun x=>x=bp\/x=bq) W2 (kx.setCell ⟨bq,6,none⟩ (.pointer none))):=fun W W2 a c w' kx hW D ck eG=>by
  obtain⟨_,_,_,_,_,l1,l2,b1,b2⟩:=DF W _ W2 hW D
  refine⟨W,W2,a,c,hW,D,?_,?_,?_⟩
  ·exact(((b1.below ck l1).set 7 (.slice a (n-1) c)).below eG (by have:=ck.size;simp[World.setCell];omega)).other _ _ nu
  ·exact(((b2.below ck l2).other ⟨bp,7,none⟩ (.slice a (n-1) c) (fun e=>nu e.symm)).below eG (by have:=ck.size;simp[World.setCell];omega)).set 6 (.pointer none)
  ·exact((((Keep.new ck).setCell (p:=⟨bp,7,none⟩) (.inl rfl) _).trans (Keep.new eG))).setCell (p:=⟨bq,6,none⟩) (.inr rfl) _
 have z_:∀W v' w2,Below w.heap.size w W->DelR (.slice (some ⟨gp,0,none⟩) n cp) n i xs W v' w2->(∃a c,v'=.slice a (n-1) c)/\w2.cell? ⟨bq,6,none⟩=some (.pointer (some ⟨bp,0,none⟩))/\w2.cell? ⟨bp,7,none⟩=some (.slice (some ⟨gp,0,none⟩) n cp)/\w2.frozen? ⟨bp,7,none⟩=false/\w2.frozen? ⟨bq,6,none⟩=false/\bp<w2.heap.size/\bq<w2.heap.size:=fun W v' w2 hW D=>by
  obtain⟨r1,r2,r3,r4,r5,r6,r7,_,_⟩:=DF W v' w2 hW D
  exact⟨r1,r2,r3,r4,r5,r6,r7⟩
 have sB:IntKind.i64.wrap ((i:Int)+1)=(i:Int)+1:=by rw[IntKind.wrap_i64];omega
 have EZ:¬(bp=bq):=nu;have E_:¬(bq=bp):=fun e=>nu e.symm
 clear DF tG qI e7 e0 e6 dg jQ nu
 go_enter func97,ntmps97
 go_wp2_with fail
 go_quiet ((go_at_call 104;exact Calls.quiet_of_same (dq _ (by exact bel2))))
 have au:Below w.heap.size w (w.drewN nq):=xrm (Below.refl _ _) _;generalize w.drewN nq=W1 at au ⊢;clear dq q0;have dz:=au.size;have q6:=(au.cell (p:=⟨bq,6,none⟩) jd).trans q6;have p7:=(au.cell (p:=⟨bp,7,none⟩) dU).trans p7
 go_wp2_with fail
 go_region_with
  (first
  |(go_at_call 146;refine(mR _ (by exact bel2)).mono ?_;rintro e w2 ⟨v2,rfl,D⟩;obtain⟨⟨a2,c2,et⟩,y6,y7,y8,y9,F4,F5⟩:=z_ _ _ _ (by exact bel2) D;subst et))
 all_goals go_wp2_with fail
 all_goals go_end0
 all_goals exact⟨rfl,HX.out _ _ _ _ _ _ (by exact bel2) D (Below.refl _ _) (Below.refl _ _)⟩
theorem qmx{p:Node}(hP:qag w p)(hQ:qag w q){ks:List Node}(K:qf0 w p ks)(hi:ks[i]?=some q)(di:q.up=some p.blk)(nu:p.blk≠q.blk)(dg:p.sl.ownBlock≠some p.blk)(jQ:p.sl.ownBlock≠some q.blk)(lD:q.sl.ownBlock≠some q.blk)(xh:q.sl.ownBlock≠some p.blk)(t_:∀g,p.sl.ownBlock=some g->q.sl.ownBlock≠some g):
  Calls prog 97 #[.pointer (some ⟨q.blk,0,none⟩)] w fun e w'=>e=.returned (.tuple #[])/\∃sl,sl.ownBlock=p.sl.ownBlock/\qag w' (p.qb6 i sl)/\qag w' q.loose/\Keep (fun x=>x=p.blk\/x=q.blk\/p.sl.ownBlock=some x) w w':=by
 have ep:=(xr0.1 hi).1;have fO:p.kids.length=ks.length:=by rw[K.kids];simp
 have dq:∀W,Below w.heap.size w W->Calls prog 104 #[.pointer (some ⟨p.blk,0,none⟩),.string (sb (qad q.key))] W fun e w'=>e=.returned (.tuple #[.int .i64 i,.bool true])/\w'=W:=fun W hW=>(qm4 (hP.below hW) (K.below hW) (sb (qad q.key))).mono fun e w' hp=>by
  obtain⟨⟨at_,th,rfl,hF⟩,rfl⟩:=hp;rw[qbs]at hF;have mh:(ks.map fun k=>qad k.key)[i]?=some (qad q.key):=by rw[xrs,hi];rfl
  have:at_=i:=qva K.sort hF mh
  subst this
  have:th=true:=hF.2.2.2.2 mh
  subst this
  exact⟨rfl,rfl⟩
 have mR:=fun W (hW:Below w.heap.size w W)=>qon (qaf (T:=fun _=>False) hP.row (Keep.new hW) (fun _ _ h=>h)) (by have:=K.len;omega) (by omega:i<p.kids.length) (fun u hu=>by obtain⟨x,_,rfl⟩:=xrq.1 hu;rfl)
 obtain⟨gp,cp,dh,_,_⟩:=qa9 hP.row (by omega);rw[dh]at mR dg jQ t_ ⊢;have a9:=K.len
 refine(qq0 (vp:=p.cells) (vq:=q.cells) (gp:=gp) (cp:=cp) (n:=p.kids.length) (s:=sb (qad q.key)) (xs:=p.kids.map nptr) hP.at_ hQ.at_ (by simp[Node.cells,dh]) (by simp[Node.cells]) (by simp[Node.cells,di,uptr]) nu (fun e=>dg (by rw[e];rfl)) (fun e=>jQ (by rw[e];rfl)) dq mR (by omega) (by omega)).mono fun e w' hp=>?_
 obtain⟨rfl,W,W2,a,c,hW,D,b1,b2,hk⟩:=hp;have lk:Keep (fun x=>x=p.blk\/x=q.blk\/(Value.slice (some ⟨gp,0,none⟩) p.kids.length cp).ownBlock=some x) w w':=((Keep.new hW).trans (D.keep.mono (fun x e=>.inr (.inr e)))).trans (hk.mono (fun x e=>e.elim (fun e=>.inl e) (fun e=>.inr (.inl e))))
 refine⟨rfl,.slice a (p.kids.length-1) c,D.own,⟨?_,?_⟩,⟨?_,?_⟩,lk⟩
 ·refine b1.trans ?_
  simp[Node.cells,Node.qb6]
 ·have aW:¬((Value.slice a (p.kids.length-1) c).ownBlock=some p.blk):=by rw[D.own];exact dg
  have rM:¬((Value.slice a (p.kids.length-1) c).ownBlock=some q.blk):=by rw[D.own];exact jQ
  have:=qaf D.row hk (fun g hg e=>by
   rcases e with e|e
   ·exact aW (by rw[hg,e])
   ·exact rM (by rw[hg,e]))
  have el:(p.qb6 i (.slice a (p.kids.length-1) c)).kids.length=p.kids.length-1:=by simp[Node.qb6];omega
  rw[el]
  simpa [Node.qb6,List.map_take,List.map_drop] using this
 ·refine b2.trans ?_
  simp[Node.cells,Node.loose,uptr]
 ·refine qaf hQ.row lk (fun g hg e=>?_)
  have hg:q.sl.ownBlock=some g:=hg
  rcases e with e|e|e
  ·exact xh (by rw[hg,e])
  ·exact lD (by rw[hg,e])
  ·exact t_ g e hg
end
end Go.Proofs.YtphclnolomgjoaaGreatDoor
