import Derived.Test.YtphclnolomgjoaaGreatDoorG18
set_option linter.unusedVariables false
set_option linter.unusedSimpArgs false
set_option maxRecDepth 100000
set_option maxHeartbeats 4000000
namespace Go.Proofs.YtphclnolomgjoaaGreatDoor
open Tryz
section
open Go.RowKit Go.Shelf
variable {nodes:List Node}{r:Node}
attribute [local go_sem] Oper.semAt_some
theorem qse(T:Tree nodes)(hr:r∈nodes)(s:ByteArray)(hs:s.size<=2000000)(w:World)(hN:∀n∈nodes,qaf w n):
  Calls prog 63 #[nptr r.blk,.string s] w fun e w'=>qox nodes (r.key++qab (bl s)) e/\Below w.heap.size w w':=by
 have bu:∀k:Nat,Fence.wide.depth.isSome=true->1<=k:=fun k h=>by simp[Fence.wide]at h
 refine(xrv (n:=3)).1 ?_
 refine callsIn_of_wp_marks func63 rfl trivial ?_ rfl
 unfold nptr;simp only[ntmps63,List.size_toArray,List.length_cons,List.length_nil,Nat.reduceAdd,Nat.reduceSub,Array.replicate_succ,Array.replicate_zero,List.push_toArray,List.append_toArray,List.nil_append,List.cons_append]
 gi_wp2_with ((first|refine⟨trivial,bu _,?_⟩|refine⟨trivial,?_⟩);gi_at_call 102;refine(xrv.2 (qjd s hs _)).mono ?_;rintro e W ⟨gf,lb,rfl,eg,hb,aB⟩)
 have eL:w.heap.size+2<=W.heap.size:=by have:=hb.size;simp at this;omega
 obtain⟨S,hS,hq⟩:=aB (fun b=>(b=w.heap.size\/b=w.heap.size+1)\/W.heap.size<=b) (fun b h1 h2 h=>by simp at h1;omega);have o6:Box W w.heap.size 97 (.pointer none):=((Box.new w 97 _).alloc _).below hb (by simp<;>omega);have o7:Box W (w.heap.size+1) 97 (.pointer (some ⟨r.blk,0,none⟩)):=by
  have:=Box.new (w.alloc (.cells #[.pointer none] 97)) 97 (.pointer (some ⟨r.blk,0,none⟩))
  rw[xrt]at this
  exact this.below hb (by simp)
 have b_:Below w.heap.size w W:=qac (((Below.refl _ _).alloc (Nat.le_refl _) _).alloc (by simp) _) hb;clear aB hb;have iH:∀b,b<=w.heap.size+1->¬(S b\/W.heap.size<=b):=fun b bg h=>by
  rcases h with h|h
  ·have h1:=(hS _ h).1;simp at h1;omega
  ·omega
 refine qfp (T:=fun b=>b=w.heap.size\/b=w.heap.size+1) rfl eg hq (Below.refl _ _) rfl (fun b h=>(hS b h).2) (fun b h=>by omega)
  (fun pre A=>(∃n∈nodes,n.key=r.key++pre/\Box A (w.heap.size+1) 97 (.pointer (some ⟨n.blk,0,none⟩)))/\Box A w.heap.size 97 (.pointer none)/\Below w.heap.size w A)
  (fun c pre A=>c=.ret/\(∀n∈nodes,n.key≠r.key++qab (bl s))/\Box A w.heap.size 97 (.pointer none)/\Below w.heap.size w A)
  (fun pre A B hs hk=>⟨by obtain⟨n,h1,h2,h3⟩:=hs.1;exact⟨n,h1,h2,h3.keep hk (iH _ (Nat.le_refl _))⟩,hs.2.1.keep hk (iH _ (by omega)),hs.2.2.trans (hk.toBelow hs.2.2.size (fun b bg=>iH b (by omega)))⟩)
  (fun c pre A B hs hk=>⟨hs.1,hs.2.1,hs.2.2.1.keep hk (iH _ (by omega)),hs.2.2.2.trans (hk.toBelow hs.2.2.2.size (fun b bg=>iH b (by omega)))⟩)
  ⟨⟨r,hr,by simp,o7⟩,o6,b_⟩
  (fun x=>{tmps:=#[.pointer (some ⟨r.blk,0,none⟩),.string s,undef,undef,.pointer (some ⟨w.heap.size,0,none⟩),.pointer (some ⟨w.heap.size+1,0,none⟩),.string (sb x),undef,undef,
   .pointer (some ⟨r.blk,0,none⟩),.string s,.func (.func gf) #[] lb,.string (sb x),undef,undef,undef,undef,undef,undef,undef,undef,undef,undef,undef,undef,undef,undef,undef,undef],defers:=[]}) ?assign ?body ?done ?stop
 case assign =>
  intro l x W K hK
  gi_wp2
  exact hK
 case body =>
  rintro l pre x W2 ⟨⟨n,hn,bR,cV⟩,bD,ah⟩ df ax
  have vf:∀n∈nodes,qaf W2 n:=fun n hn=>(hN n hn).below ah
  have oR:=qsw T hn x W2 vf;have nE:=bD.cell;have ri:=bD.frozen;have tG:=cV.cell;have vZ:=cV.frozen
  gi_wp2_with ((first|refine⟨trivial,bu _,?_⟩|refine⟨trivial,?_⟩);gi_at_call 104;refine(CallsIn.inRound l (xrv.2 oR)).mono ?_;rintro e w' ⟨(⟨at_,k,g,cap,rfl,cd,aY,bW,gJ,gK⟩|⟨at_,rfl,aA⟩),rfl⟩)
  ·refine⟨(Keep.refl (fun b=>b=w.heap.size\/b=w.heap.size+1) _).setCell (p:=⟨w.heap.size+1,0,none⟩) (.inr rfl) _,⟨k,cd,by rw[aY,bR,List.append_assoc],cV.set _⟩,bD.other _ _ (by simp),ah.setCell (by simp) _⟩
  ·refine⟨(Keep.refl (fun b=>b=w.heap.size\/b=w.heap.size+1) _).setCell (p:=⟨w.heap.size,0,none⟩) (.inl rfl) _,rfl,aA _ (by rw[bR,List.append_assoc];exact(List.prefix_append_right_inj _).2 ax),bD.set _,ah.setCell (Nat.le_refl _) _⟩
 case done =>
  rintro A ⟨⟨n,hn,bR,cV⟩,bD,ah⟩ hD
  have nE:=bD.cell;have ri:=bD.frozen;have tG:=cV.cell;have vZ:=cV.frozen
  gi_wp2
  have fV:(A.setCell ⟨w.heap.size,0,none⟩ (.pointer (some ⟨n.blk,0,none⟩))).heap[W.heap.size]?=some (.deferred (some [])):=(Below.heap_setCell _ _ _ _ (by simp;omega)).trans hD;have ag:=((bD.set (.pointer (some ⟨n.blk,0,none⟩))).put W.heap.size (.deferred none) (by omega)).cell
  refine⟨by simp,.inl ⟨_,_,rfl,run_takeDeferred fV,?_⟩⟩
  refine⟨.pointer (some ⟨n.blk,0,none⟩),by simp[results,results127,go_sem,ag],.inl ⟨n,hn,bR,rfl⟩,qa0 (ah.setCell (Nat.le_refl _) _) _ _ (by omega)⟩
 case stop =>
  rintro c pre A ax ⟨rfl,hv,bD,ah⟩ hD
  gi_wp2
  have ag:=(bD.put W.heap.size (.deferred none) (by omega)).cell
  refine⟨by simp,.inl ⟨_,_,rfl,run_takeDeferred hD,?_⟩⟩
  refine⟨.pointer none,by simp[results,results127,go_sem,ag],.inr ⟨hv,rfl⟩,qa0 ah _ _ (by omega)⟩
end
section
open Go.RowKit
variable {B gb:Nat}{W w w1:World}
theorem qo1(hB:B<=w.heap.size)(h:Below B w W)(hb:Below W.heap.size W w1):Below B w w1:=h.trans (hb.mono (Nat.le_trans hB h.size))
theorem qif(first:ByteArray)(v:Value)(l:List ByteArray)(df:∀s∈l,s.size<=2000000)(hl:l.length<=100)(w:World)(mz:B<=w.heap.size)
  (cy:∃v' w',(∀ty,(Builtin.append_ #[46,46] ty #[v,.slice (some ⟨w.heap.size,0,none⟩) 1 1]).run prog (w.alloc (.cells #[.string first] 9))=.ok v' w')/\∃g cap,v'=.slice (some ⟨g,0,none⟩) l.length cap/\l.length<=cap/\cap<=maxLen/\g<w'.heap.size/\Below B w w'/\∀(k:Nat) s,l[k]?=some s->w'.cell? ⟨g,k,none⟩=some (.string s)) :
  Calls prog 132 #[.string first,v] w fun e w'=>e=.returned (.int .i64 (errP (l.map bl) (bl first)))/\Below B w w':=by
 have a9:=fun s (hs:s∈l) W=>qhc s (df s hs) W
 obtain⟨n,hn⟩:∃n,n=l.length:=⟨_,rfl⟩;rw[<-hn]at cy hl;have HN:Hid (n=l.length):=hn;clear hn
 go_enter func132,ntmps132
 go_wp2_with (at_builtin;refine qbc (by rfl) _ _ _ _ rfl _ _ rfl (by rfl) cy ?_;rintro v1 w1 ⟨g1,q1,rfl,dS,gR,mQ,au,bj⟩)
 clear cy
 go_loopw [12] (fun i wr=>∃k:Nat,k<=n/\i=.int .i64 k/\((l.map bl).take k).all qas=true/\Below w1.heap.size w1 wr) (fun i _=>n-(intOf i).toNat)
 case atStart=>exact⟨0,Nat.zero_le _,rfl,rfl,Below.refl _ _⟩
 case round =>
  obtain⟨k,hk,rfl,aC,ah⟩:=hrel;have HA:Hid (((l.map bl).take k).all qas=true):=aC;clear aC
  by_cases an:k<n
  ·have bM:k<l.length:=by rw[<-HN.out];exact an
   obtain⟨s,hs⟩:∃s,l[k]?=some s:=⟨_,xr1 bM⟩;have hc:=(ah.cell (p:=⟨g1,k,none⟩) mQ).trans (bj k s hs);have hv:=a9 s (xr2 hs);have HT:Hid ((l.map bl).take (k+1)=(l.map bl).take k++[bl s]):=by
    show _=_
    rw[xrf (by simpa using bM)];rw[xr1 bM]at hs;cases hs;simp
   have HM:Hid (bl s∈l.map bl):=xrq.2 ⟨s,xr2 hs,rfl⟩;clear hs bj a9;have jH:(k:Int)<n:=by omega
   have eV:(0:Int)<=k:=by omega
   cases cT:qas (bl s)
   ·rw[cT]at hv
    go_wp2_with (go_at_call 62;refine(hv _).mono ?_;rintro e w2 ⟨rfl,ag⟩)
    go_ret
    have h1:errP (l.map bl) (bl first)=1:=by
     unfold errP
     exact if_pos (List.all_eq_false.2 ⟨_,HM.out,by simp[cT]⟩)
    exact⟨by rw[h1];rfl,qo1 mz (qo1 mz au ah) ag⟩
   ·rw[cT]at hv
    go_wp2_with (go_at_call 62;refine(hv _).mono ?_;rintro e w2 ⟨rfl,ag⟩)
    refine⟨⟨k+1,by omega,by go_num,?_,qac ah ag⟩,by simp[intOf];omega⟩
    rw[HT.out,List.all_append,HA.out]
    simp[cT]
  ·have aC:(l.map bl).all qas=true:=by
    have:=HA.out
    rwa[xrd (by simp;have:=HN.out;omega)]at this
   have HF:Hid (errP (l.map bl) (bl first)=if bl first=[] then 2 else 0):=by
    show _=_
    unfold errP;rw[aC];simp
   clear aC HA bj a9
   by_cases h0:bl first=[]
   ·have hz:first=⟨#[]⟩:=qea (h0.trans qhy.symm);have h1:errP (l.map bl) (bl first)=2:=by rw[HF.out,if_pos h0]
    subst hz;have H1:Hid (errP (l.map bl) (bl ⟨#[]⟩)=2):=h1;clear h1 HF h0
    go_wp2
    go_ret
    exact⟨by rw[H1.out];rfl,qo1 mz au ah⟩
   ·have hq:(first.toList.isEmpty)=false:=by rw[qb3];simpa using h0
    have h1:errP (l.map bl) (bl first)=0:=by rw[HF.out,if_neg h0]
    have H1:Hid (errP (l.map bl) (bl first)=0):=h1;clear h1 HF h0
    go_wp2
    go_ret
    exact⟨by rw[H1.out];rfl,qo1 mz au ah⟩
theorem qjk(first other:ByteArray)(hs:first.size<=2000000)(dU:other.size<=2000000)(hB:B<=gb)(db:Blk w gb 9 #[.string other]):
  Calls prog 132 #[.string first,.slice (some ⟨gb,0,none⟩) 1 1] w fun e w'=>e=.returned (.int .i64 (errP [bl other,bl first] (bl first)))/\Below B w w':=by
 have bK:=db.lt
 refine qif first (.slice (some ⟨gb,0,none⟩) 1 1) [other,first] (fun s h=>by simp at h;rcases h with rfl|rfl<;>assumption) (by simp) w (by omega) ?_
 have hb:Blk (w.alloc (.cells #[.string first] 9)) w.heap.size 9 #[.string first]:=Blk.new w 9 _;have aa:Blk (w.alloc (.cells #[.string first] 9)) gb 9 #[.string other]:=db.alloc _;have aS:(w.alloc (.cells #[.string first] 9)).ownsRow 0 9 1 (.slice (some ⟨gb,0,none⟩) 1 1) 1 [.string other] :=
  ⟨rfl,.inr ⟨gb,1,_,rfl,Nat.zero_le _,aa,Nat.le_refl _,by unfold maxLen;omega,rfl,rfl⟩⟩
 obtain⟨v',w',hr,g,cap,rfl,R⟩:=qey qzn inf9 (by omega) (w.alloc (.cells #[.string first] 9)) (.slice (some ⟨gb,0,none⟩) 1 1) 1 [.string other] aS w.heap.size 1 1 (by omega) [.string first] rfl hb (fun u hu=>by simp at hu;subst hu;rfl) (by unfold maxLen;omega) (by omega)
 refine⟨_,w',hr,g,cap,rfl,R.le,R.mx,qar R.own rfl,?_,fun k s hk=>?_⟩
 ·have hk:=R.keep;have h0:Below B w (w.alloc (.cells #[.string first] 9)):=((Below.refl _ _).alloc (by omega) _)
  exact h0.trans ⟨hk.os,hk.tape,hk.output,hk.size,fun k cd=>hk.block k (by simp;omega) (by simp[Value.ownBlock];omega)⟩
 ·have:=R.own.cells (g:=g) rfl k (.string s) (by
   cases k with
   |zero=>simp at hk;subst hk;rfl
   |succ k =>
    cases k with
    |zero=>simp at hk;subst hk;rfl
    |succ k=>simp at hk)
  rwa[Addr.add_lit,Nat.zero_add]at this
end
section
open Go.RowKit Go.Shelf
variable {W w:World}{nodes:List Node}{bt:Nat}{r:Node}{ai va vw:Value}{as_ ws:List Pw}
attribute [local go_sem] Oper.semAt_some
def okQ (nodes:List Node)(l:List Pw)(m:Node):Bool:=(abv (ws0 (pun l m.key)) (pn0 nodes m.key+m.b0) == 0)&&(abv (ws1 (pun l m.key)) (pn1 nodes m.key+m.b1) == 0)
def qcn (nodes:List Node)(l:List Pw):Int:=if nodes.all (okQ nodes l) then 0 else 11
theorem qoz{α : Type}{l l':List α}(h:l.Perm l')(f : α -> Bool):l.all f=l'.all f:=by
 rw[Bool.eq_iff_iff,List.all_eq_true,List.all_eq_true]
 exact⟨fun k x hx=>k x (h.mem_iff.2 hx),fun k x hx=>k x (h.mem_iff.1 hx)⟩
theorem TwAt.qzp(h:TwAt W nodes bt r ai vw va ws as_)(k:List Bs):(0<=ws0 (pun as_ k)/\ws0 (pun as_ k)<=24000)/\(0<=ws1 (pun as_ k)/\ws1 (pun as_ k)<=24000):=by
 have hl:as_.length<=24:=by have:=h.bk.len;omega
 have bI:=fun p hp=>h.nm p (xra _ hp)
 exact qth bI hl k
theorem qd2(T:Tree nodes)(hB:qa2 nodes)(h:TwAt w nodes bt r ai vw va ws as_)(hr:r∈nodes)(a_:r.key=[]):
  Calls prog 141 #[.pointer (some ⟨bt,0,none⟩)] w fun e w'=>e=.returned (.int .i64 (qcn nodes as_))/\Below w.heap.size w w':=by
 obtain⟨ch,K⟩:=T.ch;have bu:∀k:Nat,Fence.wide.depth.isSome=true->1<=k:=fun k h=>by simp[Fence.wide]at h
 have aC:∀W,(∀n∈nodes,qaf W n)->_:=fun W hW=>qit T K hr W hW
 have af:=qk7 K 4 r hr;have aN:(dfs ch 4 r).Perm nodes:=by
  have:=qez T K T.nd hr
  have e:(nodes.filter fun m=>r.key.isPrefixOf m.key)=nodes:=List.filter_eq_self.2 (fun _ _=>by rw[a_];rfl);rw[e]at this
  exact this
 have kP:qcn nodes as_=if (dfs ch 4 r).all (okQ nodes as_) then 0 else 11:=by unfold qcn;rw[qoz aN]
 have ic:=fun W (hW:Below w.heap.size w W) m (hm:m∈nodes)=>qhv T hB W (h.below hW).ins bt (va:=va) (l:=as_) (by have:=(h.below hW).bk.at_.cell 3;simpa using this) (h.below hW).pws hm
 have fP:=fun W (hW:Below w.heap.size w W) m (hm:m∈nodes)=>qkm T hm W (h.below hW).ins
 have gY:=fun W m (hm:m∈nodes)=>by
  have u:=h.qzp m.key;have q:=qna T m.key;have b:=T.num m hm
  exact qgj (ws0 (pun as_ m.key)) (ws1 (pun as_ m.key)) (pn0 nodes m.key+m.b0) (pn1 nodes m.key+m.b1) W (by omega) (by omega) (by omega) (by omega) (by omega) (by omega) (by omega) (by omega)
 have cC:w.cell? ⟨bt,0,none⟩=some (.pointer (some ⟨r.blk,0,none⟩)):=by have:=h.bk.at_.cell 0;simpa [nptr] using this
 have dB:=h.bk.at_.lt;have hN:=h.ins;generalize dfs ch 4 r=X at aC af kP aN;generalize qcn nodes as_=eo at kP ⊢;have HE:Hid ((X.all (okQ nodes as_)=true->eo=0)/\(X.all (okQ nodes as_)=false->eo=11)):=⟨fun h=>by rw[kP,h];rfl,fun h=>by rw[kP,h];rfl⟩;clear kP aN
 refine(xrv (n:=3)).1 ?_
 refine callsIn_of_wp_marks func141 rfl trivial ?_ rfl
 unfold nptr at aC ic fP;have e1:¬(bt=w.heap.size):=by omega
 have e3:¬(bt=w.heap.size+1):=by omega
 simp only[ntmps141,List.size_toArray,List.length_cons,List.length_nil,Nat.reduceAdd,Nat.reduceSub,Array.replicate_succ,Array.replicate_zero,List.push_toArray,List.append_toArray,List.nil_append,List.cons_append]
 gi_wp2_with ((first|refine⟨trivial,bu _,?_⟩|refine⟨trivial,?_⟩);gi_at_call 101;refine(xrv.2 (aC _ (fun n hn=>(hN n hn).below (by exact bel1)))).mono ?_;rintro e W ⟨rfl,rfl,aB⟩)
 obtain⟨W,hW⟩:∃W,W=((w.alloc (.cells #[.pointer (some ⟨bt,0,none⟩)] 45)).alloc (.cells #[.int .i64 0] 53)).alloc (.cells #[.pointer (some ⟨r.blk,0,none⟩)] 97):=⟨_,rfl⟩;have df:W.heap.size=w.heap.size+3:=by rw[hW];simp
 have e2:((w.alloc (.cells #[.pointer (some ⟨bt,0,none⟩)] 45)).alloc (.cells #[.int .i64 0] 53)).heap.size=w.heap.size+1+1:=by simp
 have ag:Box W w.heap.size 45 (.pointer (some ⟨bt,0,none⟩)):=by rw[hW];exact((Box.new w 45 _).alloc _).alloc _
 have aM:Box W (w.heap.size+1) 53 (.int .i64 0):=by
  rw[hW];have:=Box.new (w.alloc (.cells #[.pointer (some ⟨bt,0,none⟩)] 45)) 53 (.int .i64 0);rw[xrt]at this;exact this.alloc _
 have b_:Below w.heap.size w W:=by rw[hW];exact bel1
 rw[e2]at aB;simp only[<-hW]at aB ⊢;have hq:=aB (fun b=>b=w.heap.size+1\/W.heap.size<=b) (fun k hk=>⟨fun h=>by have:=(hN k hk).lt;omega,fun g hg h=>by have:=((hN k hk).row.lt g hg).2;omega⟩);clear aB aC e2 hW;have aA:∀b,b<W.heap.size->¬(False\/W.heap.size<=b):=fun b hb e=>by rcases e with e|e;exact e;omega
 refine qfp (T:=fun b=>b=w.heap.size+1) (S:=fun _=>False) rfl (enters_of func149 (by kernel_rfl) rfl) hq (Below.refl _ _) rfl (fun b h=>h.elim) (fun b h=>by omega)
  (fun pre A=>pre.all (okQ nodes as_)=true/\Box A w.heap.size 45 (.pointer (some ⟨bt,0,none⟩))/\Box A (w.heap.size+1) 53 (.int .i64 0)/\Below w.heap.size w A)
  (fun c pre A=>c=.ret/\pre.all (okQ nodes as_)=false/\Box A (w.heap.size+1) 53 (.int .i64 11)/\Below w.heap.size w A)
  (fun pre A B hs hk=>⟨hs.1,hs.2.1.keep hk (aA _ (by omega)),hs.2.2.1.keep hk (aA _ (by omega)),hs.2.2.2.trans (hk.toBelow hs.2.2.2.size (fun b bg=>aA b (by omega)))⟩)
  (fun c pre A B hs hk=>⟨hs.1,hs.2.1,hs.2.2.1.keep hk (aA _ (by omega)),hs.2.2.2.trans (hk.toBelow hs.2.2.2.size (fun b bg=>aA b (by omega)))⟩)
  ⟨rfl,ag,aM,b_⟩
  (fun x=>{tmps:=#[.pointer (some ⟨bt,0,none⟩),.pointer (some ⟨w.heap.size,0,none⟩),.pointer (some ⟨w.heap.size+1,0,none⟩),.pointer (some ⟨x.blk,0,none⟩),.pointer (some ⟨bt,0,none⟩),.pointer (some ⟨bt,0,none⟩),.pointer (some ⟨bt,0,none⟩),.pointer (some ⟨r.blk,0,none⟩),
   .func (.func 149) #[] #[.pointer (some ⟨w.heap.size+1+1,0,none⟩)],.pointer (some ⟨x.blk,0,none⟩),undef,undef,undef,undef,undef,undef,undef,undef,undef,undef],defers:=[]}) ?assign ?body ?done ?stop
 case assign =>
  intro l x W K hK
  gi_wp2
  exact hK
 case body =>
  rintro l2 pre x W2 ⟨da,ey,bX,ah⟩ eL ax
  have bZ:x∈nodes:=af x (ax.subset (by simp));have c2:=ey.cell;have c3:=bX.cell;have f3:=bX.frozen;have hu:=fun W hW=>ic W hW x bZ
  have hl:=fun W hW=>fP W hW x bZ
  have hv:=fun W=>gY W x bZ
  have eZ:=fun W=>qvk (abv (ws0 (pun as_ x.key)) (pn0 nodes x.key+x.b0)) (abv (ws1 (pun as_ x.key)) (pn1 nodes x.key+x.b1)) 0 0 W
  have qh:Hid (pre.all (okQ nodes as_)=true):=da;have jm:Hid (okQ nodes as_ x=((abv (ws0 (pun as_ x.key)) (pn0 nodes x.key+x.b0) == 0)&&(abv (ws1 (pun as_ x.key)) (pn1 nodes x.key+x.b1) == 0))):=rfl;clear da ic fP gY hq;generalize abv (ws0 (pun as_ x.key)) (pn0 nodes x.key+x.b0)=s0 at *;generalize abv (ws1 (pun as_ x.key)) (pn1 nodes x.key+x.b1)=s1 at *;generalize ws0 (pun as_ x.key)=u0 at *;generalize ws1 (pun as_ x.key)=u1 at *;generalize pn0 nodes x.key+x.b0=m0 at *;generalize pn1 nodes x.key+x.b1=m1 at *;generalize ik:(s0 == 0&&s1 == 0)=bv at jm eZ;clear ik
  cases bv
  ·gi_wp2_with ((first|refine⟨trivial,bu _,?_⟩|refine⟨trivial,?_⟩);first
    |(gi_at_call 106;refine(CallsIn.inRound l2 (xrv.2 (hu _ (by exact bel2)))).mono ?_;rintro e w3 ⟨rfl,eD⟩;have bE:Below w.heap.size w w3:=qac ah eD)
    |(gi_at_call 190;refine(CallsIn.inRound l2 (xrv.2 (hl _ bE))).mono ?_;rintro e w4 ⟨rfl,qQ⟩;have dO:Below w.heap.size w w4:=qac bE qQ)
    |(gi_at_call 189;refine(CallsIn.inRound l2 (xrv.2 (hv _))).mono ?_;rintro e w5 ⟨rfl,qR⟩;have dC:Below w.heap.size w w5:=qac dO qR;have gK:Below W2.heap.size W2 w5:=qac (qac eD qQ) qR;have k3:=bX.below gK bX.lt;have q3:=k3.cell;have g3:=k3.frozen))
   refine⟨(Keep.new (T:=fun b=>b=w.heap.size+1) gK).setCell (p:=⟨w.heap.size+1,0,none⟩) rfl _,rfl,?_,k3.set _,dC.setCell (by simp) _⟩
   rw[List.all_append,qh.out]
   simp[jm.out]
  ·gi_wp2_with ((first|refine⟨trivial,bu _,?_⟩|refine⟨trivial,?_⟩);first
    |(gi_at_call 106;refine(CallsIn.inRound l2 (xrv.2 (hu _ (by exact bel2)))).mono ?_;rintro e w3 ⟨rfl,eD⟩;have bE:Below w.heap.size w w3:=qac ah eD)
    |(gi_at_call 190;refine(CallsIn.inRound l2 (xrv.2 (hl _ bE))).mono ?_;rintro e w4 ⟨rfl,qQ⟩;have dO:Below w.heap.size w w4:=qac bE qQ)
    |(gi_at_call 189;refine(CallsIn.inRound l2 (xrv.2 (hv _))).mono ?_;rintro e w5 ⟨rfl,qR⟩;have dC:Below w.heap.size w w5:=qac dO qR;have gK:Below W2.heap.size W2 w5:=qac (qac eD qQ) qR;have k3:=bX.below gK bX.lt;have k2:=ey.below gK ey.lt))
   refine⟨Keep.new gK,?_,k2,k3,dC⟩
   rw[List.all_append,qh.out]
   simp[jm.out]
 case done =>
  rintro A ⟨da,ey,bX,ah⟩ hD
  have hc:=bX.cell;have hf:=bX.frozen
  gi_wp2
  have fV:(A.setCell ⟨w.heap.size+1,0,none⟩ (.int .i64 0)).heap[W.heap.size]?=some (.deferred (some [])):=(Below.heap_setCell _ _ _ _ (by simp;omega)).trans hD;have ag:=((bX.set (.int .i64 0)).put W.heap.size (.deferred none) (by omega)).cell
  refine⟨by simp,.inl ⟨_,_,rfl,run_takeDeferred fV,?_⟩⟩
  exact⟨.int .i64 0,by simp[results,results141,go_sem,ag],by rw[HE.out.1 da],qa0 (ah.setCell (by simp) _) _ _ (by omega)⟩
 case stop =>
  rintro c pre A ax ⟨rfl,hv,bX,ah⟩ hD
  gi_wp2
  have ag:=(bX.put W.heap.size (.deferred none) (by omega)).cell
  refine⟨by simp,.inl ⟨_,_,rfl,run_takeDeferred hD,?_⟩⟩
  have hX:X.all (okQ nodes as_)=false:=by
   rw[List.all_eq_false]at hv ⊢;obtain⟨y,hy,jW⟩:=hv
   exact⟨y,ax.subset hy,jW⟩
  exact⟨.int .i64 11,by simp[results,results141,go_sem,ag],by rw[HE.out.2 hX],qa0 ah _ _ (by omega)⟩
end
section
open Go.RowKit
variable {nodes:List Node}{n q tq:Node}{W W' w:World}{bp bq cap cp gp i:Nat}{xs:List Value}{v:Value}{ns:List Bs}{th:Bool}{e:TypeId}{vq:Array Value}
theorem qp6(T:Tree nodes)(hn:n∈nodes)(w:World)(hN:∀n∈nodes,qaf w n):
  Calls prog 192 #[.pointer (some ⟨n.blk,0,none⟩)] w fun e w'=>e=.returned (.int .i64 n.key.length)/\Below w.heap.size w w':=by
 have hp:=qil T _ n hn rfl w hN;have hk:=(T.ok n hn).1;have hj:=qi5 _ hk;have h4:=(T.ok n hn).2;have hd:=fun W=>qmb (sb (qaa n.key)) W (by rw[qcp];omega)
 have e:qeq (bl (sb (qaa n.key)))=n.key.length:=by unfold qeq;rw[qb2,qbf hk]
 rw[e]at hd;unfold nptr at hp
 go_enter func192,ntmps192
 go_wp2_with (first
  |(go_at_call 47;refine hp.mono ?_;rintro e w1 ⟨rfl,aa⟩)
  |(go_at_call 134;refine(hd _).mono ?_;rintro e w2 ⟨rfl,eG⟩;subst eG))
 go_ret
 exact⟨rfl,aa⟩
def okD (sh:Int)(m:Node):Bool:=!decide ((m.key.length:Int)+sh>4)
theorem qnl(T:Tree nodes)(hN:∀n∈nodes,qaf w n)(hq:q∈nodes)(ht:tq∈nodes):
  Calls prog 143 #[.pointer (some ⟨q.blk,0,none⟩),.pointer (some ⟨tq.blk,0,none⟩)] w fun e w'=>e=.returned (.bool (!(nodes.filter fun m=>q.key.isPrefixOf m.key).all (okD ((tq.key.length:Int)+1-q.key.length))))/\Below w.heap.size w w':=by
 obtain⟨ch,K⟩:=T.ch;have bu:∀k:Nat,Fence.wide.depth.isSome=true->1<=k:=fun k h=>by simp[Fence.wide]at h
 have aC:∀W,(∀n∈nodes,qaf W n)->_:=fun W hW=>qit T K hq W hW
 have af:=qk7 K 4 q hq;have aN:=qez T K T.nd hq;have fw:=fun W (hW:Below w.heap.size w W) m (hm:m∈nodes)=>qp6 T hm W (fun n hn=>(hN n hn).below hW)
 have oE:=fw;have fO:=fun m (hm:m∈nodes)=>(T.ok m hm).2
 have rI:=fO q hq;have an:=fO tq ht;rw[<-qoz aN];generalize dfs ch 4 q=X at aC af aN ⊢;clear aN;generalize fl:((tq.key.length:Int)+1-q.key.length)=sh;have sj : -4<=sh/\sh<=5:=by omega
 have vW:=fun W hW=>fw W hW tq ht
 have vV:=fun W hW=>fw W hW q hq
 obtain⟨lt,eX⟩:∃l:Nat,l=tq.key.length:=⟨_,rfl⟩;obtain⟨lq,rJ⟩:∃l:Nat,l=q.key.length:=⟨_,rfl⟩;rw[<-eX]at fl an vW;rw[<-rJ]at fl rI vV;generalize heo:(!X.all (okD sh))=eo;have HE:Hid ((X.all (okD sh)=true->eo=false)/\(X.all (okD sh)=false->eo=true)):=⟨fun h=>by rw[<-heo,h];rfl,fun h=>by rw[<-heo,h];rfl⟩;clear heo eX rJ oE;have w1:IntKind.i64.wrap ((lt:Int)+1)=(lt:Int)+1:=by rw[IntKind.wrap_i64];omega
 have w2:IntKind.i64.wrap ((lt:Int)+1-lq)=sh:=by rw[IntKind.wrap_i64];omega
 refine(xrv (n:=3)).1 ?_
 refine callsIn_of_wp_marks func143 rfl trivial ?_ rfl
 unfold nptr at aC;simp only[ntmps143,List.size_toArray,List.length_cons,List.length_nil,Nat.reduceAdd,Nat.reduceSub,Array.replicate_succ,Array.replicate_zero,List.push_toArray,List.append_toArray,List.nil_append,List.cons_append];have eP:Box (w.alloc (.cells #[.bool false] 4)) w.heap.size 4 (.bool false):=Box.new w 4 _
 gi_wp2_with ((first|refine⟨trivial,bu _,?_⟩|refine⟨trivial,?_⟩);first
  |(gi_at_call 192;refine(xrv.2 (vW _ (by exact bel2))).mono ?_;clear vW;rintro e w3 ⟨rfl,aM⟩;have pY:=eP.below aM eP.lt;have bE:Below w.heap.size w w3:=qac (by exact bel2) aM;have lL:=bE.size;have Bt:=aM.size)
  |(gi_at_call 192;refine(xrv.2 (vV _ bE)).mono ?_;rintro e w4 ⟨rfl,bm⟩;have xf:=pY.below bm pY.lt;have dO:Below w.heap.size w w4:=qac bE bm;have qc:=dO.size;have Bu:=bm.size)
  |(gi_at_call 101;refine(xrv.2 (aC _ (fun n hn=>(hN n hn).below (by exact bel2)))).mono ?_;rintro e W ⟨rfl,rfl,aB⟩))
 obtain⟨W,hW⟩:∃W,W=(w4.alloc (.cells #[.int .i64 sh] 3)).alloc (.cells #[.pointer (some ⟨q.blk,0,none⟩)] 97):=⟨_,rfl⟩;have df:W.heap.size=w4.heap.size+2:=by rw[hW];simp
 have e2:(w4.alloc (.cells #[.int .i64 sh] 3)).heap.size=w4.heap.size+1:=by simp
 have Ce:w.heap.size<w4.heap.size:=xf.lt;have ag:Box W w4.heap.size 3 (.int .i64 sh):=by rw[hW];exact(Box.new w4 3 _).alloc _
 have cB:Box W w.heap.size 4 (.bool false):=by rw[hW];exact(xf.alloc _).alloc _
 have b_:Below w.heap.size w W:=by rw[hW];exact bel2
 rw[e2]at aB;simp only[<-hW]at aB ⊢;have gR:=aB (fun b=>b=w.heap.size\/W.heap.size<=b) (fun k hk=>⟨fun h=>by have:=(hN k hk).lt;omega,fun g hg h=>by have:=((hN k hk).row.lt g hg).2;omega⟩);clear aB aC e2 hW eP pY xf vV aM bm;have aA:∀b,b<W.heap.size->¬(False\/W.heap.size<=b):=fun b hb e=>by rcases e with e|e;exact e;omega
 generalize w4.heap.size=b5 at *
 refine qfp (T:=fun b=>b=w.heap.size) (S:=fun _=>False) rfl (enters_of func149 (by kernel_rfl) rfl) gR (Below.refl _ _) rfl (fun b h=>h.elim) (fun b h=>by omega)
  (fun pre A=>pre.all (okD sh)=true/\Box A b5 3 (.int .i64 sh)/\Box A w.heap.size 4 (.bool false)/\Below w.heap.size w A)
  (fun c pre A=>c=.ret/\pre.all (okD sh)=false/\Box A w.heap.size 4 (.bool true)/\Below w.heap.size w A)
  (fun pre A B hs hk=>⟨hs.1,hs.2.1.keep hk (aA _ (by omega)),hs.2.2.1.keep hk (aA _ (by omega)),hs.2.2.2.trans (hk.toBelow hs.2.2.2.size (fun b bg=>aA b (by omega)))⟩)
  (fun c pre A B hs hk=>⟨hs.1,hs.2.1,hs.2.2.1.keep hk (aA _ (by omega)),hs.2.2.2.trans (hk.toBelow hs.2.2.2.size (fun b bg=>aA b (by omega)))⟩)
  ⟨rfl,ag,cB,b_⟩
  (fun x=>{tmps:=#[.pointer (some ⟨q.blk,0,none⟩),.pointer (some ⟨tq.blk,0,none⟩),undef,undef,.pointer (some ⟨w.heap.size,0,none⟩),.pointer (some ⟨b5,0,none⟩),.pointer (some ⟨x.blk,0,none⟩),.pointer (some ⟨tq.blk,0,none⟩),.int .i64 lt,.int .i64 ((lt:Int)+1),.pointer (some ⟨q.blk,0,none⟩),.int .i64 lq,.int .i64 sh,.pointer (some ⟨q.blk,0,none⟩),
   .func (.func 149) #[] #[.pointer (some ⟨b5+1,0,none⟩)],.pointer (some ⟨x.blk,0,none⟩),undef,undef,undef,undef,undef],defers:=[]}) ?assign ?body ?done ?stop
 case assign =>
  intro l x W K hK;clear fw fO af gR aA ag cB b_ hN fl sj w1 w2 rI an HE
  gi_wp2
  simp[go_sem,Oper.uponIn,Oper.semAt]
  gi_wp2
  exact hK
 case body =>
  rintro l2 pre x W2 ⟨da,ey,bX,ah⟩ eL ax
  have bZ:x∈nodes:=af x (ax.subset (by simp));have c2:=ey.cell;have CV:=fO x bZ;have hd:=fun W hW=>fw W hW x bZ
  have qh:Hid (pre.all (okD sh)=true):=da;have jm:Hid (okD sh x=!decide ((x.key.length:Int)+sh>4)):=rfl;clear da fw gR fO af hN fl w1 w2 rI an aA ag cB b_;generalize x.key.length=lx at *;have D5:IntKind.i64.wrap ((lx:Int)+sh)=(lx:Int)+sh:=by rw[IntKind.wrap_i64];omega
  gi_upto_region 4 with fail
  refine qdb (fun W'=>W'.cell? ⟨b5,0,none⟩=some (.int .i64 sh)/\Below W2.heap.size W2 W') (by kernel_rfl) (by kernel_rfl) ⟨c2,by exact bel2⟩ (fun hS=>?_)
  refine wpAnyH_take (i:=0) (v:=.pointer (some ⟨x.blk,0,none⟩)) rfl (by kernel_rfl) (by kernel_rfl) (by kernel_rfl) (fun _ _ _ h=>absurd h.1 (by intro e;cases e)) (Or.inl ⟨by rfl,?_⟩) hS ?_
  ·intro w' bz;obtain⟨s2,_⟩:=bz
   go_simp
  simp only[xr5,xr3,xr4,Act.put,xr6,xr8,xr7]
  refine wpAnyH_take (i:=2) (v:=.int .i64 sh) rfl (by kernel_rfl) (by kernel_rfl) (by kernel_rfl) (fun _ _ _ h=>absurd h.1 (by intro e;cases e)) (Or.inl ⟨by rfl,?_⟩) hS ?_
  ·intro w' bz;obtain⟨s2,_⟩:=bz
   go_simp
  simp only[xr5,xr3,xr4,Act.put,xr6,xr8,xr7]
  refine wpAnyH_ready (rs:=[1]) (by kernel_rfl) (by simp) ?_
  refine AllReadyH.cons rfl (fun K hK=>?_) AllReadyH.nil
  rw[if_pos (by rfl)]
  try simp only[xr5,xr3,xr4]
  go_simp
  refine(hd _ (qac ah (by exact bel2))).mono ?_
  rintro e W3 ⟨rfl,eD⟩
  have cB:Below W2.heap.size W2 W3:=qac (show Below W2.heap.size W2 W2.drew by exact bel2) eD;have eX:=ey.lt
  refine hK.out _ _ ⟨(cB.cell (p:=⟨b5,0,none⟩) eX).trans c2,cB⟩ (fun hS=>?_)
  clear hK
  try simp only[xr5,xr3,xr4,Act.put,xr6,xr8,xr7]
  refine wpAnyH_take (i:=3) (v:=.int .i64 ((lx:Int)+sh)) rfl (by kernel_rfl) (by kernel_rfl) (by kernel_rfl) (fun _ _ _ h=>absurd h.1 (by intro e;cases e)) (Or.inl ⟨by rfl,?_⟩) hS ?_
  ·intro w' bz
   go_simp
  try simp only[xr5,xr3,xr4,Act.put,xr6,xr8,xr7]
  refine wpAnyH_take (i:=4) (v:=.bool (decide ((lx:Int)+sh>4))) rfl (by kernel_rfl) (by kernel_rfl) (by kernel_rfl) (fun _ _ _ h=>absurd h.1 (by intro e;cases e)) (Or.inl ⟨by rfl,?_⟩) hS ?_
  ·intro w' bz
   go_simp
  try simp only[xr5,xr3,xr4,Act.put,xr6,xr8,xr7]
  refine wpAnyH_done (by kernel_rfl) ⟨rfl,?_⟩ _
  have bE:Below w.heap.size w W3:=qac ah cB;have k2:=ey.below cB eX;have k3:=bX.below cB bX.lt;have q3:=k3.cell;have f3:=k3.frozen;generalize ik:decide ((lx:Int)+sh>4)=bv at jm ⊢;clear ik;clear sj CV D5 hd hS
  cases bv
  ·gi_wp2
   refine⟨Keep.new cB,?_,k2,k3,bE⟩
   rw[List.all_append,qh.out]
   simp[jm.out]
  ·gi_wp2
   simp[go_sem,Oper.uponIn,Oper.semAt,q3,f3]
   gi_wp2
   refine⟨(Keep.new (T:=fun b=>b=w.heap.size) cB).setCell (p:=⟨w.heap.size,0,none⟩) rfl _,rfl,?_,k3.set _,bE.setCell (by simp) _⟩
   rw[List.all_append,qh.out]
   simp[jm.out]
 case done =>
  rintro A ⟨da,ey,bX,ah⟩ hD
  have hc:=bX.cell;have hf:=bX.frozen
  gi_wp2
  have fV:(A.setCell ⟨w.heap.size,0,none⟩ (.bool false)).heap[W.heap.size]?=some (.deferred (some [])):=(Below.heap_setCell _ _ _ _ (by simp;omega)).trans hD;have ag:=((bX.set (.bool false)).put W.heap.size (.deferred none) (by omega)).cell
  refine⟨by simp,.inl ⟨_,_,rfl,run_takeDeferred fV,?_⟩⟩
  exact⟨.bool false,by simp[results,results143,go_sem,ag],by rw[HE.out.1 da],qa0 (ah.setCell (by simp) _) _ _ (by omega)⟩
 case stop =>
  rintro c pre A ax ⟨rfl,hv,bX,ah⟩ hD
  gi_wp2
  have ag:=(bX.put W.heap.size (.deferred none) (by omega)).cell
  refine⟨by simp,.inl ⟨_,_,rfl,run_takeDeferred hD,?_⟩⟩
  have hX:X.all (okD sh)=false:=by
   rw[List.all_eq_false]at hv ⊢;obtain⟨y,hy,jW⟩:=hv
   exact⟨y,ax.subset hy,jW⟩
  exact⟨.bool true,by simp[results,results143,go_sem,ag],by rw[HE.out.2 hX],qa0 ah _ _ (by omega)⟩
theorem i97a:(prog.info? 97).map (fun i=>(i.size,i.bytes))=some (1,8):=by kernel_rfl
theorem i97b:(prog.info? 97).bind (fun i=>i.zero)=some (.pointer none):=by kernel_rfl
theorem qyp:qe9 97 1 8:=qge i97a i97b rfl
theorem qx1:prog.underlying 134=some (.slice 97):=by kernel_rfl
theorem qzr(w:World):(zeroValue 97).run prog w=.ok (.pointer none) w:=by kernel_rfl
theorem qw3{g n:Nat}(h:W.ownsRow 0 97 1 (.slice (some ⟨g,0,none⟩) n cap) n xs)(hi:i+1<n)(h1:∀u∈xs,u.oneCell'=true)(c:Nat):
  ∃v' w',(∀ty,(Builtin.append_ #[134,134] ty #[.slice (some ⟨g,0,none⟩) i cap,.slice (some ⟨g,i+1,none⟩) (n-(i+1)) c]).run prog W=.ok v' w')/\v'=.slice (some ⟨g,0,none⟩) (n-1) cap /\
   (∃last,w'.ownsRow 0 97 1 (.slice (some ⟨g,0,none⟩) n cap) n (xs.take i++xs.drop (i+1)++[last]))/\Keep (fun b=>b=g) W w':=by
 obtain⟨i0,z,q2,q3,q4,q5,q6⟩:=qyp;have iT:=fun j (hj:j<n*1)=>h.cellAt j hj
 obtain⟨hl,hr⟩:=h
 rcases hr with ⟨hv,_⟩|⟨g',av,aG,hv,hb,hg,lg,iU,cu,cZ⟩
 ·cases hv
 cases hv
 have ay:xs.length=n:=by omega
 have hr:=fun ty=>run_append_room (P:=prog) W 134 ty 97 i0 qx1 q2 g i cap aG hg ⟨g,i+1,none⟩ (n-(i+1)) c (xs.drop (i+1)) (by rw[q4];simp;omega)
  (fun j u hu=>by
   rw[List.getElem?_drop]at hu;rw[Addr.add_lit,iT _ (by have:=(xr0.1 hu).1;omega)];exact hu)
  (fun u hu=>h1 u (List.mem_of_mem_drop hu)) (by omega) (by rw[q4];simp;omega)
 rw[q4]at hr;have e1:i+(n-(i+1))=n-1:=by omega
 rw[e1]at hr
 refine⟨_,_,hr,rfl,⟨aG[n-1]'(by omega),⟨by simp;omega,.inr ⟨g,cap,_,rfl,Nat.zero_le _,setRow_heap W g aG _ 97 _ hg,lg,iU,?_,?_⟩⟩⟩,⟨rfl,rfl,rfl,by simp,fun k _ hk=>setRow_other W g k _ hk⟩⟩
 ·simp;omega
 ·have jV:xs=aG.toList.take n:=by rw[<-cZ];simp
  have bj:aG.toList.length=cap*1:=by simpa using cu
  rw[Nat.mul_one,Nat.mul_one];have ht:(aG.toList.take i)=xs.take i:=by rw[jV,List.take_take,Nat.min_eq_left (by omega)]
  have hd:i+(xs.drop (i+1)).length=n-1:=by simp;omega
  rw[ht,hd];have q_:aG.toList.drop (n-1)=aG[n-1]'(by omega)::aG.toList.drop n:=by
   have:=List.drop_eq_getElem_cons (l:=aG.toList) (i:=n-1) (by omega)
   rw[show n-1+1=n by omega]at this
   simpa using this
  rw[q_];have nK:(xs.take i++xs.drop (i+1)).length=n-1:=by simp;omega
  rw[List.toList_toArray];generalize xs.take i++xs.drop (i+1)=A at nK ⊢;generalize aG[n-1]'(by omega)=cc at q_ ⊢
  have:n=A.length+1:=by omega
  rw[this,List.take_length_add_append]
  rfl
structure DelR (v:Value) (n i:Nat) (xs:List Value) (w:World) (v':Value) (w':World):Prop where
 row:w'.ownsRow 0 97 1 v' (n-1) (xs.take i++xs.drop (i+1))
 keep:Keep (fun b=>v.ownBlock=some b) w w'
 own:v'.ownBlock=v.ownBlock
theorem qop{n:Nat}(h:w.ownsRow 0 97 1 v n xs)(hn:n<=1000)(hi:i<n)(h1:∀u∈xs,u.oneCell'=true):
  Calls prog 146 #[v,.int .i64 i,.int .i64 ((i:Int)+1)] w fun e w'=>∃v',e=.returned v'/\DelR v n i xs w v' w':=by
 obtain⟨g,cap,rfl,lg,iU⟩:=qa9 h (by omega);have jj:xs.length=n:=by have:=h.1;omega
 have oD:∀W last,W.ownsRow 0 97 1 (.slice (some ⟨g,0,none⟩) n cap) n (xs.take i++xs.drop (i+1)++[last])->Keep (fun b=>b=g) w W->(∀ty c,(Builtin.clear_ #[134] ty #[.slice (some ⟨g,n-1,none⟩) (n-(n-1)) c]).run prog W=.ok (.tuple #[]) (W.setCell ⟨g,n-1,none⟩ (.pointer none)))/\DelR (.slice (some ⟨g,0,none⟩) n cap) n i xs w (.slice (some ⟨g,0,none⟩) (n-1) cap) (W.setCell ⟨g,n-1,none⟩ (.pointer none)):=by
  intro W last hR hK;have nK:(xs.take i++xs.drop (i+1)).length=n-1:=by simp;omega
  have cz:=hR.cellAt (n-1) (by omega);rw[xro (by omega),nK,Nat.sub_self]at cz;have fz:=hR.frozenAt (n-1);rw[show n-(n-1)=1 by omega]
  refine⟨fun ty c=>Lib.run_clear_slice (P:=prog) W 134 97 ty (.pointer none) qx1 qzr rfl rfl g (n-1) 1 c (by omega) (fun k hk=>by
     have:k=0:=by omega
     subst this;rw[Nat.add_zero,cz];rfl) (fun k hk=>by
     have:k=0:=by omega
     subst this
     exact fz),⟨?_,?_,rfl⟩⟩
  ·have r1:=(hR.stored (n-1) (.pointer none)).1;have r2:=qlu r1 (m:=n-1) (by omega);rw[List.take_set_of_le (Nat.le_refl _),List.take_append,nK,Nat.sub_self,List.take_zero,List.append_nil,xrd (by omega)]at r2
   exact r2
  ·exact(hK.mono (fun b e=>by rw[e];rfl)).setCell (p:=⟨g,n-1,none⟩) (by rfl) _
 have k0:(0:Int)<=i:=by omega
 have k1:(i:Int)<n:=by omega
 have k3:(n:Int)<=cap:=by omega
 have k4:((i:Int) == (i:Int)+1)=false:=by simp;omega
 have n1:((n-1:Nat):Int)<n:=by omega
 by_cases an:i+1<n
 ·have vC:∀W,Below w.heap.size w W->∃v' w',(∀ty,(Builtin.append_ #[134,134] ty #[.slice (some ⟨g,0,none⟩) i cap,.slice (some ⟨g,i+1,none⟩) (n-(i+1)) (cap-(i+1))]).run prog W=.ok v' w')/\v'=.slice (some ⟨g,0,none⟩) (n-1) cap /\
   (∃last,w'.ownsRow 0 97 1 (.slice (some ⟨g,0,none⟩) n cap) n (xs.take i++xs.drop (i+1)++[last]))/\Keep (fun b=>b=g) w w':=fun W hW=>by
   obtain⟨v',w',q1,q2,q3,q4⟩:=qw3 (qae (T:=fun _=>False) h (Keep.new hW) (fun _ _ h=>h)) an h1 (cap-(i+1))
   exact⟨v',w',q1,q2,q3,(Keep.new hW).trans q4⟩
  have k2:(i:Int)+1<n:=by omega
  have k5:¬(cap=i+1):=by omega
  have k6:¬(cap=n-1):=by omega
  have k7:(i:Int)<=cap:=by omega
  have k8:(i:Int)+1<=n:=by omega
  have k9:(0:Int)<=(i:Int)+1:=by omega
  have CP:((n-1:Nat):Int)<=n:=by omega
  clear h
  go_enter func146,ntmps146
  go_wp2
  go_region_law (refine qa8 rfl (.tmp 22) (.tmp 25) 134 134 rfl _ _ ?_ ?_ (vC _ ?_) ?_;(focus (simp[Act.eval,Act.put]));(focus ((try simp[Act.eval,Act.put]);(try rfl)));(focus exact bel2);rintro v2 w2 ⟨rfl,⟨last,hR⟩,hK⟩;obtain⟨bj,hD⟩:=oD _ _ hR hK;have HD:Hid (DelR (.slice (some ⟨g,0,none⟩) n cap) n i xs w (.slice (some ⟨g,0,none⟩) (n-1) cap) (w2.setCell ⟨g,n-1,none⟩ (.pointer none))):=hD;clear hD)
  all_goals go_wp2
  all_goals go_ret
  all_goals exact⟨_,rfl,HD.out⟩
 ·obtain rfl:n=i+1:=by omega
  have ji:xs.take i++xs.drop (i+1)++[xs[i]'(by omega)]=xs:=by
   rw[List.drop_of_length_le (by omega),List.append_nil,List.take_append_getElem (by omega),xrd (by omega)]
  have mM:=fun W (hW:Below w.heap.size w W)=>oD W (xs[i]'(by omega)) (by rw[ji];exact qae (T:=fun _=>False) h (Keep.new hW) (fun _ _ h=>h)) (Keep.new hW)
  simp only[Nat.add_sub_cancel,Nat.add_sub_cancel_left]at mM;have bj:=(mM w.drew ((Below.refl _ _).drew)).1;have HD:Hid (∀W,Below w.heap.size w W->DelR (.slice (some ⟨g,0,none⟩) (i+1) cap) (i+1) i xs w (.slice (some ⟨g,0,none⟩) i cap) (W.setCell ⟨g,i,none⟩ (.pointer none))):=fun W hW=>(mM W hW).2
  have k7:(i:Int)<=cap:=by omega
  have k8:(i:Int)+1<=(i+1:Nat):=by omega
  have k9:(0:Int)<=(i:Int)+1:=by omega
  have CP:i<=cap:=by omega
  have EF:¬(cap=i):=by omega
  clear h mM oD ji;have qP:∀W,Below w.heap.size w W->∀x2 c,∃v' w',(∀ty,(Builtin.append_ #[134,134] ty #[.slice (some ⟨g,0,none⟩) i cap,.slice x2 0 c]).run prog W=.ok v' w')/\v'=.slice (some ⟨g,0,none⟩) i cap/\Below w.heap.size w w':=fun W hW x2 c =>
   ⟨_,W,fun ty=>qo0 qx1 qyp W _ i cap (by omega) x2 c ty,rfl,hW⟩
  by_cases jE:cap=i+1
  ·subst jE;have EG:(i:Int)<=(i:Int)+1:=by omega
   have EH:((i:Int)+1<(i:Int))=False:=by simp;omega
   go_enter func146,ntmps146
   go_wp2
   go_region_law (refine qa8 rfl (.tmp 22) (.tmp 25) 134 134 rfl _ _ ?_ ?_ (qP _ ?_ _ _) ?_;(focus (simp[Act.eval,Act.put]));(focus ((try simp[Act.eval,Act.put]);(try rfl)));(focus exact bel2);rintro v2 w2 ⟨rfl,dq⟩)
   all_goals go_wp2
   all_goals go_ret
   all_goals exact⟨_,rfl,HD.out w.drew (by exact bel2)⟩
  ·have yX:¬(i+1=cap):=fun e=>jE e.symm
   go_enter func146,ntmps146
   go_wp2
   go_region_law (refine qa8 rfl (.tmp 22) (.tmp 25) 134 134 rfl _ _ ?_ ?_ (qP _ ?_ _ _) ?_;(focus (simp[Act.eval,Act.put]));(focus ((try simp[Act.eval,Act.put]);(try rfl)));(focus exact bel2);rintro v2 w2 ⟨rfl,dq⟩)
   all_goals go_wp2
   all_goals go_ret
   all_goals exact⟨_,rfl,HD.out w.drew (by exact bel2)⟩
structure qf1 (W:World) (p:Node) (ks:List Node):Prop where
 kids:p.kids=ks.map (·.blk)
 inn:∀k∈ks,qaf W k
 sort:(ks.map fun k=>qad k.key).Pairwise fun a b=>cmpB a b<0
 len:ks.length<=1000
theorem qf1.below{p:Node}{ks:List Node}(h:qf1 W p ks)(hb:Below W.heap.size W W'):qf1 W' p ks:=⟨h.kids,fun k hk=>(h.inn k hk).below hb,h.sort,h.len⟩
theorem qm8{p:Node}(hP:qaf W p){ks:List Node}(K:qf1 W p ks)(x:ByteArray):
  Calls prog 104 #[.pointer (some ⟨p.blk,0,none⟩),.string x] W fun e w'=>ql0 (ks.map fun k=>qad k.key) (bl x) e/\w'=W:=by
 have de:W.cell? ⟨p.blk,7,none⟩=some p.sl:=hP.cell rfl;have hk:=K.kids;have ay:p.kids.length=ks.length:=by rw[hk];simp
 obtain⟨hl,hr⟩:=hP.row
 rcases hr with ⟨hv,h0⟩|⟨g,cap,aG,hv,eS,hg,hn,h_,hc,ht⟩
 ·have:ks=[]:=List.eq_nil_of_length_eq_zero (by omega)
  subst this;rw[hv]at de
  exact qm7 p.blk x W de
 ·rw[hv,ay]at de;have fZ:(ks.map fun k=>qad k.key).length=ks.length:=by simp
  rw[<-fZ]at de
  refine qm6 p.blk g cap p.kids (ks.map fun k=>qad k.key) x W (by simp[ay]) (by simpa using K.len) K.sort de ?_ ?_
  ·intro j b hj;obtain⟨g',av,c_,mK⟩:=hP.kid hj;rw[hv]at c_;cases c_;exact mK
  ·intro j b n hj dm;rw[hk]at hj;simp only[xrs,Option.map_eq_some_iff]at hj dm;obtain⟨k,fY,rfl⟩:=hj;obtain⟨k',kW,rfl⟩:=dm;rw[fY]at kW;cases kW
   exact(K.inn k (xr2 fY)).name
theorem qu1(hs:ns.Pairwise fun a b=>cmpB a b<0){x:Bs}{at_:Nat}(h:Found ns x at_ th)(hi:ns[i]?=some x):at_=i:=by
 obtain⟨h1,h2,h3,h4⟩:=h;have ei:=(xr0.1 hi).1;have zu:cmpB x x=0:=qde x
 rcases Nat.lt_trichotomy at_ i with h5|h5|h5
 ·obtain⟨y,hy⟩:∃y,ns[at_]?=some y:=⟨_,xr1 (by omega)⟩;have h6:=h3 at_ y (Nat.le_refl _) hy;have h7:cmpB y x<0:=by
   have:=List.pairwise_iff_getElem.1 hs at_ i (by omega) ei h5
   rw[xr1 (by omega)]at hy;rw[xr1 ei]at hi;injection hy with e1;injection hi with e2;rw[e1,e2]at this;exact this
  omega
 ·exact h5
 ·have:=h2 i x h5 hi;omega
theorem qng{size n:Nat}(h:W.ownsRow 0 e size v n xs):∃a c,v=.slice a n c:=by
 rcases h.2 with ⟨h1,h0⟩|⟨g,cap,aG,h1,_⟩
 ·rw[h0];exact⟨none,0,h1⟩
 ·exact⟨_,_,h1⟩
def Node.qb5(p:Node)(i:Nat)(sl:Value):Node:={p with sl:=sl,kids:=p.kids.take i++p.kids.drop (i+1)}
def Node.loose(q:Node):Node:={q with up:=none}
theorem qqv{n:Nat}{s:ByteArray}{vp:Array Value}(tB:Blk w bp 136 vp)(qJ:Blk w bq 136 vq)
  (e7:vp[7]?=some (.slice (some ⟨gp,0,none⟩) n cp)) (e0:vq[0]?=some (.string s)) (e6:vq[6]?=some (.pointer (some ⟨bp,0,none⟩))) (nh:bp≠bq) (dd:gp≠bp) (jP:gp≠bq)
  (dn:∀W,Below w.heap.size w W->Calls prog 104 #[.pointer (some ⟨bp,0,none⟩),.string s] W fun e w'=>e=.returned (.tuple #[.int .i64 i,.bool true])/\w'=W)
  (mN:∀W,Below w.heap.size w W->Calls prog 146 #[.slice (some ⟨gp,0,none⟩) n cp,.int .i64 i,.int .i64 ((i:Int)+1)] W fun e w'=>∃v',e=.returned v'/\DelR (.slice (some ⟨gp,0,none⟩) n cp) n i xs W v' w') (hn:i<n) (dF:n<=1000) :
  Calls prog 97 #[.pointer (some ⟨bq,0,none⟩)] w fun e w'=>e=.returned (.tuple #[])/\∃W W2 a c,Below w.heap.size w W/\DelR (.slice (some ⟨gp,0,none⟩) n cp) n i xs W (.slice a (n-1) c) W2/\Blk w' bp 136 (vp.setIfInBounds 7 (.slice a (n-1) c))/\Blk w' bq 136 (vq.setIfInBounds 6 (.pointer none))/\Keep (fun x=>x=bp\/x=bq) W2 w':=by
 have dR:=tB.lt;have je:=qJ.lt;have q6:w.cell? ⟨bq,6,none⟩=some (.pointer (some ⟨bp,0,none⟩)):=by rw[qJ.cell 6];exact e6
 have q0:w.cell? ⟨bq,0,none⟩=some (.string s):=by rw[qJ.cell 0];exact e0
 have p7:w.cell? ⟨bp,7,none⟩=some (.slice (some ⟨gp,0,none⟩) n cp):=by rw[tB.cell 7];exact e7
 have DF:∀W v' w2,Below w.heap.size w W->DelR (.slice (some ⟨gp,0,none⟩) n cp) n i xs W v' w2->(∃a c,v'=.slice a (n-1) c)/\w2.cell? ⟨bq,6,none⟩=some (.pointer (some ⟨bp,0,none⟩))/\w2.cell? ⟨bp,7,none⟩=some (.slice (some ⟨gp,0,none⟩) n cp)/\w2.frozen? ⟨bp,7,none⟩=false/\w2.frozen? ⟨bq,6,none⟩=false/\bp<w2.heap.size/\bq<w2.heap.size/\Blk w2 bp 136 vp/\Blk w2 bq 136 vq:=fun W v' w2 hW D=>by
  have b1:=(tB.below hW dR).keep D.keep (fun e=>dd (by simpa [Value.ownBlock] using e));have b2:=(qJ.below hW je).keep D.keep (fun e=>jP (by simpa [Value.ownBlock] using e))
  exact⟨qng D.row,by rw[b2.cell 6];exact e6,by rw[b1.cell 7];exact e7,b1.frozen 7,b2.frozen 6,b1.lt,b2.lt,b1,b2⟩
 have mS:(0:Int)<=i:=by omega
 have HX:Hid (∀W W2 a c w' kr,Below w.heap.size w W->DelR (.slice (some ⟨gp,0,none⟩) n cp) n i xs W (.slice a (n-1) c) W2->Below W2.heap.size W2 w'->Below (w'.setCell ⟨bp,7,none⟩ (.slice a (n-1) c)).heap.size (w'.setCell ⟨bp,7,none⟩ (.slice a (n-1) c)) kr->∃W W2 a c,Below w.heap.size w W/\DelR (.slice (some ⟨gp,0,none⟩) n cp) n i xs W (.slice a (n-1) c) W2/\Blk (kr.setCell ⟨bq,6,none⟩ (.pointer none)) bp 136 (vp.setIfInBounds 7 (.slice a (n-1) c))/\Blk (kr.setCell ⟨bq,6,none⟩ (.pointer none)) bq 136 (vq.setIfInBounds 6 (.pointer none))/\Keep (fun x=>x=bp\/x=bq) W2 (kr.setCell ⟨bq,6,none⟩ (.pointer none))):=fun W W2 a c w' kr hW D cg eG=>by
  obtain⟨_,_,_,_,_,l1,l2,b1,b2⟩:=DF W _ W2 hW D
  refine⟨W,W2,a,c,hW,D,?_,?_,?_⟩
  ·exact(((b1.below cg l1).set 7 (.slice a (n-1) c)).below eG (by have:=cg.size;simp[World.setCell];omega)).other _ _ nh
  ·exact(((b2.below cg l2).other ⟨bp,7,none⟩ (.slice a (n-1) c) (fun e=>nh e.symm)).below eG (by have:=cg.size;simp[World.setCell];omega)).set 6 (.pointer none)
  ·exact((((Keep.new cg).setCell (p:=⟨bp,7,none⟩) (.inl rfl) _).trans (Keep.new eG))).setCell (p:=⟨bq,6,none⟩) (.inr rfl) _
 have zZ:∀W v' w2,Below w.heap.size w W->DelR (.slice (some ⟨gp,0,none⟩) n cp) n i xs W v' w2->(∃a c,v'=.slice a (n-1) c)/\w2.cell? ⟨bq,6,none⟩=some (.pointer (some ⟨bp,0,none⟩))/\w2.cell? ⟨bp,7,none⟩=some (.slice (some ⟨gp,0,none⟩) n cp)/\w2.frozen? ⟨bp,7,none⟩=false/\w2.frozen? ⟨bq,6,none⟩=false/\bp<w2.heap.size/\bq<w2.heap.size:=fun W v' w2 hW D=>by
  obtain⟨r1,r2,r3,r4,r5,r6,r7,_,_⟩:=DF W v' w2 hW D
  exact⟨r1,r2,r3,r4,r5,r6,r7⟩
 have sC:IntKind.i64.wrap ((i:Int)+1)=(i:Int)+1:=by rw[IntKind.wrap_i64];omega
 have Fe:¬(bp=bq):=nh;have Ff:¬(bq=bp):=fun e=>nh e.symm
 clear DF tB qJ e7 e0 e6 dd jP nh
 go_enter func97,ntmps97
 go_wp2_with fail
 go_quiet ((go_at_call 104;exact Calls.quiet_of_same (dn _ (by exact bel2))))
 have au:Below w.heap.size w (w.drewN nq):=xrm (Below.refl _ _) _;generalize w.drewN nq=W1 at au ⊢;clear dn q0;have dv:=au.size;have q6:=(au.cell (p:=⟨bq,6,none⟩) je).trans q6;have p7:=(au.cell (p:=⟨bp,7,none⟩) dR).trans p7
 go_wp2_with fail
 go_region_with
  (first
  |(go_at_call 146;refine(mN _ (by exact bel2)).mono ?_;rintro e w2 ⟨v2,rfl,D⟩;obtain⟨⟨a2,c2,en⟩,y6,y7,y8,y9,F9,FA⟩:=zZ _ _ _ (by exact bel2) D;subst en))
 all_goals go_wp2_with fail
 all_goals go_end0
 all_goals exact⟨rfl,HX.out _ _ _ _ _ _ (by exact bel2) D (Below.refl _ _) (Below.refl _ _)⟩
theorem qmz{p:Node}(hP:qaf w p)(hQ:qaf w q){ks:List Node}(K:qf1 w p ks)(hi:ks[i]?=some q)(dg:q.up=some p.blk)(nh:p.blk≠q.blk)(dd:p.sl.ownBlock≠some p.blk)(jP:p.sl.ownBlock≠some q.blk)(ly:q.sl.ownBlock≠some q.blk)(xe:q.sl.ownBlock≠some p.blk)(tX:∀g,p.sl.ownBlock=some g->q.sl.ownBlock≠some g):
  Calls prog 97 #[.pointer (some ⟨q.blk,0,none⟩)] w fun e w'=>e=.returned (.tuple #[])/\∃sl,sl.ownBlock=p.sl.ownBlock/\qaf w' (p.qb5 i sl)/\qaf w' q.loose/\Keep (fun x=>x=p.blk\/x=q.blk\/p.sl.ownBlock=some x) w w':=by
 have ei:=(xr0.1 hi).1;have fM:p.kids.length=ks.length:=by rw[K.kids];simp
 have dn:∀W,Below w.heap.size w W->Calls prog 104 #[.pointer (some ⟨p.blk,0,none⟩),.string (sb (qad q.key))] W fun e w'=>e=.returned (.tuple #[.int .i64 i,.bool true])/\w'=W:=fun W hW=>(qm8 (hP.below hW) (K.below hW) (sb (qad q.key))).mono fun e w' hp=>by
  obtain⟨⟨at_,th,rfl,hF⟩,rfl⟩:=hp;rw[qb2]at hF;have mc:(ks.map fun k=>qad k.key)[i]?=some (qad q.key):=by rw[xrs,hi];rfl
  have:at_=i:=qu1 K.sort hF mc
  subst this
  have:th=true:=hF.2.2.2.2 mc
  subst this
  exact⟨rfl,rfl⟩
 have mN:=fun W (hW:Below w.heap.size w W)=>qop (qae (T:=fun _=>False) hP.row (Keep.new hW) (fun _ _ h=>h)) (by have:=K.len;omega) (by omega:i<p.kids.length) (fun u hu=>by obtain⟨x,_,rfl⟩:=xrq.1 hu;rfl)
 obtain⟨gp,cp,de,_,_⟩:=qa9 hP.row (by omega);rw[de]at mN dd jP tX ⊢;have ay:=K.len
 refine(qqv (vp:=p.cells) (vq:=q.cells) (gp:=gp) (cp:=cp) (n:=p.kids.length) (s:=sb (qad q.key)) (xs:=p.kids.map nptr) hP.at_ hQ.at_ (by simp[Node.cells,de]) (by simp[Node.cells]) (by simp[Node.cells,dg,uptr]) nh (fun e=>dd (by rw[e];rfl)) (fun e=>jP (by rw[e];rfl)) dn mN (by omega) (by omega)).mono fun e w' hp=>?_
 obtain⟨rfl,W,W2,a,c,hW,D,b1,b2,hk⟩:=hp;have kX:Keep (fun x=>x=p.blk\/x=q.blk\/(Value.slice (some ⟨gp,0,none⟩) p.kids.length cp).ownBlock=some x) w w':=((Keep.new hW).trans (D.keep.mono (fun x e=>.inr (.inr e)))).trans (hk.mono (fun x e=>e.elim (fun e=>.inl e) (fun e=>.inr (.inl e))))
 refine⟨rfl,.slice a (p.kids.length-1) c,D.own,⟨?_,?_⟩,⟨?_,?_⟩,kX⟩
 ·refine b1.trans ?_
  simp[Node.cells,Node.qb5]
 ·have aW:¬((Value.slice a (p.kids.length-1) c).ownBlock=some p.blk):=by rw[D.own];exact dd
  have rP:¬((Value.slice a (p.kids.length-1) c).ownBlock=some q.blk):=by rw[D.own];exact jP
  have:=qae D.row hk (fun g hg e=>by
   rcases e with e|e
   ·exact aW (by rw[hg,e])
   ·exact rP (by rw[hg,e]))
  have el:(p.qb5 i (.slice a (p.kids.length-1) c)).kids.length=p.kids.length-1:=by simp[Node.qb5];omega
  rw[el]
  simpa [Node.qb5,List.map_take,List.map_drop] using this
 ·refine b2.trans ?_
  simp[Node.cells,Node.loose,uptr]
 ·refine qae hQ.row kX (fun g hg e=>?_)
  have hg:q.sl.ownBlock=some g:=hg
  rcases e with e|e|e
  ·exact xe (by rw[hg,e])
  ·exact ly (by rw[hg,e])
  ·exact tX g e hg
end
end Go.Proofs.YtphclnolomgjoaaGreatDoor
