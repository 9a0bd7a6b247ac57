import Derived.Test.YtphclnolomgjoaaGreatDoorC34
set_option linter.unusedVariables false
set_option linter.unusedSimpArgs false
set_option maxRecDepth 100000
set_option maxHeartbeats 4000000
namespace Go.Proofs.YtphclnolomgjoaaGreatDoor
open Tryz
section
open Go.RowKit Go.Shelf
variable {nodes:List Node}{r:Node}
attribute [local go_sem] Oper.semAt_some
theorem q03(T:Tree nodes)(hr:r∈nodes)(s:ByteArray)(hs:s.size<=2000000)(w:World)(hN:∀n∈nodes,qan w n):
  Cl 63 #[nptr r.blk,.string s] w fun e w'=>qs9 nodes (r.key++qaa (bl s)) e/\Bw w w':=by
 have b_:∀k:Nat,Fence.wide.depth.isSome=true->1<=k:=fun k h=>by simp[Fence.wide]at h
 refine(xrv (n:=3)).1 ?_
 refine callsIn_of_wp_marks func63 rfl trivial ?_ rfl
 unfold nptr;simp only[ntmps63,List.size_toArray,List.length_cons,List.length_nil,Nat.reduceAdd,Nat.reduceSub,Array.replicate_succ,Array.replicate_zero,List.push_toArray,List.append_toArray,List.nil_append,List.cons_append]
 gi_wp2_with ((first|refine⟨trivial,b_ _,?_⟩|refine⟨trivial,?_⟩);gi_at_call 102;refine(xrv.2 (qly s hs _)).mono ?_;rintro e W ⟨gf,lb,rfl,eg,hb,aI⟩)
 have gP:w.heap.size+2<=W.heap.size:=by have:=hb.size;simp at this;omega
 obtain⟨S,hS,hq⟩:=aI (fun b=>(b=w.heap.size\/b=w.heap.size+1)\/W.heap.size<=b) (fun b h1 h2 h=>by simp at h1;omega);have uh:Box W w.heap.size 97 (.pointer none):=((Box.new w 97 _).alloc _).below hb (by simp<;>omega);have ui:Box W (w.heap.size+1) 97 (vP r.blk):=by
  have:=Box.new (w.alloc (.cells #[.pointer none] 97)) 97 (vP r.blk)
  rw[xrt]at this
  exact this.below hb (by simp)
 have cn:Bw w W:=qac (((Below.refl _ _).alloc (Nat.le_refl _) _).alloc (by simp) _) hb;clear aI hb;have jg:∀b,b<=w.heap.size+1->¬(S b\/W.heap.size<=b):=fun b aZ h=>by
  rcases h with h|h
  ·have h1:=(hS _ h).1;simp at h1;omega
  ·omega
 refine qgy (T:=fun b=>b=w.heap.size\/b=w.heap.size+1) rfl eg hq (Below.refl _ _) rfl (fun b h=>(hS b h).2) (fun b h=>by omega)
  (fun pre A=>(∃n∈nodes,n.key=r.key++pre/\Box A (w.heap.size+1) 97 (vP n.blk))/\Box A w.heap.size 97 (.pointer none)/\Bw w A)
  (fun c pre A=>c=.ret/\(∀n∈nodes,n.key≠r.key++qaa (bl s))/\Box A w.heap.size 97 (.pointer none)/\Bw w A)
  (fun pre A B hs hk=>⟨by obtain⟨n,h1,h2,h3⟩:=hs.1;exact⟨n,h1,h2,h3.keep hk (jg _ (Nat.le_refl _))⟩,hs.2.1.keep hk (jg _ (by omega)),hs.2.2.trans (hk.toBelow hs.2.2.size (fun b aZ=>jg b (by omega)))⟩)
  (fun c pre A B hs hk=>⟨hs.1,hs.2.1,hs.2.2.1.keep hk (jg _ (by omega)),hs.2.2.2.trans (hk.toBelow hs.2.2.2.size (fun b aZ=>jg b (by omega)))⟩)
  ⟨⟨r,hr,by simp,ui⟩,uh,cn⟩
  (fun x=>{tmps:=#[vP r.blk,.string s,undef,undef,vP w.heap.size,vP (w.heap.size+1),.string (sb x),undef,undef,
   vP r.blk,.string s,.func (.func gf) #[] lb,.string (sb x),undef,undef,undef,undef,undef,undef,undef,undef,undef,undef,undef,undef,undef,undef,undef,undef],defers:=[]}) ?assign ?body ?done ?stop
 case assign =>
  intro l x W K hK
  gi_wp2
  exact hK
 case body =>
  rintro l pre x W2 ⟨⟨n,hn,dh,ei⟩,cL,ae⟩ dk aC
  have Cu:∀n∈nodes,qan W2 n:=fun n hn=>(hN n hn).below ae
  have uP:=qvs T hn x W2 Cu;have sK:=cL.cell;have CY:=cL.frozen;have AH:=ei.cell;have CZ:=ei.frozen
  gi_wp2_with ((first|refine⟨trivial,b_ _,?_⟩|refine⟨trivial,?_⟩);gi_at_call 104;refine(CallsIn.inRound l (xrv.2 uP)).mono ?_;rintro e w' ⟨(⟨at_,k,g,cap,rfl,c_,bM,dZ,lu,fS⟩|⟨at_,rfl,a7⟩),rfl⟩)
  ·refine⟨(Keep.refl (fun b=>b=w.heap.size\/b=w.heap.size+1) _).setCell (p:=vA (w.heap.size+1) 0) (.inr rfl) _,⟨k,c_,by rw[bM,dh,List.append_assoc],ei.set _⟩,cL.other _ _ (by simp),ae.setCell (by simp) _⟩
  ·refine⟨(Keep.refl (fun b=>b=w.heap.size\/b=w.heap.size+1) _).setCell (p:=vA w.heap.size 0) (.inl rfl) _,rfl,a7 _ (by rw[dh,List.append_assoc];exact(List.prefix_append_right_inj _).2 aC),cL.set _,ae.setCell (Nat.le_refl _) _⟩
 case done =>
  rintro A ⟨⟨n,hn,dh,ei⟩,cL,ae⟩ hD
  have sK:=cL.cell;have CY:=cL.frozen;have AH:=ei.cell;have CZ:=ei.frozen
  gi_wp2
  have jl:(A.setCell (vA w.heap.size 0) (vP n.blk)).heap[W.heap.size]?=some (.deferred (some [])):=(Below.heap_setCell _ _ _ _ (by simp;omega)).trans hD;have af:=((cL.set (vP n.blk)).put W.heap.size (.deferred none) (by omega)).cell
  refine⟨by simp,.inl ⟨_,_,rfl,run_takeDeferred jl,?_⟩⟩
  refine⟨vP n.blk,by simp[results,results127,go_sem,af],.inl ⟨n,hn,dh,rfl⟩,qa8 (ae.setCell (Nat.le_refl _) _) _ _ (by omega)⟩
 case stop =>
  rintro c pre A aC ⟨rfl,hv,cL,ae⟩ hD
  gi_wp2
  have af:=(cL.put W.heap.size (.deferred none) (by omega)).cell
  refine⟨by simp,.inl ⟨_,_,rfl,run_takeDeferred hD,?_⟩⟩
  refine⟨.pointer none,by simp[results,results127,go_sem,af],.inr ⟨hv,rfl⟩,qa8 ae _ _ (by omega)⟩
end
section
open Go.RowKit
variable {B bq br bt bt2 gb:Nat}{W w w1:World}{n r:Node}{v1 v2 v3 va vw:Value}{l1 l2 l4:Bool}{er:Int}{s2:Bs}{as_ ws:List Pw}{k kk:List Bs}
theorem qz2(hB:B<=w.heap.size)(h:Below B w W)(hb:Bw W w1):Below B w w1:=h.trans (hb.mono (Nat.le_trans hB h.size))
theorem qyf(first:ByteArray)(v:Value)(l:List ByteArray)(dk:∀s∈l,s.size<=2000000)(hl:l.length<=100)(w:World)(kC:B<=w.heap.size)
  (cu:∃v' w',(∀ty,(Builtin.append_ #[46,46] ty #[v,vS w.heap.size 1 1]).run prog (w.alloc (.cells #[.string first] 9))=.ok v' w')/\∃g cap,v'=vS g l.length cap/\l.length<=cap/\cap<=maxLen/\g<w'.heap.size/\Below B w w'/\∀(k:Nat) s,l[k]?=some s->w'.cell? (vA g k)=some (.string s)) :
  Cl 132 #[.string first,v] w fun e w'=>e=.returned (vI (errP (l.map bl) (bl first)))/\Below B w w':=by
 have aJ:=fun s (hs:s∈l) W=>qh2 s (dk s hs) W
 obtain⟨n,hn⟩:∃n,n=l.length:=⟨_,rfl⟩;rw[<-hn]at cu hl;have HN:Hid (n=l.length):=hn;clear hn
 go_enter func132,ntmps132
 go_wp2_with (at_builtin;refine qah (by rfl) _ _ _ _ rfl _ _ rfl (by rfl) cu ?_;rintro v1 w1 ⟨g1,q1,rfl,gO,ie,lR,aj,aY⟩)
 clear cu
 go_loopw [12] (fun i wr=>∃k:Nat,k<=n/\i=vI k/\((l.map bl).take k).all qar=true/\Bw w1 wr) (fun i _=>n-(intOf i).toNat)
 case atStart=>exact⟨0,Nat.zero_le _,rfl,rfl,Below.refl _ _⟩
 case round =>
  obtain⟨k,hk,rfl,a8,ae⟩:=hrel;have HA:Hid (((l.map bl).take k).all qar=true):=a8;clear a8
  by_cases ak:k<n
  ·have aV:k<l.length:=by rw[<-HN.out];exact ak
   obtain⟨s,hs⟩:∃s,l[k]?=some s:=⟨_,xr1 aV⟩;have hc:=(ae.cell (p:=vA g1 k) lR).trans (aY k s hs);have hv:=aJ s (xr2 hs);have HT:Hid ((l.map bl).take (k+1)=(l.map bl).take k++[bl s]):=by
    show _=_
    rw[xrf (by simpa using aV)];rw[xr1 aV]at hs;cases hs;simp
   have HM:Hid (bl s∈l.map bl):=xrq.2 ⟨s,xr2 hs,rfl⟩;clear hs aY aJ;have nr:(k:Int)<n:=by omega
   have f_:(0:Int)<=k:=by omega
   cases ed:qar (bl s)
   ·rw[ed]at hv
    go_wp2_with (go_at_call 62;refine(hv _).mono ?_;rintro e w2 ⟨rfl,af⟩)
    go_ret
    have h1:errP (l.map bl) (bl first)=1:=by
     unfold errP
     exact if_pos (List.all_eq_false.2 ⟨_,HM.out,by simp[ed]⟩)
    exact⟨by rw[h1];rfl,qz2 kC (qz2 kC aj ae) af⟩
   ·rw[ed]at hv
    go_wp2_with (go_at_call 62;refine(hv _).mono ?_;rintro e w2 ⟨rfl,af⟩)
    refine⟨⟨k+1,by omega,by go_num,?_,qac ae af⟩,by simp[intOf];omega⟩
    rw[HT.out,List.all_append,HA.out]
    simp[ed]
  ·have a8:(l.map bl).all qar=true:=by
    have:=HA.out
    rwa[xrd (by simp;have:=HN.out;omega)]at this
   have HF:Hid (errP (l.map bl) (bl first)=if bl first=[] then 2 else 0):=by
    show _=_
    unfold errP;rw[a8];simp
   clear a8 HA aY aJ
   by_cases h0:bl first=[]
   ·have hz:first=⟨#[]⟩:=qer (h0.trans qh4.symm);have h1:errP (l.map bl) (bl first)=2:=by rw[HF.out,if_pos h0]
    subst hz;have H1:Hid (errP (l.map bl) (bl ⟨#[]⟩)=2):=h1;clear h1 HF h0
    go_wp2
    go_ret
    exact⟨by rw[H1.out];rfl,qz2 kC aj ae⟩
   ·have hq:(first.toList.isEmpty)=false:=by rw[qaz];simpa using h0
    have h1:errP (l.map bl) (bl first)=0:=by rw[HF.out,if_neg h0]
    have H1:Hid (errP (l.map bl) (bl first)=0):=h1;clear h1 HF h0
    go_wp2
    go_ret
    exact⟨by rw[H1.out];rfl,qz2 kC aj ae⟩
theorem qyq(first other:ByteArray)(hs:first.size<=2000000)(cv:other.size<=2000000)(hB:B<=gb)(cx:Blk w gb 9 #[.string other]):
  Cl 132 #[.string first,vS gb 1 1] w fun e w'=>e=.returned (vI (errP [bl other,bl first] (bl first)))/\Below B w w':=by
 have ct:=cx.lt
 refine qyf first (vS gb 1 1) [other,first] (fun s h=>by simp at h;rcases h with rfl|rfl<;>assumption) (by simp) w (by omega) ?_
 have hb:Blk (w.alloc (.cells #[.string first] 9)) w.heap.size 9 #[.string first]:=Blk.new w 9 _;have aa:Blk (w.alloc (.cells #[.string first] 9)) gb 9 #[.string other]:=cx.alloc _;have au:(w.alloc (.cells #[.string first] 9)).ownsRow 0 9 1 (vS gb 1 1) 1 [.string other] :=
  ⟨rfl,.inr ⟨gb,1,_,rfl,Nat.zero_le _,aa,Nat.le_refl _,by unfold maxLen;omega,rfl,rfl⟩⟩
 obtain⟨v',w',hr,g,cap,rfl,R⟩:=qby qw8 inf9 (by omega) (w.alloc (.cells #[.string first] 9)) (vS gb 1 1) 1 [.string other] au w.heap.size 1 1 (by omega) [.string first] rfl hb (fun u hu=>by simp at hu;subst hu;rfl) (by unfold maxLen;omega) (by omega)
 refine⟨_,w',hr,g,cap,rfl,R.le,R.mx,qal R.own rfl,?_,fun k s hk=>?_⟩
 ·have hk:=R.keep;have h0:Below B w (w.alloc (.cells #[.string first] 9)):=((Below.refl _ _).alloc (by omega) _)
  exact h0.trans ⟨hk.os,hk.tape,hk.output,hk.size,fun k c_=>hk.block k (by simp;omega) (by simp[Value.ownBlock];omega)⟩
 ·have:=R.own.cells (g:=g) rfl k (.string s) (by
   cases k with
   |zero=>simp at hk;subst hk;rfl
   |succ k =>
    cases k with
    |zero=>simp at hk;subst hk;rfl
    |succ k=>simp at hk)
  rwa[Addr.add_lit,Nat.zero_add]at this
theorem q0f{nodes:List Node}(T:Tree nodes)(hn:n∈nodes)(w:World)(hN:∀n∈nodes,qan w n):
  Cl 192 #[vP n.blk] w fun e w'=>e=.returned (vI n.key.length)/\Bw w w':=by
 have hp:=qhh T _ n hn rfl w hN;have hk:=(T.ok n hn).1;have hj:=qgm _ hk;have h4:=(T.ok n hn).2;have hd:=fun W=>qq5 (sb (joinB n.key)) W (by rw[qd3];omega)
 have e:qdm (bl (sb (joinB n.key)))=n.key.length:=by unfold qdm;rw[qbi,qg8 hk]
 rw[e]at hd;unfold nptr at hp
 go_enter func192,ntmps192
 go_wp2_with (first
  |(go_at_call 47;refine hp.mono ?_;rintro e w1 ⟨rfl,aa⟩)
  |(go_at_call 134;refine(hd _).mono ?_;rintro e w2 ⟨rfl,en⟩;subst en))
 go_ret
 exact⟨rfl,aa⟩
def okD (sh:Int)(m:Node):Bool:=!decide ((m.key.length:Int)+sh>4)
theorem qzp{nodes:List Node}(T:Tree nodes)(hN:∀n∈nodes,qan w n){q tq:Node}(hq:q∈nodes)(ht:tq∈nodes):
  Cl 143 #[vP q.blk,vP tq.blk] w fun e w'=>e=.returned (.bool (!(nodes.filter fun m=>q.key.isPrefixOf m.key).all (okD ((tq.key.length:Int)+1-q.key.length))))/\Bw w w':=by
 obtain⟨ch,K⟩:=T.ch;have b_:∀k:Nat,Fence.wide.depth.isSome=true->1<=k:=fun k h=>by simp[Fence.wide]at h
 have a8:∀W,(∀n∈nodes,qan W n)->_:=fun W hW=>qm5 T K hq W hW
 have ai:=qq2 K 4 q hq;have bj:=qgl T K T.nd hq;have iH:=fun W (hW:Bw w W) m (hm:m∈nodes)=>q0f T hm W (fun n hn=>(hN n hn).below hW)
 have nQ:=iH;have iN:=fun m (hm:m∈nodes)=>(T.ok m hm).2
 have Dv:=iN q hq;have ak:=iN tq ht;rw[<-qz1 bj];generalize dfs ch 4 q=X at a8 ai bj ⊢;clear bj;generalize fO:((tq.key.length:Int)+1-q.key.length)=sh;have zq : -4<=sh/\sh<=5:=by omega
 have CW:=fun W hW=>iH W hW tq ht
 have rF:=fun W hW=>iH W hW q hq
 obtain⟨lt,ej⟩:∃l:Nat,l=tq.key.length:=⟨_,rfl⟩;obtain⟨lq,yX⟩:∃l:Nat,l=q.key.length:=⟨_,rfl⟩;rw[<-ej]at fO ak CW;rw[<-yX]at fO Dv rF;generalize heo:(!X.all (okD sh))=eo;have HE:Hid ((X.all (okD sh)=true->eo=false)/\(X.all (okD sh)=false->eo=true)):=⟨fun h=>by rw[<-heo,h];rfl,fun h=>by rw[<-heo,h];rfl⟩;clear heo ej yX nQ;have w1:IntKind.i64.wrap ((lt:Int)+1)=(lt:Int)+1:=by rw[IntKind.wrap_i64];omega
 have w2:IntKind.i64.wrap ((lt:Int)+1-lq)=sh:=by rw[IntKind.wrap_i64];omega
 refine(xrv (n:=3)).1 ?_
 refine callsIn_of_wp_marks func143 rfl trivial ?_ rfl
 unfold nptr at a8;simp only[ntmps143,List.size_toArray,List.length_cons,List.length_nil,Nat.reduceAdd,Nat.reduceSub,Array.replicate_succ,Array.replicate_zero,List.push_toArray,List.append_toArray,List.nil_append,List.cons_append];have dN:Box (w.alloc (.cells #[.bool false] 4)) w.heap.size 4 (.bool false):=Box.new w 4 _
 gi_wp2_with ((first|refine⟨trivial,b_ _,?_⟩|refine⟨trivial,?_⟩);first
  |(gi_at_call 192;refine(xrv.2 (CW _ (by exact bel2))).mono ?_;clear CW;rintro e w3 ⟨rfl,ax⟩;have gD:=dN.below ax dN.lt;have aK:Bw w w3:=qac (by exact bel2) ax;have nA:=aK.size;have IM:=ax.size)
  |(gi_at_call 192;refine(xrv.2 (rF _ aK)).mono ?_;rintro e w4 ⟨rfl,a_⟩;have DN:=gD.below a_ gD.lt;have dU:Bw w w4:=qac aK a_;have vM:=dU.size;have IN:=a_.size)
  |(gi_at_call 101;refine(xrv.2 (a8 _ (fun n hn=>(hN n hn).below (by exact bel2)))).mono ?_;rintro e W ⟨rfl,rfl,aI⟩))
 obtain⟨W,hW⟩:∃W,W=(w4.alloc (.cells #[vI sh] 3)).alloc (.cells #[vP q.blk] 97):=⟨_,rfl⟩;have dk:W.heap.size=w4.heap.size+2:=by rw[hW];simp
 have e2:(w4.alloc (.cells #[vI sh] 3)).heap.size=w4.heap.size+1:=by simp
 have MU:w.heap.size<w4.heap.size:=DN.lt;have af:Box W w4.heap.size 3 (vI sh):=by rw[hW];exact(Box.new w4 3 _).alloc _
 have dC:Box W w.heap.size 4 (.bool false):=by rw[hW];exact(DN.alloc _).alloc _
 have cn:Bw w W:=by rw[hW];exact bel2
 rw[e2]at aI;simp only[<-hW]at aI ⊢;have ie:=aI (fun b=>b=w.heap.size\/W.heap.size<=b) (fun k hk=>⟨fun h=>by have:=(hN k hk).lt;omega,fun g hg h=>by have:=((hN k hk).row.lt g hg).2;omega⟩);clear aI a8 e2 hW dN gD DN rF ax a_;have a7:∀b,b<W.heap.size->¬(False\/W.heap.size<=b):=fun b hb e=>by rcases e with e|e;exact e;omega
 generalize w4.heap.size=b5 at *
 refine qgy (T:=fun b=>b=w.heap.size) (S:=fun _=>False) rfl (enters_of func149 (by kernel_rfl) rfl) ie (Below.refl _ _) rfl (fun b h=>h.elim) (fun b h=>by omega)
  (fun pre A=>pre.all (okD sh)=true/\Box A b5 3 (vI sh)/\Box A w.heap.size 4 (.bool false)/\Bw w A)
  (fun c pre A=>c=.ret/\pre.all (okD sh)=false/\Box A w.heap.size 4 (.bool true)/\Bw w A)
  (fun pre A B hs hk=>⟨hs.1,hs.2.1.keep hk (a7 _ (by omega)),hs.2.2.1.keep hk (a7 _ (by omega)),hs.2.2.2.trans (hk.toBelow hs.2.2.2.size (fun b aZ=>a7 b (by omega)))⟩)
  (fun c pre A B hs hk=>⟨hs.1,hs.2.1,hs.2.2.1.keep hk (a7 _ (by omega)),hs.2.2.2.trans (hk.toBelow hs.2.2.2.size (fun b aZ=>a7 b (by omega)))⟩)
  ⟨rfl,af,dC,cn⟩
  (fun x=>{tmps:=#[vP q.blk,vP tq.blk,undef,undef,vP w.heap.size,vP b5,vP x.blk,vP tq.blk,vI lt,vI ((lt:Int)+1),vP q.blk,vI lq,vI sh,vP q.blk,
   .func (.func 149) #[] #[vP (b5+1)],vP x.blk,undef,undef,undef,undef,undef],defers:=[]}) ?assign ?body ?done ?stop
 case assign =>
  intro l x W K hK;clear iH iN ai ie a7 af dC cn hN fO zq w1 w2 Dv ak HE
  gi_wp2
  simp[go_sem,Oper.uponIn,Oper.semAt]
  gi_wp2
  exact hK
 case body =>
  rintro l2 pre x W2 ⟨ee,fY,dn,ae⟩ gP aC
  have cg:x∈nodes:=ai x (aC.subset (by simp));have c2:=fY.cell;have Kz:=iN x cg;have hd:=fun W hW=>iH W hW x cg
  have xa:Hid (pre.all (okD sh)=true):=ee;have oC:Hid (okD sh x=!decide ((x.key.length:Int)+sh>4)):=rfl;clear ee iH ie iN ai hN fO w1 w2 Dv ak a7 af dC cn;generalize x.key.length=lx at *;have L1:IntKind.i64.wrap ((lx:Int)+sh)=(lx:Int)+sh:=by rw[IntKind.wrap_i64];omega
  gi_upto_region 4 with fail
  refine qdk (fun W'=>W'.cell? (vA b5 0)=some (vI sh)/\Bw W2 W') (by kernel_rfl) (by kernel_rfl) ⟨c2,by exact bel2⟩ (fun hS=>?_)
  refine wpAnyH_take (i:=0) (v:=vP x.blk) rfl (by kernel_rfl) (by kernel_rfl) (by kernel_rfl) (fun _ _ _ h=>absurd h.1 (by intro e;cases e)) (Or.inl ⟨by rfl,?_⟩) hS ?_
  ·intro w' bY;obtain⟨s2,_⟩:=bY
   go_simp
  simp only[xr5,xr3,xr4,Act.put,xr6,xr8,xr7]
  refine wpAnyH_take (i:=2) (v:=vI sh) rfl (by kernel_rfl) (by kernel_rfl) (by kernel_rfl) (fun _ _ _ h=>absurd h.1 (by intro e;cases e)) (Or.inl ⟨by rfl,?_⟩) hS ?_
  ·intro w' bY;obtain⟨s2,_⟩:=bY
   go_simp
  simp only[xr5,xr3,xr4,Act.put,xr6,xr8,xr7]
  refine wpAnyH_ready (rs:=[1]) (by kernel_rfl) (by simp) ?_
  refine AllReadyH.cons rfl (fun K hK=>?_) AllReadyH.nil
  rw[if_pos (by rfl)]
  try simp only[xr5,xr3,xr4]
  go_simp
  refine(hd _ (qac ae (by exact bel2))).mono ?_
  rintro e W3 ⟨rfl,fh⟩
  have dC:Bw W2 W3:=qac (show Bw W2 W2.drew by exact bel2) fh;have ej:=fY.lt
  refine hK.out _ _ ⟨(dC.cell (p:=vA b5 0) ej).trans c2,dC⟩ (fun hS=>?_)
  clear hK
  try simp only[xr5,xr3,xr4,Act.put,xr6,xr8,xr7]
  refine wpAnyH_take (i:=3) (v:=vI ((lx:Int)+sh)) rfl (by kernel_rfl) (by kernel_rfl) (by kernel_rfl) (fun _ _ _ h=>absurd h.1 (by intro e;cases e)) (Or.inl ⟨by rfl,?_⟩) hS ?_
  ·intro w' bY
   go_simp
  try simp only[xr5,xr3,xr4,Act.put,xr6,xr8,xr7]
  refine wpAnyH_take (i:=4) (v:=.bool (decide ((lx:Int)+sh>4))) rfl (by kernel_rfl) (by kernel_rfl) (by kernel_rfl) (fun _ _ _ h=>absurd h.1 (by intro e;cases e)) (Or.inl ⟨by rfl,?_⟩) hS ?_
  ·intro w' bY
   go_simp
  try simp only[xr5,xr3,xr4,Act.put,xr6,xr8,xr7]
  refine wpAnyH_done (by kernel_rfl) ⟨rfl,?_⟩ _
  have aK:Bw w W3:=qac ae dC;have k2:=fY.below dC ej;have k3:=dn.below dC dn.lt;have q3:=k3.cell;have f3:=k3.frozen;generalize kT:decide ((lx:Int)+sh>4)=bv at oC ⊢;clear kT;clear zq Kz L1 hd hS
  cases bv
  ·gi_wp2
   refine⟨Keep.new dC,?_,k2,k3,aK⟩
   rw[List.all_append,xa.out]
   simp[oC.out]
  ·gi_wp2
   simp[go_sem,Oper.uponIn,Oper.semAt,q3,f3]
   gi_wp2
   refine⟨(Keep.new (T:=fun b=>b=w.heap.size) dC).setCell (p:=vA w.heap.size 0) rfl _,rfl,?_,k3.set _,aK.setCell (by simp) _⟩
   rw[List.all_append,xa.out]
   simp[oC.out]
 case done =>
  rintro A ⟨ee,fY,dn,ae⟩ hD
  have hc:=dn.cell;have hf:=dn.frozen
  gi_wp2
  have jl:(A.setCell (vA w.heap.size 0) (.bool false)).heap[W.heap.size]?=some (.deferred (some [])):=(Below.heap_setCell _ _ _ _ (by simp;omega)).trans hD;have af:=((dn.set (.bool false)).put W.heap.size (.deferred none) (by omega)).cell
  refine⟨by simp,.inl ⟨_,_,rfl,run_takeDeferred jl,?_⟩⟩
  exact⟨.bool false,by simp[results,results143,go_sem,af],by rw[HE.out.1 ee],qa8 (ae.setCell (by simp) _) _ _ (by omega)⟩
 case stop =>
  rintro c pre A aC ⟨rfl,hv,dn,ae⟩ hD
  gi_wp2
  have af:=(dn.put W.heap.size (.deferred none) (by omega)).cell
  refine⟨by simp,.inl ⟨_,_,rfl,run_takeDeferred hD,?_⟩⟩
  have hX:X.all (okD sh)=false:=by
   rw[List.all_eq_false]at hv ⊢;obtain⟨y,hy,od⟩:=hv
   exact⟨y,aC.subset hy,od⟩
  exact⟨.bool true,by simp[results,results143,go_sem,af],by rw[HE.out.2 hX],qa8 ae _ _ (by omega)⟩
theorem qxu{n:Nat}(h:Bw w W)(hb:Below n W w1)(hn:w.heap.size<=n:=by omega):Bw w w1:=h.trans (hb.mono hn)
theorem q3e(s s2:ByteArray)(cI:∀W,Bw w W->W.cell? (vA bt 0)=some (vP br))
  (aJ:∀W gb,Blk W gb 9 #[.string s2]->w.heap.size<=gb->Cl 132 #[.string s,vS gb 1 1] W fun e w'=>e=.returned (vI 0)/\Below w.heap.size W w')
  {fv:ByteArray->Value} (hf:∀W ji,Bw w W->ji=s\/ji=s2->Cl 63 #[vP br,.string ji] W fun e w'=>e=.returned (fv ji)/\Bw W w') (dv:fv s=v1) (dg:fv s2=v2)
  {x:Bs} (jv:∀W,Cl 81 #[.string s] W fun e w'=>(∃a:ByteArray,e=.returned (.tuple #[.string a,.string (sb x)]))/\Bw W w')
  (hc:v1=vP bq->v2=vP bt2->(∀W,Bw w W->Cl 105 #[vP bt2] W fun e w'=>e=.returned (.bool l1)/\w'=W)/\(∀W,Bw w W->Cl 142 #[vP bt2,vP bq] W fun e w'=>e=.returned (.bool l2)/\Bw W w')/\(∀W,Bw w W->Cl 63 #[vP bt2,.string (sb x)] W fun e w'=>e=.returned v3/\Bw W w')/\(∀W,Bw w W->Cl 143 #[vP bq,vP bt2] W fun e w'=>e=.returned (.bool l4)/\Bw W w'))
  (H:(v1=.pointer none/\er=3)\/(v1=vP bq/\v2=.pointer none/\er=3)\/(v1=vP bq/\v2=vP bt2/\((l1=true/\er=5)\/(l1=false/\l2=true/\er=10)\/(l1=false/\l2=false/\(∃k9,v3=vP k9)/\er=4)\/(l1=false/\l2=false/\v3=.pointer none/\l4=true/\er=8)\/(l1=false/\l2=false/\v3=.pointer none/\l4=false/\er=0)))) :
  Cl 91 #[vP bt,.string s,.string s2] w fun e w'=>e=.returned (vI er)/\Bw w w':=by
 go_enter func91,ntmps91
 go_upto_region 4 with (first
    |(go_at_call 132;refine(aJ _ _ (by exact blk2) (Nat.le_refl _)).mono ?_;rintro e w1 ⟨rfl,aa⟩;have aj:Bw w w1:=qxu (by exact bel2) aa;have j_:=cI w1 aj))
 go_cut [8,9] from 19 to 30 (fun x1 x2 wx=>x1=v1/\x2=v2/\Bw w wx)
 case first =>
  clear hc H
  go_region_held3 (fun w'=>w'.cell? (vA bt 0)=some (vP br)) (first|go_keep|exact cI _ (by exact bel2))
   (first
   |(go_at_call 63;refine(hf _ _ (by exact bel2) (by first|exact .inl rfl|exact .inr rfl)).mono ?_;rintro e w2 ⟨rfl,af⟩;have aw:Bw w w2:=qac (by exact bel2) af;have AW:=cI w2 aw))
  all_goals go_wp2_with fail
  all_goals go_meet
  all_goals exact⟨by first|rfl|exact dv,by first|rfl|exact dg,by exact bel2⟩
 case rest =>
  obtain⟨rfl,rfl,cY⟩:=hcut;clear dv dg hf aJ
  rcases H with ⟨rfl,rfl⟩|⟨rfl,rfl,rfl⟩|⟨rfl,rfl,H⟩
  rotate_left 2
  ·obtain⟨bD,cH,yA,qz⟩:=hc rfl rfl;clear hc
   rcases H with ⟨rfl,rfl⟩|⟨rfl,rfl,rfl⟩|⟨rfl,rfl,⟨k9,rfl⟩,rfl⟩|⟨rfl,rfl,rfl,rfl,rfl⟩|⟨rfl,rfl,rfl,rfl,rfl⟩
   all_goals
    go_wp2_with (first
     |(go_at_call 81;refine(jv _).mono ?_;rintro e w5 ⟨⟨sa,rfl⟩,aG⟩;have eM:Bw w w5:=qac cY aG)
     |(go_at_call 105;refine(bD _ eM).mono ?_;rintro e w6 ⟨rfl,vF⟩;subst vF)
     |(go_at_call 142;refine(cH _ eM).mono ?_;rintro e w7 ⟨rfl,qx⟩;have qu:Bw w w7:=qac eM qx)
     |(go_at_call 63;refine(yA _ qu).mono ?_;rintro e w8 ⟨rfl,IP⟩;have A6:Bw w w8:=qac qu IP)
     |(go_at_call 143;refine(qz _ A6).mono ?_;rintro e w9 ⟨rfl,AG⟩;have sB:Bw w w9:=qac A6 AG))
    exact xrn (by simp[results,results91,go_sem]) rfl ⟨rfl,by assumption⟩
  all_goals
   clear hc
   go_wp2_with (go_at_call 81;refine(jv _).mono ?_;rintro e w5 ⟨⟨sa,rfl⟩,aG⟩;have eM:Bw w w5:=qac cY aG)
   exact xrn (v:=vI 3) (by simp[results,results91,go_sem]) rfl ⟨rfl,by assumption⟩
def qzb (nodes:List Node)(q tq:Node):Bool:=!(nodes.filter fun m=>q.key.isPrefixOf m.key).all (okD ((tq.key.length:Int)+1-q.key.length))
def errMov(nodes:List Node)(s s2:Bs):Int :=
 if errP [s2,s] s≠0 then errP [s2,s] s else match findKey nodes (qaa s) with
 |none=>3
 |some q=>match findKey nodes (qaa s2) with
  |none=>3
  |some tq=>if tq.leaf=true then 5 else if q.key.isPrefixOf tq.key=true then 10 else if (findKey nodes (tq.key++[qbv q.key])).isSome=true then 4 else if qzb nodes q tq=true then 8 else 0
theorem q2v(s s2:ByteArray)(h0:er≠0)
  (aJ:∀W gb,Blk W gb 9 #[.string s2]->w.heap.size<=gb->Cl 132 #[.string s,vS gb 1 1] W fun e w'=>e=.returned (vI er)/\Below w.heap.size W w') :
  Cl 91 #[vP bt,.string s,.string s2] w fun e w'=>e=.returned (vI er)/\Bw w w':=by
 have aW:(er != 0)=true:=by simpa using h0
 go_enter func91,ntmps91
 go_wp2_with (first
   |(go_at_call 132;refine(aJ _ _ (by exact blk2) (Nat.le_refl _)).mono ?_;rintro e w1 ⟨rfl,aa⟩;have aj:Bw w w1:=qxu (by exact bel2) aa))
 exact xrn (v:=vI er) (by simp[results,results91,go_sem]) rfl ⟨rfl,aj⟩
theorem qz4{s:Bs}(h:errP [s2,s] s=0):qar s=true/\qar s2=true/\s≠[]:=by
 unfold errP at h
 by_cases h1:([s2,s].all qar)=false
 ·rw[if_pos h1]at h;cases h
 ·rw[if_neg h1]at h
  by_cases h2:s=[]
  ·rw[if_pos h2]at h;cases h
  ·simp at h1
   exact⟨h1.2,h1.1,h2⟩
theorem qxx{nodes:List Node}(T0:Tree nodes)(hB:qa7 nodes){lst:Value}(h:TwAt w nodes bt r lst vw va ws as_)(hr:r∈nodes)(bK:r.key=[])(s s2:ByteArray)(hs:s.size<=2000000)(cv:s2.size<=2000000):
  Cl 91 #[vP bt,.string s,.string s2] w fun e w'=>e=.returned (vI (errMov nodes (bl s) (bl s2)))/\Bw w w':=by
 have aJ:=fun W gb (hb:Blk W gb 9 #[.string s2]) (hg:w.heap.size<=gb)=>qyq s s2 hs cv hg hb
 unfold errMov
 by_cases h0:errP [bl s2,bl s] (bl s)=0
 ·rw[if_neg (by simpa using h0)];rw[h0]at aJ;obtain⟨hv,dg,cZ⟩:=qz4 h0;have cI:∀W,Bw w W->W.cell? (vA bt 0)=some (vP r.blk):=fun W (hW:Bw w W)=>(h.below hW).bk.at_.cell 0
  let fv:ByteArray->Value:=fun ji=>match findKey nodes (qaa (bl ji)) with|none=>.pointer none|some p=>nptr p.blk
  have hf:∀W ji,Bw w W->ji=s\/ji=s2->Cl 63 #[vP r.blk,.string ji] W fun e w'=>e=.returned (fv ji)/\Bw W w':=fun W ji hW vt=>qfh T0 hr bK ji (by rcases vt with rfl|rfl<;>assumption) W (h.below hW).ins _ rfl
  have jv:∀W,Cl 81 #[.string s] W fun e w'=>(∃a:ByteArray,e=.returned (.tuple #[.string a,.string (sb (qbv (qaa (bl s))))]))/\Bw W w':=fun W=>(qih s hs hv cZ W).mono fun e w' kI=>by
   obtain⟨⟨a,b,rfl,h1,_⟩,h2⟩:=kI
   refine⟨⟨a,?_⟩,h2⟩
   have:b=sb (qbv (qaa (bl s))):=qer (by rw[qbi,h1,qdc])
   rw[this]
  cases hq:findKey nodes (qaa (bl s)) with
  |none=>exact q3e (bq:=0) (bt2:=0) (v3:=.pointer none) (l1:=true) (l2:=true) (l4:=true) s s2 cI aJ hf (show fv s=.pointer none by simp only[fv];rw[hq]) rfl jv (fun e=>by cases e) (.inl ⟨rfl,rfl⟩)
  |some q =>
   have dv:fv s=vP q.blk:=by simp only[fv];rw[hq];rfl
   obtain⟨lV,fc⟩:=qbw hq
   simp only
   cases ht:findKey nodes (qaa (bl s2)) with
   |none=>exact q3e (bt2:=0) (v3:=.pointer none) (l1:=true) (l2:=true) (l4:=true) s s2 cI aJ hf dv (show fv s2=.pointer none by simp only[fv];rw[ht]) jv (fun _ e=>by cases e) (.inr (.inl ⟨rfl,rfl,rfl⟩))
   |some tq =>
    have DV:fv s2=vP tq.blk:=by simp only[fv];rw[ht];rfl
    obtain⟨AX,kJ⟩:=qbw ht
    simp only
    have bD:=fun W (hW:Bw w W)=>qko tq.blk tq.leaf W (((h.below hW).ins tq AX).cell rfl)
    have cH:=fun W (hW:Bw w W)=>qsg T0 hB AX lV W (h.below hW).ins
    have qz:=fun W (hW:Bw w W)=>qzp T0 (h.below hW).ins lV AX
    have ze:qbd (qbv q.key)=true:=by
     have tb:q.key≠[]:=by rw[fc];intro e;exact cZ (qxp e)
     have:q.key=q.key.dropLast++[q.key.getLast tb]:=(List.dropLast_concat_getLast tb).symm
     rw[this,qdc]
     exact qbz (T0.ok q lV).1 (List.getLast_mem tb)
    have mK:qaa (bl (sb (qbv (qaa (bl s)))))=[qbv q.key]:=by
     rw[qbi,<- fc]
     have:=qg8 (k:=[qbv q.key]) (by unfold qbn;simp[ze])
     exact this
    have yA:∀v,(v=match findKey nodes (tq.key++[qbv q.key]) with|none=>Value.pointer none|some p=>nptr p.blk)->∀W,Bw w W->Cl 63 #[vP tq.blk,.string (sb (qbv (qaa (bl s))))] W fun e w'=>e=.returned v/\Bw W w':=fun v hv W hW=>by
     have hl:(sb (qbv (qaa (bl s)))).size<=2000000:=by rw[qd3,<- fc];have:=(qea ze).2;omega
     refine(q03 T0 AX (sb (qbv (qaa (bl s)))) hl W (h.below hW).ins).mono ?_
     rintro e w' ⟨hp,hb⟩
     rw[mK]at hp
     refine⟨?_,hb⟩
     rcases hp with ⟨n,hn,dh,rfl⟩|⟨a7,rfl⟩
     ·rw[hv,qdp T0 hn dh]
     ·rw[hv,qkz a7]
    simp only[nptr]at cH yA;have a8:=fun er H=>q3e (er:=er) s s2 cI aJ hf dv DV jv (fun _ _=>⟨bD,cH,yA _ rfl,qz⟩) (.inr (.inr ⟨rfl,rfl,H⟩))
    clear bD cH yA qz;unfold qzb
    cases hl:tq.leaf
    ·simp only[Bool.false_eq_true,if_false]
     cases hi:q.key.isPrefixOf tq.key
     ·simp only[Bool.false_eq_true,if_false]
      cases hk:findKey nodes (tq.key++[qbv q.key]) with
      |some k9 =>
       simp only[Option.isSome_some,if_true]
       exact a8 _ (.inr (.inr (.inl ⟨hl,hi,⟨k9.blk,by rw[hk]⟩,rfl⟩)))
      |none =>
       simp only[Option.isSome_none,Bool.false_eq_true,if_false]
       cases hd:(!(nodes.filter fun m=>q.key.isPrefixOf m.key).all (okD ((tq.key.length:Int)+1-q.key.length)))
       ·simp only[Bool.false_eq_true,if_false]
        exact a8 _ (.inr (.inr (.inr (.inr ⟨hl,hi,by rw[hk],hd,rfl⟩))))
       ·simp only[if_true]
        exact a8 _ (.inr (.inr (.inr (.inl ⟨hl,hi,by rw[hk],hd,rfl⟩))))
     ·simp only[if_true]
      exact a8 _ (.inr (.inl ⟨hl,hi,rfl⟩))
    ·simp only[if_true]
     exact a8 _ (.inl ⟨hl,rfl⟩)
 ·rw[if_pos (by simpa using h0)]
  exact q2v s s2 h0 aJ
theorem q05{ns:List Bs}(hs:ns.Pairwise fun a b=>cmpB a b<0){nm:Bs}{at_:Nat}(h:Found ns nm at_ false):(ns.take at_++nm::ns.drop at_).Pairwise fun a b=>cmpB a b<0:=by
 obtain⟨f1,f2,f3,f4⟩:=h;have cZ:=hs;have jZ:=List.take_append_drop at_ ns;rw[<-jZ]at hs;obtain⟨s1,s2,s3⟩:=xrx.1 hs
 refine xrx.2 ⟨s1,List.pairwise_cons.2 ⟨?_,s2⟩,?_⟩
 ·intro y hy;obtain⟨i,hi⟩:=xre hy;rw[List.getElem?_drop]at hi;have g1:=f3 (at_+i) y (by omega) hi;have g2:cmpB y nm≠0:=fun e0=>by
   have:=qkl _ _ e0
   subst this
   rcases Nat.eq_zero_or_pos i with rfl|cM
   ·have:=f4.2 (by simpa using hi);cases this
   ·have aV:at_<ns.length:=by have:=(xr0.1 hi).1;omega
    have g3:=f3 at_ _ (Nat.le_refl _) (xr1 aV);have g5:=List.pairwise_iff_getElem.1 cZ at_ (at_+i) aV (xr0.1 hi).1 (by omega);rw[(xr0.1 hi).2]at g5
    omega
  have g6:cmpB nm y = - cmpB y nm:=qrv _ _
  omega
 ·intro x hx y hy;obtain⟨i,hi⟩:=xre hx;rw[List.getElem?_take]at hi
  split at hi
  ·rename_i aV
   have g1:=f2 i x aV hi
   rcases List.mem_cons.1 hy with rfl|hy
   ·exact g1
   ·exact s3 x hx y hy
  ·cases hi
theorem q2c{x:Bs}(h:k <+: kk++[x])(aW:k≠kk++[x]):k <+: kk:=by
 obtain⟨t,ht⟩:=h;have wS:t≠[]:=fun e=>aW (by rw[<-ht,e,List.append_nil])
 have e:t=t.dropLast++[t.getLast wS]:=(List.dropLast_concat_getLast wS).symm;rw[e,<- List.append_assoc]at ht
 exact⟨_,(qxo ht).1⟩
structure Mv (nodes:List Node) (q p tq:Node) (nm:Bs) (ks:List Node) (i:Nat) (kt:List Node) (at_:Nat):Prop where
 T:Tree nodes
 hq:q∈nodes
 hp:p∈nodes
 ht:tq∈nodes
 qp:q.key=p.key++[nm]
 tl:tq.leaf=false
 q0l:¬q.key <+: tq.key
 no:∀n∈nodes,n.key≠tq.key++[nm]
 deep:∀n∈nodes,q.key <+: n.key->tq.key.length+1+(n.key.length-q.key.length)<=4
 pk:p.kids=ks.map (·.blk)
 pm:∀k,k∈ks↔(k∈nodes/\∃x,k.key=p.key++[x])
 ps:(ks.map fun k=>qbv k.key).Pairwise fun a b=>cmpB a b<0
 pi:ks[i]?=some q
 tk:tq.kids=kt.map (·.blk)
 tm:∀k,k∈kt↔(k∈nodes/\∃x,k.key=tq.key++[x])
 ts:(kt.map fun k=>qbv k.key).Pairwise fun a b=>cmpB a b<0
 tf:Found (kt.map fun k=>qbv k.key) nm at_ false
def gM (q p tq:Node)(nm:Bs)(i:Nat)(bm:Value)(at_:Nat)(bz:Value)(n:Node):Node :=
 if n.key=q.key then {q with key:=tq.key++[nm],up:=some tq.blk}
 else if n.key=p.key then p.qxi i bm
 else if n.key=tq.key then tq.qif at_ q.blk bz
 else {n with key:=mvK q.key (tq.key++[nm]) n.key}
section
variable {nodes:List Node}{q p tq:Node}{nm:Bs}{ks kt:List Node}{i at_:Nat} (h:Mv nodes q p tq nm ks i kt at_) (bm bz:Value)
include h
theorem Mv.ne:q.key≠[]/\p.key≠q.key/\¬q.key <+: p.key/\p.key≠tq.key/\tq.key≠q.key:=by
 have hl:q.key.length=p.key.length+1:=by rw[h.qp];simp
 refine⟨by rw[h.qp];simp,fun e=>by rw[e]at hl;omega,fun e=>by have:=e.length_le;omega,fun e=>h.no q h.hq (by rw[h.qp,e]),fun e=>h.q0l (e ▸ List.prefix_refl _)⟩
theorem Mv.fresh(n:Node)(hn:n∈nodes):¬(tq.key++[nm]) <+: n.key:=fun ⟨t,ht⟩=>by
 obtain⟨m,hm,e⟩:=h.T.pre t (tq.key++[nm]) n hn ht.symm
 exact h.no m hm e
theorem Mv.q11{x y:Node}(hx:x∈nodes)(hy:y∈nodes)(e:mvK q.key (tq.key++[nm]) x.key=mvK q.key (tq.key++[nm]) y.key):x=y:=by
 refine h.T.inj x hx y hy ?_
 by_cases h1:q.key <+: x.key
 ·rw[qxn h1]at e
  by_cases h2:q.key <+: y.key
  ·rw[qxn h2]at e;have e:=List.append_cancel_left e;obtain⟨t1,e1⟩:=h1;obtain⟨t2,e2⟩:=h2;rw[<-e1,<- e2]at e ⊢
   simp at e
   rw[e]
  ·rw[qxg h2]at e
   exact absurd ⟨_,e⟩ (h.fresh y hy)
 ·rw[qxg h1]at e
  by_cases h2:q.key <+: y.key
  ·rw[qxn h2]at e
   exact absurd ⟨_,e.symm⟩ (h.fresh x hx)
  ·rw[qxg h2]at e;exact e
theorem Mv.g(n:Node)(hn:n∈nodes):(gM q p tq nm i bm at_ bz n).key=mvK q.key (tq.key++[nm]) n.key/\(gM q p tq nm i bm at_ bz n).blk=n.blk/\(gM q p tq nm i bm at_ bz n).leaf=n.leaf/\(gM q p tq nm i bm at_ bz n).n0=n.n0/\(gM q p tq nm i bm at_ bz n).n1=n.n1/\(gM q p tq nm i bm at_ bz n).b0=n.b0/\(gM q p tq nm i bm at_ bz n).b1=n.b1/\(n≠q->(gM q p tq nm i bm at_ bz n).up=n.up):=by
 obtain⟨n1,n2,n3,n4,n5⟩:=h.ne;unfold gM
 by_cases e1:n.key=q.key
 ·rw[if_pos e1];obtain rfl:=h.T.inj n hn q h.hq e1;rw[qxn (List.prefix_refl _)]
  exact⟨by simp,rfl,rfl,rfl,rfl,rfl,rfl,fun e=>absurd rfl e⟩
 ·rw[if_neg e1]
  by_cases e2:n.key=p.key
  ·rw[if_pos e2];obtain rfl:=h.T.inj n hn p h.hp e2;rw[qxg n3]
   exact⟨rfl,rfl,rfl,rfl,rfl,rfl,rfl,fun _=>rfl⟩
  ·rw[if_neg e2]
   by_cases e3:n.key=tq.key
   ·rw[if_pos e3];obtain rfl:=h.T.inj n hn tq h.ht e3;rw[qxg h.q0l]
    exact⟨rfl,rfl,rfl,rfl,rfl,rfl,rfl,fun _=>rfl⟩
   ·rw[if_neg e3]
    exact⟨rfl,rfl,rfl,rfl,rfl,rfl,rfl,fun _=>rfl⟩
theorem Mv.below(y z:Node)(hy:y∈nodes)(hz:z∈nodes):(∃x,(gM q p tq nm i bm at_ bz y).key=(gM q p tq nm i bm at_ bz z).key++[x])↔(y=q/\z=tq)\/(y≠q/\∃x,y.key=z.key++[x]):=by
 obtain⟨n1,n2,n3,n4,n5⟩:=h.ne;rw[(h.g bm bz y hy).1,(h.g bm bz z hz).1]
 by_cases e:y=q
 ·subst e;rw[qxn (List.prefix_refl _),List.drop_length,List.append_nil]
  constructor
  ·rintro⟨x,hx⟩
   obtain⟨h1,_⟩:=qxo hx
   left
   refine⟨rfl,(h.q11 h.ht hz ?_).symm⟩
   rw[qxg h.q0l];exact h1
  ·rintro(⟨_,rfl⟩|⟨h1,_⟩)
   ·exact⟨nm,by rw[qxg h.q0l]⟩
   ·exact absurd rfl h1
 ·have JX:y.key≠q.key:=fun e2=>e (h.T.inj y hy q h.hq e2)
  rcases List.eq_nil_or_concat y.key with h0|⟨kk,x0,h0⟩
  ·have a7:¬q.key <+: y.key:=fun e2=>n1 (by rw[h0]at e2;exact List.prefix_nil.1 e2)
   rw[qxg a7,h0]
   constructor
   ·rintro⟨x,hx⟩;simp at hx
   ·rintro(⟨e2,_⟩|⟨_,x,hx⟩)
    ·exact absurd e2 e
    ·simp at hx
  ·have h0:y.key=kk++[x0]:=by rw[h0,List.concat_eq_append]
   obtain⟨pp,g1,g2,_⟩:=h.T.par y hy kk x0 h0;have AO:mvK q.key (tq.key++[nm]) y.key=mvK q.key (tq.key++[nm]) pp.key++[x0]:=by
    rw[h0,g2]
    by_cases e2:q.key <+: kk
    ·rw[qxn e2,qxn (e2.trans (xry _ _)),List.drop_append_of_le_length e2.length_le];simp only[List.append_assoc]
    ·rw[qxg e2,qxg (fun e3=>e2 (q2c e3 (fun e4=>JX (by rw[h0];exact e4.symm))))]
   rw[AO]
   constructor
   ·rintro⟨x,hx⟩
    obtain⟨h1,_⟩:=qxo hx
    have:=h.q11 g1 hz h1
    right
    exact⟨e,x0,by rw[h0,<- g2,this]⟩
   ·rintro(⟨e2,_⟩|⟨_,x,hx⟩)
    ·exact absurd e2 e
    ·rw[h0]at hx;obtain⟨h1,h2⟩:=qxo hx
     have:pp=z:=h.T.inj pp g1 z hz (g2.trans h1)
     rw[this];exact⟨x0,rfl⟩
theorem Mv.last(y:Node)(hy:y∈nodes):qbv (gM q p tq nm i bm at_ bz y).key=qbv y.key:=by
 obtain⟨n1,n2,n3,n4,n5⟩:=h.ne;rw[(h.g bm bz y hy).1]
 by_cases e:q.key <+: y.key
 ·rw[qxn e];obtain⟨t,ht⟩:=e;rw[<-ht,List.drop_left]
  rcases List.eq_nil_or_concat t with h0|⟨kk,x0,h0⟩
  ·rw[h0,List.append_nil,List.append_nil,qdc,h.qp,qdc]
  ·have h0:t=kk++[x0]:=by rw[h0,List.concat_eq_append]
   rw[h0,<- List.append_assoc,<- List.append_assoc,qdc,qdc]
 ·rw[qxg e]
theorem Mv.tree:Tree (nodes.map (gM q p tq nm i bm at_ bz)):=by
 obtain⟨n1,n2,n3,n4,n5⟩:=h.ne;have T:=h.T;have hg:=h.g bm bz;have iE:=h.below bm bz;have sU:=h.last bm bz;have ai:∀x,x∈nodes.map (gM q p tq nm i bm at_ bz)↔∃n∈nodes,x=gM q p tq nm i bm at_ bz n:=fun x=>by simp only[xrq];exact⟨fun ⟨n,h,e⟩=>⟨n,h,e.symm⟩,fun ⟨n,h,e⟩=>⟨n,h,e.symm⟩⟩
 have e1:gM q p tq nm i bm at_ bz q={q with key:=tq.key++[nm],up:=some tq.blk}:=by unfold gM;rw[if_pos rfl]
 have e2:gM q p tq nm i bm at_ bz p=p.qxi i bm:=by unfold gM;rw[if_neg n2,if_pos rfl]
 have e3:gM q p tq nm i bm at_ bz tq=tq.qif at_ q.blk bz:=by unfold gM;rw[if_neg n5,if_neg (fun e=>n4 e.symm),if_pos rfl]
 have e4:∀n∈nodes,n≠p->n≠tq->(gM q p tq nm i bm at_ bz n).kids=n.kids:=fun n hn h1 h2=>by
  unfold gM
  by_cases c1:n.key=q.key
  ·rw[if_pos c1];rw[T.inj n hn q h.hq c1]
  ·rw[if_neg c1,if_neg (fun e=>h1 (T.inj n hn p h.hp e)),if_neg (fun e=>h2 (T.inj n hn tq h.ht e))]
 have fl:qbd nm=true:=qbz (T.ok q h.hq).1 (by rw[h.qp];simp);generalize gM q p tq nm i bm at_ bz=g at *
 refine⟨?_,?_,?_,?_,?_,?_,?_,?_,by simpa using T.len⟩
 ·obtain⟨r,h0,h1,h2,h3,h4⟩:=T.root;have hr:=xr2 h0;obtain⟨g1,g2,g3,g4,g5,g6,g7,_⟩:=hg r hr
  refine⟨g r,by simp[h0],?_,g3.trans h2,g6.trans h3,g7.trans h4⟩
  rw[g1,qxg (fun e=>n1 (by rw[h1]at e;exact List.prefix_nil.1 e)),h1]
 ·intro n hn m hm e;obtain⟨x,hx,rfl⟩:=(ai n).1 hn;obtain⟨y,hy,rfl⟩:=(ai m).1 hm;rw[(hg x hx).1,(hg y hy).1]at e;rw[h.q11 hx hy e]
 ·rw[List.map_map];have df:=T.nd;unfold List.Nodup at df ⊢;rw[List.pairwise_map]
  refine List.Pairwise.imp_of_mem (fun {a b} ha hb aW e=>aW ?_) df
  simp only[Function.comp]at e;rw[(hg a ha).1,(hg b hb).1]at e
  exact h.q11 ha hb e
 ·intro n hn;obtain⟨x,hx,rfl⟩:=(ai n).1 hn;rw[(hg x hx).1];have rX:=T.ok x hx
  by_cases c:q.key <+: x.key
  ·rw[qxn c];have hd:=h.deep x hx c;have qb:=(T.ok tq h.ht).1
   refine⟨?_,by simp;omega⟩
   unfold qbn at qb rX ⊢;rw[List.all_append,List.all_append,qb];have h1:(x.key.drop q.key.length).all qbd=true:=by
    rw[List.all_eq_true]at rX ⊢
    exact fun y hy=>rX.1 y (List.mem_of_mem_drop hy)
   rw[h1];simp[fl]
  ·rw[qxg c];exact rX
 ·intro n hn;obtain⟨x,hx,rfl⟩:=(ai n).1 hn;obtain⟨g1,g2,g3,g4,g5,g6,g7,_⟩:=hg x hx;rw[g3,g4,g5,g6,g7];exact T.num x hx
 ·intro n hn hk;obtain⟨x,hx,rfl⟩:=(ai n).1 hn;obtain⟨g1,_,_,_,_,_,_,g8⟩:=hg x hx;rw[g1]at hk;have JV:x≠q:=fun e=>by rw[e,qxn (List.prefix_refl _)]at hk;simp at hk
  rw[g8 JV]
  refine T.top x hx ?_
  by_cases c:q.key <+: x.key
  ·rw[qxn c]at hk;simp at hk
  ·rw[qxg c]at hk;exact hk
 ·intro n hn k z hk;obtain⟨x,hx,rfl⟩:=(ai n).1 hn
  by_cases c:x=q
  ·subst c;rw[e1]at hk ⊢;have hk:tq.key++[nm]=k++[z]:=hk
   refine⟨g tq,(ai _).2 ⟨tq,h.ht,rfl⟩,?_,(hg tq h.ht).2.2.1.trans h.tl,?_⟩
   ·rw[(hg tq h.ht).1,qxg h.q0l];exact(qxo hk).1
   ·show some tq.blk=some (g tq).blk
    rw[(hg tq h.ht).2.1]
  ·obtain⟨g1,_,_,_,_,_,_,g8⟩:=hg x hx;rw[g8 c]
   rcases List.eq_nil_or_concat x.key with h0|⟨kk,x0,h0⟩
   ·rw[g1,qxg (fun e=>n1 (by rw[h0]at e;exact List.prefix_nil.1 e)),h0]at hk
    simp at hk
   ·have h0:x.key=kk++[x0]:=by rw[h0,List.concat_eq_append]
    obtain⟨pp,a1,a2,a3,a4⟩:=T.par x hx kk x0 h0;obtain⟨x1,vK⟩:=(iE x pp hx a1).2 (.inr ⟨c,x0,by rw[h0,a2]⟩)
    refine⟨g pp,(ai _).2 ⟨pp,a1,rfl⟩,?_,(hg pp a1).2.2.1.trans a3,by rw[(hg pp a1).2.1];exact a4⟩
    exact(qxo (vK.symm.trans hk)).1
 ·intro n hn;obtain⟨z,hz,rfl⟩:=(ai n).1 hn;have zZ:∀l:List Node,(∀y∈l,y∈nodes)->(l.map g).map (fun k=>qbv k.key)=l.map fun k=>qbv k.key:=fun l hl=>by
   rw[List.map_map];exact List.map_congr_left fun y hy=>sU y (hl y hy)
  have blks:∀l:List Node,(∀y∈l,y∈nodes)->(l.map g).map (·.blk)=l.map (·.blk):=fun l hl=>by
   rw[List.map_map];exact List.map_congr_left fun y hy=>(hg y (hl y hy)).2.1
  have fin:∀l:List Node,(∀y,y∈l↔(y∈nodes/\((y=q/\z=tq)\/(y≠q/\∃x,y.key=z.key++[x]))))->(g z).kids=l.map (·.blk)->(l.map fun k=>qbv k.key).Pairwise (fun a b=>cmpB a b<0)->∃ks:List Node,(g z).kids=ks.map (·.blk)/\(∀k,k∈ks↔(k∈nodes.map g/\∃x,k.key=(g z).key++[x]))/\(ks.map fun k=>qbv k.key).Pairwise fun a b=>cmpB a b<0:=fun l hl h1 h2=>by
   have mF:∀y∈l,y∈nodes:=fun y hy=>((hl y).1 hy).1
   refine⟨l.map g,by rw[blks l mF];exact h1,fun k=>?_,by rw[zZ l mF];exact h2⟩
   constructor
   ·intro hk;obtain⟨y,hy,rfl⟩:=xrq.1 hk;obtain⟨a1,a2⟩:=(hl y).1 hy
    exact⟨(ai _).2 ⟨y,a1,rfl⟩,(iE y z a1 hz).2 a2⟩
   ·rintro⟨hk,hx⟩
    obtain⟨y,hy,rfl⟩:=(ai k).1 hk
    exact xrj ((hl y).2 ⟨hy,(iE y z hy hz).1 hx⟩)
  by_cases c1:z=p
  ·subst c1;have je:=qy5 h.ps
   refine fin (ks.take i++ks.drop (i+1)) (fun y=>?_) ?_ ?_
   ·rw[qxm je h.pi y,h.pm]
    constructor
    ·rintro⟨⟨a1,a2⟩,a3⟩;exact⟨a1,.inr ⟨a3,a2⟩⟩
    ·rintro⟨a1,(⟨_,a2⟩|⟨a2,a3⟩)⟩
     ·exact absurd (by rw[a2]) n4
     ·exact⟨⟨a1,a3⟩,a2⟩
   ·rw[e2]
    show z.kids.take i++z.kids.drop (i+1)=_
    rw[h.pk,List.map_append,List.map_take,List.map_drop]
   ·refine List.Pairwise.sublist (List.Sublist.map _ ?_) h.ps
    conv=>rhs;rw[<-List.take_append_drop i ks]
    exact List.Sublist.append (List.Sublist.refl _) (List.drop_sublist_drop_left ks (Nat.le_succ i))
  ·by_cases c2:z=tq
   ·subst c2;have fc:q ∉ kt:=fun e=>by
     obtain⟨_,x,hx⟩:=(h.tm q).1 e;rw[h.qp]at hx
     exact n4 (qxo hx).1
    refine fin (kt.take at_++q::kt.drop at_) (fun y=>?_) ?_ ?_
    ·have cH:y∈kt.take at_++q::kt.drop at_↔y=q\/y∈kt:=by
      conv=>rhs;rw[<-List.take_append_drop at_ kt]
      simp only[xri,List.mem_cons]
      constructor
      ·rintro(a|a|a)
       ·exact .inr (.inl a)
       ·exact .inl a
       ·exact .inr (.inr a)
      ·rintro(a|a|a)
       ·exact .inr (.inl a)
       ·exact .inl a
       ·exact .inr (.inr a)
     rw[cH,h.tm]
     constructor
     ·rintro(rfl|⟨a1,a2⟩)
      ·exact⟨h.hq,.inl ⟨rfl,rfl⟩⟩
      ·exact⟨a1,.inr ⟨fun e=>fc (by rw[<-e];exact(h.tm y).2 ⟨a1,a2⟩),a2⟩⟩
     ·rintro⟨a1,(⟨a2,_⟩|⟨_,a3⟩)⟩
      ·exact .inl a2
      ·exact .inr ⟨a1,a3⟩
    ·rw[e3]
     show z.kids.take at_++q.blk::z.kids.drop at_=_
     rw[h.tk,List.map_append,List.map_cons,List.map_take,List.map_drop]
    ·have:=q05 h.ts h.tf
     rw[List.map_append,List.map_cons,List.map_take,List.map_drop,show qbv q.key=nm by rw[h.qp,qdc]]
     exact this
   ·obtain⟨kz,k1,k2,k3⟩:=T.kids z hz;have fc:q ∉ kz:=fun e=>by
     obtain⟨_,x,hx⟩:=(k2 q).1 e;rw[h.qp]at hx
     exact c1 (T.inj z hz p h.hp (qxo hx).1.symm)
    refine fin kz (fun y=>?_) (by rw[e4 z hz c1 c2];exact k1) k3
    rw[k2]
    constructor
    ·rintro⟨a1,a2⟩;exact⟨a1,.inr ⟨fun e=>fc (by rw[<-e];exact(k2 y).2 ⟨a1,a2⟩),a2⟩⟩
    ·rintro⟨a1,(⟨_,a2⟩|⟨_,a3⟩)⟩
     ·exact absurd a2 c2
     ·exact⟨a1,a3⟩
end
end
end Go.Proofs.YtphclnolomgjoaaGreatDoor
