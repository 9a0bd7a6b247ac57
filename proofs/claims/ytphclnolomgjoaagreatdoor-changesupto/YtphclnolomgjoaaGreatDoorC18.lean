import Derived.Test.YtphclnolomgjoaaGreatDoorC17
set_option linter.unusedVariables false
set_option linter.unusedSimpArgs false
set_option maxRecDepth 100000
set_option maxHeartbeats 4000000
namespace Go.Proofs.YtphclnolomgjoaaGreatDoor
open Tryz
section
open Go.RowKit Go.Shelf
variable {nodes:List Node}{w:World}{bt rr:Nat}{va:Value}{l:List Pw}{p:Pw}{n:Node}
attribute [local go_sem] Oper.semAt_some
theorem qg2{α : Type}{f : α -> Bool}{l:List α}(h:l.all (fun x=>!f x)=true):l.find? f=none:=by
 rw[List.find?_eq_none];intro x hx
 have:=List.all_eq_true.1 h x hx
 simpa using this
theorem qli{α : Type}{f : α -> Bool}{l pre:List α}{x : α}(h:pre++[x] <+: l)(hp:pre.all (fun x=>!f x)=true)(hx:f x=true):l.find? f=some x:=by
 obtain⟨t,rfl⟩:=h;rw[List.append_assoc,List.find?_append,qg2 hp]
 simp[hx]
theorem qns(T0:Tree nodes)(hB:qa7 nodes)(h:Rd w nodes bt rr va l)(hp:PwIn w nodes p)(hn:n∈nodes)(gz:n.blk=p.q):
  Cl 210 #[vP rr,nptr p.blk] w fun e w'=>e=.returned (optP (vicP nodes l p.x n))/\Bw w w':=by
 have b_:∀k:Nat,Fence.wide.depth.isSome=true->1<=k:=fun k h=>by simp[Fence.wide]at h
 have DO:rr<w.heap.size:=xrb _ _ h.bk;have IW:bt<w.heap.size:=xrb _ _ h.ad;have bQ:=fun W' (bI:Bw w W')=>qo5 (w:=W') (h.below bI).ad ⟨(h.below bI).ps.row,(h.below bI).ps.works⟩ (by have:=h.ps.len;omega)
 have DY:=fun b (hb:va.ownBlock=some b)=>qal h.ps.row hb
 have qd:∀q∈l,∀W',Bw w W'->Cl 231 #[vP rr,nptr q.blk,nptr p.blk] W' fun e w'=>e=.returned (.bool ((ups nodes 4 n).any (qgt nodes l p.x q.x)))/\Below W'.heap.size W' w':=fun q hq W' bI=>by
  obtain⟨m,hm,h1,h2⟩:=h.ps.leaf q hq
  exact qug T0 hB (h.below bI) (hp.below bI) ((h.ps.one hq).below bI) hn gz hm h1 h2
 unfold vicP;generalize hf:(fun q:Pw=>(ups nodes 4 n).any (qgt nodes l p.x q.x))=f;have zF:∀q∈l,∀W',Bw w W'->Cl 231 #[vP rr,vP q.blk,vP p.blk] W' fun e w'=>e=.returned (.bool (f q))/\Below W'.heap.size W' w':=by
  rw[<-hf];exact qd
 clear qd hf
 refine(xrv (n:=3)).1 ?_
 refine callsIn_of_wp_marks func210 rfl trivial ?_ rfl
 unfold nptr at bQ ⊢;simp only[ntmps210,List.size_toArray,List.length_cons,List.length_nil,Nat.reduceAdd,Nat.reduceSub,Array.replicate_succ,Array.replicate_zero,List.push_toArray,List.append_toArray,List.nil_append,List.cons_append];obtain⟨W0,bJ⟩:∃W0,W0=((w.alloc (.cells #[vP rr] 186)).alloc (.cells #[vP p.blk] 95)).alloc (.cells #[.pointer none] 95):=⟨_,rfl⟩;have aO:Bw w W0:=by rw[bJ];exact bel2
 have x1:Box W0 w.heap.size 186 (vP rr):=by rw[bJ];exact((Box.new w 186 _).alloc _).alloc _
 have x2:Box W0 (w.heap.size+1) 95 (vP p.blk):=by
  have:=(Box.new (w.alloc (.cells #[vP rr] 186)) 95 (vP p.blk)).alloc (.cells #[.pointer none] 95)
  rw[xrt]at this;rw[bJ];exact this
 have x3:Box W0 (w.heap.size+1+1) 95 (.pointer none):=by
  have:=Box.new ((w.alloc (.cells #[vP rr] 186)).alloc (.cells #[vP p.blk] 95)) 95 (.pointer none)
  rw[xrt,xrt]at this;rw[bJ];exact this
 have cZ:W0.heap.size=w.heap.size+3:=by rw[bJ];simp
 have c1:=x1.cell;have c2:=(h.below aO).bk;rw[bJ]at c1 c2
 gi_wp2_with ((first|refine⟨trivial,b_ _,?_⟩|refine⟨trivial,?_⟩);gi_at_call 230;refine(xrv.2 (bQ _ (by exact bel1))).mono ?_;rintro e W3 ⟨rfl,rfl,aI⟩)
 obtain⟨W,hW⟩:∃W,W=W0.alloc (.cells #[.pointer (some (vA bt 1))] 132):=⟨_,rfl⟩;have dk:W.heap.size=w.heap.size+4:=by rw[hW];simp[cZ]
 have z1:Box W w.heap.size 186 (vP rr):=by rw[hW];exact x1.alloc _
 have z2:Box W (w.heap.size+1) 95 (vP p.blk):=by rw[hW];exact x2.alloc _
 have z3:Box W (w.heap.size+1+1) 95 (.pointer none):=by rw[hW];exact x3.alloc _
 have cn:Bw w W:=by rw[hW];exact aO.alloc aO.size _
 simp only[xrt]at aI;simp only[<-bJ,<- hW]at aI ⊢;have hq:=aI (fun b=>b=w.heap.size+1+1) (fun b e=>by omega) (fun e=>by omega) (fun b hb e=>by have:=DY b hb;omega);clear aI bQ hW bJ c1 c2;have a7:∀b,b<W.heap.size->¬(False\/(W.heap.size<=b/\b<W.heap.size+2+4)):=fun b hb e=>by rcases e with e|e;exact e;omega
 refine qgs (T:=fun b=>b=w.heap.size+1+1) (S:=fun _=>False) rfl (enters_of func238 (by kernel_rfl) rfl) hq (Below.refl _ _) (fun _=>rfl) (fun b e=>e.elim) (fun b e=>by omega)
  (fun (pre:List Pw) A=>pre.all (fun x=>!f x)=true/\Box A w.heap.size 186 (vP rr)/\Box A (w.heap.size+1) 95 (vP p.blk)/\Box A (w.heap.size+1+1) 95 (.pointer none)/\Bw w A)
  (fun c (pre:List Pw) A=>c=.ret/\(∃q qj,pre=qj++[q]/\qj.all (fun x=>!f x)=true/\f q=true/\Box A (w.heap.size+1+1) 95 (vP q.blk))/\Bw w A)
  (fun pre A B hs hk=>⟨hs.1,hs.2.1.keep hk (a7 _ (by omega)),hs.2.2.1.keep hk (a7 _ (by omega)),hs.2.2.2.1.keep hk (a7 _ (by omega)),hs.2.2.2.2.trans (hk.toBelow hs.2.2.2.2.size (fun b aZ=>a7 b (by omega)))⟩)
  (fun c pre A B hs hk=>by
   obtain⟨h1,⟨q,qj,h2,h3,h4,h5⟩,h6⟩:=hs
   exact⟨h1,⟨q,qj,h2,h3,h4,h5.keep hk (a7 _ (by omega))⟩,h6.trans (hk.toBelow h6.size (fun b aZ=>a7 b (by omega)))⟩)
  ⟨rfl,z1,z2,z3,cn⟩
  (fun x=>{tmps:=#[vP rr,vP p.blk,vP w.heap.size,vP (w.heap.size+1),vP (w.heap.size+1+1),vP x.blk,vP rr,vP rr,.pointer (some (vA rr 1)),.pointer (some (vA bt 1)),.func (.func 238) #[] #[vP (w.heap.size+1+1+1)],vP x.blk,undef,undef,undef,undef,undef],defers:=[]}) ?assign ?body ?done ?stop
 case assign =>
  intro l x W K hK
  gi_wp2
  exact hK
 case body =>
  rintro l2 pre x W2 ⟨a8,k1,k2,k3,ae⟩ gP aC
  have cg:x∈l:=List.mem_reverse.1 (aC.subset (by simp));have Ef:=zF x cg W2 ae;have c1:=k1.cell;have c2:=k2.cell;have cO:Hid (pre.all (fun x=>!f x)=true):=a8;have l1:=k1.lt;have Em:=k2.lt;have l3:=k3.lt;generalize hfx:f x=fx at Ef;have ED:Hid (f x=fx):=hfx;clear a8 hq hfx aC
  cases fx
  ·gi_wp2_with ((first|refine⟨trivial,b_ _,?_⟩|refine⟨trivial,?_⟩);gi_at_call 231;refine(CallsIn.inRound l2 (xrv.2 Ef)).mono ?_;rintro e W5 ⟨rfl,aG⟩)
   refine⟨Keep.new aG,?_,k1.below aG l1,k2.below aG Em,k3.below aG l3,qac ae aG⟩
   rw[List.all_append,cO.out]
   simp[ED.out]
  ·gi_wp2_with ((first|refine⟨trivial,b_ _,?_⟩|refine⟨trivial,?_⟩);gi_at_call 231;refine(CallsIn.inRound l2 (xrv.2 Ef)).mono ?_;rintro e W5 ⟨rfl,aG⟩;have k5:=k3.below aG l3;have c5:=k5.cell;have f5:=k5.frozen)
   exact⟨(Keep.new (T:=fun b=>b=w.heap.size+1+1\/W.heap.size+2+4<=b) aG).setCell (p:=vA (w.heap.size+1+1) 0) (.inl rfl) _,rfl,⟨x,pre,rfl,cO.out,ED.out,k5.set _⟩,(qac ae aG).setCell (by simp;omega) _⟩
 case done =>
  rintro A ⟨a8,k1,k2,k3,ae⟩ hD
  have hc:=k3.cell;have hf:=k3.frozen
  gi_wp2
  have jl:(A.setCell (vA (w.heap.size+1+1) 0) (.pointer none)).heap[W.heap.size]?=some (.deferred (some [])):=(Below.heap_setCell _ _ _ _ (by simp;omega)).trans hD;have af:=((k3.set (.pointer none)).put W.heap.size (.deferred none) (by omega)).cell
  refine⟨by simp,.inl ⟨_,_,rfl,run_takeDeferred jl,?_⟩⟩
  refine⟨.pointer none,by simp[results,results210,go_sem,af],?_,qa8 (ae.setCell (by simp;omega) _) _ _ (by omega)⟩
  rw[qg2 a8];rfl
 case stop =>
  rintro c pre A aC ⟨rfl,⟨q,qj,rfl,h3,h4,bC⟩,ae⟩ hD
  gi_wp2
  have af:=(bC.put W.heap.size (.deferred none) (by omega)).cell
  refine⟨by simp,.inl ⟨_,_,rfl,run_takeDeferred hD,?_⟩⟩
  refine⟨vP q.blk,by simp[results,results210,go_sem,af],?_,qa8 ae _ _ (by omega)⟩
  rw[qli aC h3 h4];rfl
end
section
open Go.RowKit
variable {W W' w w':World}{cap hb i j:Nat}{f v:Value}{T:Nat->Prop}{e:TypeId}{xs:List Value}
structure Ak where
 p:Pw
 s:Int
variable {ys:List Ak}
def akv (a:Ak):Value:=.agg #[nptr a.p.blk,vI a.s]
def aks (l:List Ak):List Value:=l.flatMap fun a=>[nptr a.p.blk,vI a.s]
theorem qpv(a b:List Ak):aks (a++b)=aks a++aks b:=by simp[aks]
theorem qmx:∀(l:List Ak) (i:Nat) (a:Ak),l[i]?=some a->(aks l)[i*2]?=some (nptr a.p.blk)/\(aks l)[i*2+1]?=some (vI a.s)
 | [],i,a,h=>by simp at h
 |x::l,0,a,h=>by simp at h;subst h;simp[aks]
 |x::l,i+1,a,h=>by
  have ih:=qmx l i a (by simpa using h);have e:aks (x::l)=[nptr x.p.blk,vI x.s]++aks l:=rfl;rw[e,show(i+1)*2=i*2+2 by omega,show i*2+2+1=i*2+1+2 by omega]
  simpa using ih
theorem qkb:∀(l:List Ak) (i:Nat) (b:Ak),aks (l.set i b)=((aks l).set (i*2) (nptr b.p.blk)).set (i*2+1) (vI b.s)
 | [],i,b=>by simp[aks]
 |x::l,0,b=>by simp[aks]
 |x::l,i+1,b=>by
  have ih:=qkb l i b;have e:∀l,aks (x::l)=nptr x.p.blk :: vI x.s::aks l:=fun l=>rfl
  rw[xr7,e,e,ih,show(i+1)*2=i*2+1+1 by omega,show i*2+1+1+1=(i*2+1)+1+1 by omega];simp only[xr7]
theorem qtm(l:List Ak)(m:Nat):aks (l.take m)=(aks l).take (m*2):=by
 induction l generalizing m with
 |nil=>simp[aks]
 |cons x l ih =>
  cases m with
  |zero=>simp[aks]
  |succ m =>
   have e:∀l,aks (x::l)=nptr x.p.blk :: vI x.s::aks l:=fun l=>rfl
   rw[List.take_succ_cons,e,e,ih,show(m+1)*2=m*2+1+1 by omega];simp only[List.take_succ_cons]
structure HqAt (W:World) (hb:Nat) (f v:Value) (ys:List Ak):Prop where
 at_:Blk W hb 254 #[f,v]
 row:W.ownsRow 0 226 2 v ys.length (aks ys)
 ne:v.ownBlock≠some hb
theorem HqAt.get(h:HqAt W hb f v ys){p:Ak}(hi:ys[i]?=some p):∃g cap,v=vS g ys.length cap/\g<W.heap.size/\g≠hb/\ys.length<=cap/\cap<=maxLen/\(W.cell? (vA g (i*2))=some (nptr p.p.blk)/\W.cell? (vA g (i*2+1))=some (vI p.s))/\(W.frozen? (vA g (i*2))=false/\W.frozen? (vA g (i*2+1))=false):=by
 obtain⟨g,cap,rfl,h1,h2⟩:=qat h.row (Nat.lt_of_le_of_lt (Nat.zero_le _) (xr0.1 hi).1);have t1:=h.row.cells (g:=g) rfl (i*2) (nptr p.p.blk) (qmx _ _ _ hi).1;have t2:=h.row.cells (g:=g) rfl (i*2+1) (vI p.s) (qmx _ _ _ hi).2;rw[Addr.add_lit,Nat.zero_add]at t1 t2
 exact⟨g,cap,rfl,qal h.row rfl,fun e=>h.ne (by simp[Value.ownBlock,e]),h1,h2,⟨t1,t2⟩,h.row.frozenAt _,h.row.frozenAt _⟩
theorem HqAt.drew(h:HqAt W hb f v ys):HqAt W.drew hb f v ys:=⟨h.at_.drew,h.row.drew,h.ne⟩
theorem HqAt.below(h:HqAt W hb f v ys)(hB:Bw W W'):HqAt W' hb f v ys :=
 ⟨h.at_.below hB h.at_.lt,qab (T:=fun _=>False) h.row (Keep.new hB) (fun _ _ e=>e),h.ne⟩
theorem qso(h:HqAt w hb f v ys)(hl:ys.length<=100){a b:Ak}(hi:ys[i]?=some a)(hj:ys[j]?=some b)(ot:i≠j):
  Cl 233 #[vP hb,vI i,vI j] w fun e w'=>e=.returned (.tuple #[])/\HqAt w' hb f v (swp ys i j a b)/\Keep (fun y=>v.ownBlock=some y) w w':=by
 obtain⟨g,cap,hv,ct,iJ,de,jc,⟨ci,xA⟩,fi,Cc⟩:=h.get hi;obtain⟨g',cap',dW,_,_,_,_,⟨cj,xB⟩,fj,Cd⟩:=h.get hj;rw[hv]at dW;injection dW with e1 _ e3;injection e1 with e1;injection e1 with e1;subst e1 e3;have ey:=(xr0.1 hi).1;have iL:=(xr0.1 hj).1;have c1:=h.at_.cell 1;have ak:=h.at_.lt;simp only[xq0,xq1,xq2]at c1;rw[hv]at c1;obtain⟨n,hn⟩:∃n,n=ys.length:=⟨_,rfl⟩;rw[<-hn]at c1 ey iL de hl;have h1:(i:Int)<n:=by omega
 have h2:(0:Int)<=i:=by omega
 have h3:(j:Int)<n:=by omega
 have h4:(0:Int)<=j:=by omega
 have Jz:¬(j=i):=fun e=>ot e.symm
 have eO:¬(hb=g):=fun e=>iJ e.symm
 have k1:¬(j*2=i*2):=by omega
 have k2:¬(j*2+1=i*2):=by omega
 have k3:¬(j*2=i*2+1):=by omega
 have k4:¬(j*2+1=i*2+1):=by omega
 obtain⟨WX,C6⟩:∃WX,WX=(((w.setCell (vA g (i*2)) (nptr b.p.blk)).setCell (vA g (i*2+1)) (vI b.s)).setCell (vA g (j*2)) (nptr a.p.blk)).setCell (vA g (j*2+1)) (vI a.s):=⟨_,rfl⟩;have aP:HqAt WX hb f v (swp ys i j a b)/\Keep (fun y=>v.ownBlock=some y) w WX:=by
  subst hv;rw[C6]
  refine⟨⟨(((h.at_.other _ _ eO).other _ _ eO).other _ _ eO).other _ _ eO,?_,h.ne⟩,?_⟩
  ·have r1:=((((h.row.stored (i*2) (nptr b.p.blk)).1.stored (i*2+1) (vI b.s)).1.stored (j*2) (nptr a.p.blk)).1.stored (j*2+1) (vI a.s)).1;rw[qkv]
   have:aks (swp ys i j a b)=(((((aks ys).set (i*2) (nptr b.p.blk)).set (i*2+1) (vI b.s)).set (j*2) (nptr a.p.blk)).set (j*2+1) (vI a.s)):=by unfold swp;rw[qkb,qkb]
   rw[this]
   exact r1
  ·exact((((Keep.refl _ _).setCell (p:=vA g (i*2)) (by simp[Value.ownBlock]) _).setCell (p:=vA g (i*2+1)) (by simp[Value.ownBlock]) _).setCell (p:=vA g (j*2)) (by simp[Value.ownBlock]) _).setCell (p:=vA g (j*2+1)) (by simp[Value.ownBlock]) _
 have HP:Hid (HqAt WX hb f v (swp ys i j a b)/\Keep (fun y=>v.ownBlock=some y) w WX):=aP;have Hd:Hid (WX=(((w.setCell (vA g (i*2)) (nptr b.p.blk)).setCell (vA g (i*2+1)) (vI b.s)).setCell (vA g (j*2)) (nptr a.p.blk)).setCell (vA g (j*2+1)) (vI a.s)):=C6;clear aP h hi hj hn C6;unfold nptr at ci cj
 go_enter func233,ntmps233
 go_wp2_with fail
 go_region
 all_goals go_wp2_with fail
 go_end0
 obtain⟨p1,p2⟩:=HP.out;have hz:=Hd.out;unfold nptr at hz;rw[hz]at p1 p2
 exact⟨rfl,p1.drew,p2.drew⟩
theorem qph(h:HqAt w hb (.func (.func 176) #[] #[]) v ys)(hl:ys.length<=100){a:Ak}(hi:ys[i]?=some a)(pC:j<=1000)(lt:Ak->Ak->Bool)
  (cf:∀W,Bw w W->∀b,ys[j]?=some b->Cl 176 #[akv b,akv a] W fun e w'=>e=.returned (.bool (lt b a))/\Bw W w') :
  Cl 234 #[vP hb,vI i,vI j] w fun e w'=>e=.returned (vI (match ys[j]? with|some b=>if lt b a then(j:Int) else(i:Int)|none=>(i:Int)))/\Bw w w':=by
 obtain⟨g,cap,hv,ct,iJ,de,jc,⟨ci,xA⟩,fi,Cc⟩:=h.get hi;have ey:=(xr0.1 hi).1;have c0:=h.at_.cell 0;have c1:=h.at_.cell 1;have ak:=h.at_.lt;simp only[xq0,xq1,xq2]at c0 c1;rw[hv]at c1;obtain⟨n,hn⟩:∃n,n=ys.length:=⟨_,rfl⟩;rw[<-hn]at c1 ey de hl;have h1:(i:Int)<n:=by omega
 have h2:(0:Int)<=i:=by omega
 have h4:(0:Int)<=j:=by omega
 have HN:Hid (n=ys.length):=hn;clear hn
 cases hj:ys[j]? with
 |none =>
  have yM:decide (j<n)=false:=decide_eq_false (by have:=List.getElem?_eq_none_iff.1 hj;have:=HN.out;omega);clear cf h hj hi hv
  simp only
  go_enter func234,ntmps234
  go_wp2_with fail
  go_quiet (fail)
  go_wp2_with fail
  go_ret
  exact⟨rfl,xrm (Below.refl _ _) _⟩
 |some b =>
  obtain⟨g',cap',dW,_,_,_,_,⟨cj,xB⟩,fj,Cd⟩:=h.get hj;rw[hv]at dW;injection dW with e1 _ e3;injection e1 with e1;injection e1 with e1;subst e1 e3;have gX:(j:Int)<n:=by have:=(xr0.1 hj).1;have:=HN.out;omega
  have yM:decide ((j:Int)<n)=true:=decide_eq_true gX;have iE:=fun W hW=>cf W hW b hj
  unfold akv nptr at iE;unfold nptr at ci cj;clear cf h hi hj hv
  simp only
  generalize lt b a=t at iE ⊢
  go_enter func234,ntmps234
  go_upto_region 1 with fail
  go_cut [34] from 7 (fun q wx=>q=.bool t/\Bw w wx)
  case first =>
   go_region_held3 (fun w'=>w'.cell? (vA hb 0)=some (.func (.func 176) #[] #[])/\w'.cell? (vA hb 1)=some (vS g n cap)/\w'.cell? (vA g (i*2))=some (vP a.p.blk)/\w'.cell? (vA g (i*2+1))=some (vI a.s)/\w'.cell? (vA g (j*2))=some (vP b.p.blk)/\w'.cell? (vA g (j*2+1))=some (vI b.s)) (go_keep)
    (first
    |(go_at_call 176;refine(iE _ ?_).mono ?_;(focus exact bel2);rintro e w1 ⟨rfl,aa⟩;have aj:Bw w w1:=qac (by exact bel2) aa;have r0:=(aj.cell (p:=vA hb 0) ak).trans c0;have r1:=(aj.cell (p:=vA hb 1) ak).trans c1;have r2:=(aj.cell (p:=vA g (i*2)) ct).trans ci;have Lh:=(aj.cell (p:=vA g (i*2+1)) ct).trans xA;have r3:=(aj.cell (p:=vA g (j*2)) ct).trans cj;have Li:=(aj.cell (p:=vA g (j*2+1)) ct).trans xB))
   all_goals go_wp2_with fail
   go_meet
   exact⟨rfl,aj⟩
  case rest =>
   obtain⟨rfl,cY⟩:=hcut
   cases t
   ·go_wp2_with fail
    go_ret
    exact⟨rfl,cY⟩
   ·go_wp2_with fail
    go_ret
    exact⟨rfl,cY⟩
def Befq (w:World)(T:Nat->Prop)(ys:List Ak)(lt:Ak->Ak->Bool):Prop :=
 ∀W,Keep T w W->∀a∈ys,∀b∈ys,Cl 176 #[akv a,akv b] W fun e w'=>e=.returned (.bool (lt a b))/\Bw W w'
theorem qu7{lt:Ak->Ak->Bool}(O:Ord lt)(h:HqAt w hb (.func (.func 176) #[] #[]) v ys)(hl:ys.length<=100){k:Nat}(hk:k<ys.length)(hU:qgj lt ys k)(cf:Befq w (fun y=>v.ownBlock=some y) ys lt):
  Cl 214 #[vP hb,vI k] w fun e w'=>e=.returned (.tuple #[])/\∃zs,zs.Perm ys/\qbp lt zs/\HqAt w' hb (.func (.func 176) #[] #[]) v zs/\Keep (fun y=>v.ownBlock=some y) w w':=by
 have ak:=h.at_.lt;obtain⟨T,hT⟩:∃T:Nat->Prop,T=fun y=>v.ownBlock=some y:=⟨_,rfl⟩
 rw[<-hT]at cf ⊢;have HT:Hid (T=fun y=>v.ownBlock=some y):=hT;clear hT
 go_enter func214,ntmps214
 go_wp2_with fail
 go_loopg [1] k (fun q vk wr=>∃(j:Nat) (zs:List Ak),vk=vI j/\j<=q/\j<zs.length/\zs.Perm ys/\qgj lt zs j/\HqAt wr hb (.func (.func 176) #[] #[]) v zs/\Keep T w wr)
 case atStart=>exact⟨k,ys,rfl,Nat.le_refl _,hk,List.Perm.refl _,hU,h,Keep.refl _ _⟩
 case round =>
  clear h hU hk;obtain⟨j,zs,rfl,Dm,iL,bj,hU,hH,hK⟩:=hrel;have lM:zs.length<=100:=by rw[bj.length_eq];exact hl
  by_cases hj0:j=0
  ·subst hj0;have cG:=hU.zero;have HE:Hid (qbp lt zs):=cG;clear cG hU
   go_wp2_with fail
   go_end0
   exact⟨rfl,zs,bj,HE.out,hH,hK⟩
  ·obtain⟨a,ha⟩:∃a,zs[j]?=some a:=⟨_,xr1 iL⟩;obtain⟨b,dr⟩:∃b,zs[(j-1) / 2]?=some b:=⟨_,xr1 (by omega)⟩;have vh:=quo2 j (by omega);obtain⟨p,hp⟩:∃p,p=(j-1) / 2:=⟨_,rfl⟩;rw[<-hp]at dr vh;have qD:p<j:=by omega
   have HP:Hid (p=(j-1) / 2):=hp;clear hp;obtain⟨g,cap,hv,ct,iJ,de,jc,⟨ci,xA⟩,fi,Cc⟩:=hH.get ha;obtain⟨g',cap',dW,_,_,_,_,⟨cj,xB⟩,fj,Cd⟩:=hH.get dr;rw[hv]at dW;injection dW with e1 _ e3;injection e1 with e1;injection e1 with e1;subst e1 e3;have c0:=hH.at_.cell 0;have c1:=hH.at_.cell 1;have yH:=hH.at_.lt;simp only[xq0,xq1,xq2]at c0 c1;rw[hv]at c1;have mj:=bj.mem_iff.1 (xr2 ha);have CH:=bj.mem_iff.1 (xr2 dr);have iE:=fun W (hW:Bw wr W)=>cf W (hK.trans (Keep.new hW)) a mj b CH
   have n8:=fun W (hW:Bw wr W)=>qso (hH.below hW) lM ha dr (by omega)
   obtain⟨n,hn⟩:∃n,n=zs.length:=⟨_,rfl⟩;rw[<-hn]at c1 de iL lM;have HN:Hid (n=zs.length):=hn;have HV:Hid (v=vS g zs.length cap):=hv;have np:(j:Int)<n:=by omega
   have rK:(0:Int)<=j:=by omega
   have wF:(0:Int)<j:=by omega
   have sY:(p:Int)<n:=by omega
   have wM:(0:Int)<=p:=by omega
   unfold akv nptr at iE;unfold nptr at ci cj;have HH:Hid (HqAt wr hb (.func (.func 176) #[] #[]) v zs):=hH;have HA:Hid (zs[j]?=some a/\zs[p]?=some b):=⟨ha,dr⟩;clear hn hv ha dr hH hj0;generalize jt:lt a b=t at iE;have xd:Hid (lt a b=t):=jt;clear jt
   go_upto_region 2 with fail
   go_cut [29] from 5 to 34 (fun q wx=>q=.bool (!t)/\Bw wr wx)
   case first =>
    go_region_held3 (fun w'=>w'.cell? (vA hb 0)=some (.func (.func 176) #[] #[])/\w'.cell? (vA hb 1)=some (vS g n cap)/\w'.cell? (vA g (j*2))=some (vP a.p.blk)/\w'.cell? (vA g (j*2+1))=some (vI a.s)/\w'.cell? (vA g (p*2))=some (vP b.p.blk)/\w'.cell? (vA g (p*2+1))=some (vI b.s)) (go_keep)
     (first
     |(go_at_call 176;refine(iE _ ?_).mono ?_;(focus exact bel2);rintro e w1 ⟨rfl,aa⟩;have aj:Bw wr w1:=qac (by exact bel2) aa;have r0:=(aj.cell (p:=vA hb 0) yH).trans c0;have r1:=(aj.cell (p:=vA hb 1) yH).trans c1;have r2:=(aj.cell (p:=vA g (j*2)) ct).trans ci;have Lh:=(aj.cell (p:=vA g (j*2+1)) ct).trans xA;have r3:=(aj.cell (p:=vA g (p*2)) ct).trans cj;have Li:=(aj.cell (p:=vA g (p*2+1)) ct).trans xB))
    all_goals go_wp2_with fail
    go_meet
    exact⟨rfl,aj⟩
   case rest =>
    obtain⟨rfl,cY⟩:=hcut;clear c0 c1 ci cj xA xB fi fj Cc Cd iE
    cases t
    ·have cG:=hU.stop HA.out.1 (by rw[<-HP.out];exact HA.out.2) xd.out;have HE:Hid (qbp lt zs):=cG;clear cG hU
     go_wp2_with fail
     exact xrn (v:=.tuple #[]) (by simp[results,results214,go_sem]) rfl ⟨rfl,zs,bj,HE.out,HH.out.below cY,hK.trans (Keep.new cY)⟩
    ·go_wp2_with fail
     refine(n8 _ cY).mono ?_
     rintro e w3 ⟨rfl,tQ,h_⟩
     have C3:qgj lt (swp zs j p a b) p:=by
      have:=hU.step O (by omega) HA.out.1 (by rw[<-HP.out];exact HA.out.2) xd.out
      rw[<-HP.out]at this
      exact this
     have fM:(swp zs j p a b).Perm ys:=(qhi (by omega) HA.out.1 HA.out.2).trans bj;have qw:Keep T w w3:=(hK.trans (Keep.new cY)).trans (by rw[HT.out];exact h_);clear n8 hU
     go_wp2_with fail
     go_roundg p
     case measure=>omega
     case rel=>exact⟨p,swp zs j p a b,rfl,Nat.le_refl _,by rw[qkv,<- HN.out];omega,fM,C3,tQ,qw⟩
theorem qpj(h:HqAt w hb (.func (.func 176) #[] #[]) v ys)(hl:ys.length<=100){a:Ak}(hi:ys[i]?=some a)(pC:j<=1000)(lt:Ak->Ak->Bool)
  (cf:Befq w (fun y=>v.ownBlock=some y) ys lt) :
  Cl 234 #[vP hb,vI i,vI j] w fun e w'=>e=.returned (vI (fo lt ys a i j))/\Bw w w':=by
 refine(qph h hl hi pC lt (fun W hW b hb=>cf W (Keep.new hW) b (xr2 hb) a (xr2 hi))).mono ?_
 rintro e w' ⟨rfl,hB⟩
 refine⟨?_,hB⟩
 unfold fo
 cases ys[j]? with
 |none=>rfl
 |some b=>simp only;split<;>rfl
theorem Befq.keep{lt:Ak->Ak->Bool}(h:Befq w T ys lt)(hk:Keep T w w'):Befq w' T ys lt:=fun W hW=>h W (hk.trans hW)
theorem Befq.perm{zs:List Ak}{lt:Ak->Ak->Bool}(h:Befq w T ys lt)(hp:zs.Perm ys):Befq w T zs lt:=fun W hW a ha b hb=>h W hW a (hp.mem_iff.1 ha) b (hp.mem_iff.1 hb)
theorem qvu{lt:Ak->Ak->Bool}(O:Ord lt)(h:HqAt w hb (.func (.func 176) #[] #[]) v ys)(hl:ys.length<=100){k:Nat}(hk:k<ys.length)(hU:qbr lt ys k)(cf:Befq w (fun y=>v.ownBlock=some y) ys lt):
  Cl 215 #[vP hb,vI k] w fun e w'=>e=.returned (.tuple #[])/\∃zs,zs.Perm ys/\qbp lt zs/\HqAt w' hb (.func (.func 176) #[] #[]) v zs/\Keep (fun y=>v.ownBlock=some y) w w':=by
 obtain⟨T,hT⟩:∃T:Nat->Prop,T=fun y=>v.ownBlock=some y:=⟨_,rfl⟩
 have uD:=fun (W:World) (zs:List Ak) (i j:Nat) (a:Ak) (hH:HqAt W hb (.func (.func 176) #[] #[]) v zs) (lM:zs.length<=100) (hi:zs[i]?=some a) (pC:j<=1000) (aZ:Befq W T zs lt)=>qpj hH lM hi pC lt (by rw[<-hT];exact aZ)
 rw[<-hT]at cf ⊢;have HT:Hid (T=fun y=>v.ownBlock=some y):=hT;clear hT;obtain⟨N,hN⟩:∃N,N=ys.length:=⟨_,rfl⟩;have HN:Hid (N=ys.length):=hN;rw[<-hN]at hl;clear hN
 go_enter func215,ntmps215
 go_wp2_with fail
 go_loopg [1] N (fun q vk wr=>∃(j:Nat) (zs:List Ak),vk=vI j/\N<=q+j/\j<N/\zs.Perm ys/\qbr lt zs j/\HqAt wr hb (.func (.func 176) #[] #[]) v zs/\Keep T w wr)
 case atStart=>exact⟨k,ys,rfl,by omega,by rw[HN.out];exact hk,List.Perm.refl _,hU,h,Keep.refl _ _⟩
 case round =>
  clear h hU hk;obtain⟨j,zs,rfl,Dm,iL,bj,hU,hH,hK⟩:=hrel;have zM:zs.length=N:=by rw[HN.out];exact bj.length_eq
  have lM:zs.length<=100:=by omega
  obtain⟨a,ha⟩:∃a,zs[j]?=some a:=⟨_,xr1 (by omega)⟩;obtain⟨f1,dt⟩:∃f1,f1=fo lt zs a j (2*j+1):=⟨_,rfl⟩;have pw:f1<zs.length:=by rw[dt];exact qws lt zs a (by omega)
  obtain⟨a1,iq⟩:∃a1,zs[f1]?=some a1:=⟨_,xr1 pw⟩;obtain⟨f2,dy⟩:∃f2,f2=fo lt zs a1 f1 (2*j+2):=⟨_,rfl⟩;have dp:=qjm O hU ha (by rw[<-dt];exact iq);rw[<-dt,<- dy]at dp;have mn:=(cf.keep hK).perm bj;have c1:=uD wr zs j (2*j+1) a hH lM ha (by omega) mn;rw[<-dt]at c1;have c2:=fun W (hW:Bw wr W)=>uD W zs f1 (2*j+2) a1 (hH.below hW) lM iq (by omega) (mn.keep (Keep.new hW))
  rw[<-dy]at c2;have e1:((2*j+1:Nat):Int)=2*(j:Int)+1:=by omega
  have e2:((2*j+2:Nat):Int)=2*(j:Int)+2:=by omega
  rw[e1]at c1;rw[e2]at c2;have HC:Hid (f2=j/\qbp lt zs\/(f2≠j/\∃b,zs[f2]?=some b/\j<f2/\qbr lt (swp zs j f2 a b) f2)):=dp;have HA:Hid (zs[j]?=some a):=ha;have HH:Hid (HqAt wr hb (.func (.func 176) #[] #[]) v zs):=hH;have BD:Hid (zs.length=N):=zM;clear dp ha iq dt dy uD hU e1 e2 hH zM mn pw;have np:(0:Int)<=j:=by omega
  have rK:(j:Int)<=100:=by omega
  go_wp2_with fail
  refine c1.mono ?_
  rintro e w1 ⟨rfl,aa⟩
  go_wp2_with fail
  refine(c2 _ aa).mono ?_
  rintro e w2 ⟨rfl,af⟩
  have aw:Bw wr w2:=qac aa af;clear c1 c2 aa af
  rcases HC.out with ⟨hf,lj⟩|⟨hf,b,rm,Jy,hD⟩
  ·have HE:Hid (qbp lt zs):=lj;clear lj;subst hf
   go_wp2_with fail
   exact xrn (v:=.tuple #[]) (by simp[results,results215,go_sem]) rfl ⟨rfl,zs,bj,HE.out,HH.out.below aw,hK.trans (Keep.new aw)⟩
  ·have nR:((f2:Int) == (j:Int))=false:=by simp;omega
   have n8:=qso (HH.out.below aw) lM HA.out rm (by omega);have fM:(swp zs j f2 a b).Perm ys:=(qhi (by omega) HA.out rm).trans bj;have uB:f2<N:=by have:=(xr0.1 rm).1;have:=BD.out;omega
   have HD:Hid (qbr lt (swp zs j f2 a b) f2):=hD;clear hD rm hf
   go_wp2_with fail
   refine n8.mono ?_
   rintro e w3 ⟨rfl,tQ,h_⟩
   have qw:Keep T w w3:=(hK.trans (Keep.new aw)).trans (by rw[HT.out];exact h_);clear n8
   go_wp2_with fail
   go_roundg (N-f2)
   case measure=>omega
   case rel=>exact⟨f2,swp zs j f2 a b,rfl,by omega,uB,fM,HD.out,tQ,qw⟩
theorem qw6:(prog.info? 226).map (fun i=>(i.size,i.bytes))=some (2,16):=by kernel_rfl
theorem qxc:(prog.info? 226).bind (fun i=>i.zero)=some (.agg #[.pointer none,vI 0]):=by kernel_rfl
theorem qv7:qdf 226 2 16:=qep qw6 qxc rfl
theorem qw1:prog.underlying 252=some (.slice 226):=by kernel_rfl
theorem HqAt.form(h:HqAt W hb f v ys):∃a cap,v=.slice a ys.length cap/\ys.length<=cap/\cap<=maxLen:=by
 rcases h.row.2 with ⟨rfl,h0⟩|⟨g,cap,aD,rfl,_,_,h1,h2,_⟩
 ·exact⟨none,0,by rw[h0],by omega,Nat.zero_le _⟩
 ·exact⟨_,cap,rfl,h1,h2⟩
theorem HqAt.qsu(h:HqAt W hb f v ys)(hB:Bw W W'):W'.ownsRow 0 226 2 v ys.length (aks ys):=qab (T:=fun _=>False) h.row (Keep.new hB) (fun _ _ e=>e)
theorem qrz{lt:Ak->Ak->Bool}(O:Ord lt)(h:HqAt w hb (.func (.func 176) #[] #[]) v ys)(hl:ys.length<=50)(hU:qbp lt ys)(p:Ak)(cf:Befq w (fun y=>y=hb\/v.ownBlock=some y) (ys++[p]) lt):
  Cl 177 #[vP hb,akv p] w fun e w'=>e=.returned (.tuple #[])/\∃v' zs,zs.Perm (ys++[p])/\qbp lt zs/\HqAt w' hb (.func (.func 176) #[] #[]) v' zs/\Keep (fun y=>y=hb\/v.ownBlock=some y) w w'/\(v'.ownBlock=v.ownBlock\/∃g,v'.ownBlock=some g/\w.heap.size<=g):=by
 have ak:=h.at_.lt;have c1:=h.at_.cell 1;simp only[xq0,xq1,xq2]at c1;have cu:=fun (W:World) (hB:Bw w W) (nb:Nat) (cU:Blk W nb 226 #[nptr p.p.blk,vI p.s])=>qby qw1 qv7 (by omega) W v ys.length (aks ys) (h.qsu hB) nb 1 1 (by omega) [nptr p.p.blk,vI p.s] rfl cU (fun u hu=>by simp at hu;rcases hu with rfl|rfl<;>rfl) (by unfold maxLen;omega) (by omega)
 have aP:∀W,Bw w W->∀g' cap' w',AppR W v.ownBlock 226 2 (ys.length+1) (aks ys++[nptr p.p.blk,vI p.s]) g' cap' w'->Blk w' hb 254 #[.func (.func 176) #[] #[],v]/\Hid (∀W3,Below (w'.setCell (vA hb 1) (vS g' (ys.length+1) cap')).heap.size (w'.setCell (vA hb 1) (vS g' (ys.length+1) cap')) W3->HqAt W3 hb (.func (.func 176) #[] #[]) (vS g' (ys.length+1) cap') (ys++[p])/\Keep (fun y=>y=hb\/v.ownBlock=some y) w W3/\(v.ownBlock=some g'\/w.heap.size<=g')):=fun W aO g' cap' w' R=>by
  have aZ:=(h.at_.below aO ak).keep R.keep h.ne;have hz:=aO.size;have fB:g'≠hb:=fun e=>by
   rcases R.new with e2|e2
   ·rw[e]at e2;exact h.ne e2
   ·omega
  refine⟨aZ,fun W3 fH=>⟨⟨?_,?_,?_⟩,?_,?_⟩⟩
  ·have:=aZ.set 1 (vS g' (ys.length+1) cap')
   have h3:Blk (w'.setCell (vA hb 1) (vS g' (ys.length+1) cap')) hb 254 #[.func (.func 176) #[] #[],vS g' (ys.length+1) cap']:=by simpa using this
   exact h3.below fH h3.lt
  ·have:aks (ys++[p])=aks ys++[nptr p.p.blk,vI p.s]:=by rw[qpv];rfl
   rw[this,show(ys++[p]).length=ys.length+1 by simp]
   exact qab (T:=fun _=>False) (xrl R.own (by simp[Value.ownBlock];exact fB) _) (Keep.new fH) (fun _ _ e=>e)
  ·simp[Value.ownBlock];exact fB
  ·exact((((Keep.new (T:=fun y=>y=hb\/v.ownBlock=some y) aO).qbo R.keep (fun b _ e=>.inr e))).setCell (p:=vA hb 1) (.inl rfl) _).qc5 fH
  ·exact R.new.imp id (fun e=>by omega)
 have iV:=fun g' cap' W (hW:HqAt W hb (.func (.func 176) #[] #[]) (vS g' (ys.length+1) cap') (ys++[p])) (hk:Keep (fun y=>y=hb\/v.ownBlock=some y) w W) (hn:v.ownBlock=some g'\/w.heap.size<=g') =>
  qu7 (k:=ys.length) O hW (by simp;omega) (by simp) (hU.push p) (fun W2 eI=>cf W2 (hk.qbo eI (fun b af e=>by
   simp[Value.ownBlock]at e
   subst e
   rcases hn with e|e
   ·exact .inr e
   ·omega)))
 have aM:∀(g1 q1:Nat) (W w2:World),(v.ownBlock=some g1\/w.heap.size<=g1)->Keep (fun y=>y=hb\/v.ownBlock=some y) w W->Keep (fun y=>(vS g1 (ys.length+1) q1).ownBlock=some y) W w2->Keep (fun y=>y=hb\/v.ownBlock=some y) w w2/\((vS g1 (ys.length+1) q1).ownBlock=v.ownBlock\/∃g,(vS g1 (ys.length+1) q1).ownBlock=some g/\w.heap.size<=g):=fun g1 q1 W w2 cQ eu fp=>by
  refine⟨eu.qbo fp (fun b af e=>?_),?_⟩
  ·simp[Value.ownBlock]at e
   subst e
   rcases cQ with e|e
   ·exact .inr e
   ·omega
  ·rcases cQ with e|e
   ·left;rw[e];rfl
   ·exact .inr ⟨g1,rfl,e⟩
 obtain⟨a0,dA,hv,dV,jf⟩:=h.form;obtain⟨n,hn⟩:∃n,n=ys.length:=⟨_,rfl⟩;rw[<-hn]at cu aP iV aM hl hv dV;have HV:Hid (v=.slice a0 n dA):=hv;have cx:=h.at_;clear h hU cf hn;subst hv;unfold akv nptr;unfold nptr at cu;generalize qE:aks ys=pp at cu aP;clear qE
 go_enter func177,ntmps177
 go_upto_region 1 with fail
 go_region_law (refine qau rfl (.tmp 8) (.tmp 10) 252 252 rfl _ _ ?_ ?_ (cu _ ?_ ?_ ?_) ?_;(focus (simp[Act.eval,Act.put]));(focus ((try simp[Act.eval,Act.put]);(try rfl)));(focus exact bel2);(focus exact blk2);rintro v1 w1 ⟨g1,q1,rfl,R1⟩;obtain⟨aa,mg⟩:=aP _ (by exact bel2) _ _ _ R1;have f2:=aa.frozen 1;have gJ:=aa.cell 1;have gO:=R1.le;have ie:=R1.mx;simp only[xq0,xq1,xq2]at gJ)
 all_goals go_wp2_with fail
 all_goals obtain⟨qZ,eu,cQ⟩:=mg.out _ (Below.refl _ _)
 all_goals refine(iV _ _ _ qZ eu cQ).mono ?_
 all_goals rintro e w2 ⟨rfl,zs,hp,hh,q_,fp⟩
 all_goals have hF:=aM _ _ _ _ cQ eu fp
 all_goals clear iV aP cu
 all_goals go_wp2_with fail
 all_goals go_end0
 all_goals exact⟨rfl,_,zs,hp,hh,q_,hF.1,hF.2⟩
theorem qg6(h:HqAt w hb f v ys)(hl:ys.length<=100)(hj:ys.length<=j)(pC:j<=1000):
  Cl 234 #[vP hb,vI i,vI j] w fun e w'=>e=.returned (vI i)/\Bw w w':=by
 obtain⟨a0,cap,hv,de,jc⟩:=h.form;have c1:=h.at_.cell 1;have ak:=h.at_.lt;simp only[xq0,xq1,xq2]at c1;rw[hv]at c1;obtain⟨n,hn⟩:∃n,n=ys.length:=⟨_,rfl⟩;rw[<-hn]at c1 de hl hj;have yM:decide (j<n)=false:=decide_eq_false (by omega);have h4:(0:Int)<=j:=by omega
 clear h hv hn hj
 go_enter func234,ntmps234
 go_wp2_with fail
 go_quiet (fail)
 go_wp2_with fail
 go_ret
 exact⟨rfl,xrm (Below.refl _ _) _⟩
theorem qsa(h:HqAt w hb f v []):
  Cl 215 #[vP hb,vI 0] w fun e w'=>e=.returned (.tuple #[])/\Bw w w':=by
 have c1:=qg6 (i:=0) (j:=1) h (by simp) (by simp) (by omega);have c2:=fun W (hW:Bw w W)=>qg6 (i:=0) (j:=2) (h.below hW) (by simp) (by simp) (by omega)
 have ak:=h.at_.lt;simp only[Int.cast_ofNat_Int,Int.natCast_zero]at c1 c2;clear h
 go_enter func215,ntmps215
 go_wp2_with fail
 refine wp_loop_rounds 1 ?_
 rw[rounds_succ]
 go_wp2_with fail
 refine c1.mono ?_
 rintro e w1 ⟨rfl,aa⟩
 go_wp2_with fail
 refine(c2 _ aa).mono ?_
 rintro e w2 ⟨rfl,af⟩
 go_wp2_with fail
 exact xrn (v:=.tuple #[]) (by simp[results,results215,go_sem]) rfl ⟨rfl,qac aa af⟩
theorem qr0{g n s:Nat}(h:W.ownsRow 0 e s (vS g n cap) n xs){m:Nat}(hm:m<=n):W.ownsRow 0 e s (vS g m cap) m (xs.take (m*s)):=by
 obtain⟨hl,hr⟩:=h
 rcases hr with ⟨hv,_⟩|⟨g',cap',aD,hv,hb,hg,h1,h2,h3,h4⟩
 ·cases hv
 ·injection hv with e1 _ e3;injection e1 with e1;injection e1 with e1;subst e1 e3;have wJ:m*s<=n*s:=Nat.mul_le_mul_right s hm
  refine⟨by rw[List.length_take,hl];omega,.inr ⟨g,cap,aD,rfl,hb,hg,by omega,h2,h3,?_⟩⟩
  rw[<-h4,List.take_take]
  congr 1
  omega
theorem HqAt.other(h:HqAt W hb f v ys)(p:Addr)(u:Value)(h1:hb≠p.block)(h2:v.ownBlock≠some p.block):HqAt (W.setCell p u) hb f v ys :=
 ⟨h.at_.other _ _ h1,xrl h.row h2 _,h.ne⟩
def PopQ (hb:Nat)(v:Value)(ys:List Ak)(lt:Ak->Ak->Bool)(w:World)(e:Ending)(w':World):Prop :=
 (ys=[]/\e=.returned (.tuple #[.agg #[.pointer none,vI 0],.bool false])/\Bw w w') \/
 (∃(a:Ak) (v':Value) (zs:List Ak),ys[0]?=some a/\e=.returned (.tuple #[akv a,.bool true])/\(a::zs).Perm ys/\qbp lt zs/\HqAt w' hb (.func (.func 176) #[] #[]) v' zs/\Keep (fun y=>y=hb\/v.ownBlock=some y) w w'/\v'.ownBlock=v.ownBlock)
theorem qwg{lt:Ak->Ak->Bool}(O:Ord lt)(h:HqAt w hb (.func (.func 176) #[] #[]) v ys)(hl:ys.length<=100)(hU:qbp lt ys)(cf:Befq w (fun y=>y=hb\/v.ownBlock=some y) ys lt):
  Cl 179 #[vP hb] w (PopQ hb v ys lt w):=by
 have ak:=h.at_.lt;have c1:=h.at_.cell 1;simp only[xq0,xq1,xq2]at c1
 by_cases h0:ys=[]
 ·subst h0;obtain⟨a0,dA,hv,dV,jf⟩:=h.form;rw[hv]at c1;simp only[List.length_nil]at c1;clear cf hU
  go_enter func179,ntmps179
  go_wp2_with fail
  have b2:Blk ((w.alloc (.cells #[.pointer none,vI 0] 226)).alloc (.cells #[.pointer none,vI 0] 226)) w.heap.size 226 #[.pointer none,vI 0]:=by exact blk2
  have jc:=b2.cell
  exact xrn (v:=.tuple #[.agg #[.pointer none,vI 0],.bool false]) (by simp[results,results179,go_sem,jc]) rfl (.inl ⟨rfl,rfl,by exact bel2⟩)
 ·have cM:0<ys.length:=by cases ys with|nil=>exact absurd rfl h0|cons _ _=>simp
  obtain⟨a,ha⟩:∃a,ys[0]?=some a:=⟨_,xr1 cM⟩;obtain⟨b,dw⟩:∃b,ys[ys.length-1]?=some b:=⟨_,xr1 (by omega)⟩;obtain⟨g,cap,hv,ct,iJ,de,jc,⟨ca,Fj⟩,fa,Il⟩:=h.get ha;obtain⟨g',cap',dW,_,_,_,_,⟨cb,BV⟩,fb,Fq⟩:=h.get dw;rw[hv]at dW;injection dW with e1 _ e3;injection e1 with e1;injection e1 with e1;subst e1 e3;rw[hv]at c1;have f1:=h.at_.frozen 1;have eO:¬(hb=g):=fun e=>iJ e.symm
  obtain⟨m,hm⟩:∃m,ys.length=m+1:=⟨ys.length-1,by omega⟩;have gy:ys.length-1=m:=by omega
  rw[gy]at cb fb BV Fq dw;have av:∀n,(vS g n cap).ownBlock=v.ownBlock:=fun n=>by rw[hv];rfl
  have aC:∀(W1 W:World),Bw w W1->W=(((((W1.setCell (vA g 0) (nptr b.p.blk)).setCell (vA g 1) (vI b.s)).setCell (vA g (m*2)) (.pointer none)).setCell (vA g (m*2+1)) (vI 0)).setCell (vA hb 1) (vS g m cap))->HqAt W hb (.func (.func 176) #[] #[]) (vS g m cap) ((ys.set 0 b).take m)/\Keep (fun y=>y=hb\/v.ownBlock=some y) w W:=by
   rintro W1 W aj rfl
   have h1:=h.below aj
   refine⟨⟨?_,?_,?_⟩,?_⟩
   ·have:=((((h1.at_.other (vA g 0) (nptr b.p.blk) eO).other (vA g 1) (vI b.s) eO).other (vA g (m*2)) (.pointer none) eO).other (vA g (m*2+1)) (vI 0) eO).set 1 (vS g m cap)
    simpa using this
   ·have au:=h1.row;rw[hv]at au;have r1:=((((au.stored 0 (nptr b.p.blk)).1.stored 1 (vI b.s)).1.stored (m*2) (.pointer none)).1.stored (m*2+1) (vI 0)).1;have r2:=qr0 r1 (m:=m) (by omega);have r3:=xrl r2 (a:=(vA hb 1)) (by simp[Value.ownBlock];exact iJ) (vS g m cap);have an:((ys.set 0 b).take m).length=m:=by simp;omega
    rw[an];have qE:aks ((ys.set 0 b).take m)=(((((aks ys).set 0 (nptr b.p.blk)).set 1 (vI b.s)).set (m*2) (.pointer none)).set (m*2+1) (vI 0)).take (m*2):=by
     rw[qtm,qkb,List.take_set_of_le (by omega:m*2<=m*2+1),List.take_set_of_le (Nat.le_refl (m*2))]
    rw[qE]
    exact r3
   ·simp[Value.ownBlock];exact iJ
   ·have hT:v.ownBlock=some g:=by rw[hv];rfl
    exact((((((Keep.new aj).setCell (p:=vA g 0) (.inr hT) _).setCell (p:=vA g 1) (.inr hT) _).setCell (p:=vA g (m*2)) (.inr hT) _).setCell (p:=vA g (m*2+1)) (.inr hT) _).setCell (p:=vA hb 1) (.inl rfl) _)
  have hD:qbr lt ((ys.set 0 b).take m) 0:=by rw[<-gy];exact hU.pop b
  have oU:(a::(ys.set 0 b).take m).Perm ys:=by rw[<-gy];exact qnz ha (by rw[gy];exact dw)
  have aF:∀x∈(ys.set 0 b).take m,x∈ys:=fun x hx=>oU.mem_iff.1 (xru _ hx)
  have ek:∀(W1 W:World),Bw w W1->W=(((((W1.setCell (vA g 0) (nptr b.p.blk)).setCell (vA g 1) (vI b.s)).setCell (vA g (m*2)) (.pointer none)).setCell (vA g (m*2+1)) (vI 0)).setCell (vA hb 1) (vS g m cap)) ->
    Cl 215 #[vP hb,vI 0] W fun e w'=>e=.returned (.tuple #[])/\Keep (fun y=>y=hb\/v.ownBlock=some y) W1 w'/\∀x y,PopQ hb v ys lt w (.returned (.tuple #[akv a,.bool true])) ((w'.setCell (vA w.heap.size 0) x).setCell (vA w.heap.size 1) y):=fun W1 W aj hW=>by
   obtain⟨hH,hK⟩:=aC W1 W aj hW;have eu:Keep (fun y=>y=hb\/v.ownBlock=some y) W1 W:=by
    have hT:v.ownBlock=some g:=by rw[hv];rfl
    rw[hW]
    exact((((((Keep.refl _ _).setCell (p:=vA g 0) (.inr hT) _).setCell (p:=vA g 1) (.inr hT) _).setCell (p:=vA g (m*2)) (.inr hT) _).setCell (p:=vA g (m*2+1)) (.inr hT) _).setCell (p:=vA hb 1) (.inl rfl) _)
   have sR:(vS g m cap).ownBlock≠some w.heap.size:=by simp[Value.ownBlock];omega
   have cG:∀w' zs,(a::zs).Perm ys->qbp lt zs->HqAt w' hb (.func (.func 176) #[] #[]) (vS g m cap) zs->Keep (fun y=>y=hb\/v.ownBlock=some y) w w'->∀x y,PopQ hb v ys lt w (.returned (.tuple #[akv a,.bool true])) ((w'.setCell (vA w.heap.size 0) x).setCell (vA w.heap.size 1) y):=fun w' zs hp hh q_ fp x y =>
    .inr ⟨a,_,zs,ha,rfl,hp,hh,(q_.other _ _ (by simp;omega) sR).other _ _ (by simp;omega) sR,fp.qbo (((Keep.refl (fun b=>b=w.heap.size) _).setCell (p:=vA w.heap.size 0) rfl _).setCell (p:=vA w.heap.size 1) rfl _) (fun b hb e=>by omega),av m⟩
   by_cases hm0:m=0
   ·subst hm0;simp only[List.take_zero]at hH oU
    refine(qsa hH).mono ?_
    rintro e w' ⟨rfl,hB⟩
    exact⟨rfl,eu.trans (Keep.new hB),cG w' [] oU (fun j x y hj hx=>by simp at hx) (hH.below hB) (hK.trans (Keep.new hB))⟩
   ·have an:((ys.set 0 b).take m).length=m:=by simp;omega
    have hs:=qvu (k:=0) O hH (by omega) (by omega) hD (fun W2 eI x hx y hy=>cf W2 (hK.qbo eI (fun k _ e=>.inr (by rw[<-av m];exact e))) x (aF x hx) y (aF y hy))
    refine hs.mono ?_
    rintro e w' ⟨rfl,zs,hp,hh,q_,fp⟩
    exact⟨rfl,eu.qbo fp (fun k _ e=>.inr (by rw[<-av m];exact e)),cG w' zs ((hp.cons a).trans oU) hh q_ (hK.qbo fp (fun k _ e=>.inr (by rw[<-av m];exact e)))⟩
  rw[hm]at c1 de hl;have Ge:(0:Int)<=m:=by omega
  have wU:IntKind.i64.wrap (m:Int)=(m:Int):=by rw[IntKind.wrap_i64];omega
  have cV:=fun (W:World) (hW:Bw w W)=>(⟨(hW.cell (p:=vA hb 1) ak).trans c1,(hW.cell (p:=vA g 0) ct).trans ca,(hW.cell (p:=vA g 1) ct).trans Fj,(hW.cell (p:=vA g (m*2)) ct).trans cb,(hW.cell (p:=vA g (m*2+1)) ct).trans BV,(h.below hW).at_.frozen 1,(by have:=(h.below hW).row;rw[hv]at this;exact this.frozenAt)⟩:_/\_/\_/\_/\_/\_/\∀i,W.frozen? (vA g i)=false)
  have w_:Hid (m=0->b=a):=fun e=>by subst e;rw[ha]at dw;cases dw;rfl
  have Gq:∀y,v.ownBlock=some y->y=g:=fun y e=>by rw[hv]at e;simp[Value.ownBlock]at e;exact e.symm
  clear aC hD oU aF cf hU h hv ha dw h0 cM hm gy av c1 ca Fj cb BV fa Il fb Fq f1;generalize hXX:PopQ hb v ys lt w=X at ek ⊢;clear hXX;unfold nptr at cV ek;unfold akv nptr at ek
  go_enter func179,ntmps179
  obtain⟨W0,bJ⟩:∃W0,W0=(w.alloc (.cells #[.pointer none,vI 0] 226)).alloc (.cells #[.pointer none,vI 0] 226):=⟨_,rfl⟩;have aO:Bw w W0:=by rw[bJ];exact bel2
  have b2:Blk W0 w.heap.size 226 #[.pointer none,vI 0]:=by rw[bJ];exact blk2
  have b4:Blk W0 (w.heap.size+1) 226 #[.pointer none,vI 0]:=by rw[bJ];exact Blk.new' (by simp)
  have cZ:W0.heap.size=w.heap.size+2:=by rw[bJ];simp
  obtain⟨k1,ka,Bf,kb,zQ,Bg,kf⟩:=cV W0 aO;have Km:=kf 0;have h1:=cV _ (show Bw w ((w.alloc (.cells #[.pointer none,vI 0] 226)).alloc (.cells #[.pointer none,vI 0] 226)) by exact bel2);have i1:=h1.1;clear h1
  go_upto_region 4 with fail
  rw[<-bJ];clear bJ i1;have e1:¬(hb=W0.heap.size):=by omega
  have e2:¬(g=W0.heap.size):=by omega
  have Mt:¬(W0.heap.size=hb):=by omega
  have Mu:¬(W0.heap.size=g):=by omega
  have lO:Hid (W0.heap.size=w.heap.size+2):=cZ;clear cZ
  go_region_held3 (fun w'=>w'.cell? (vA hb 1)=some (vS g (m+1) cap)/\w'.cell? (vA g 0)=some (vP a.p.blk)/\w'.cell? (vA g 1)=some (vI a.s)) (go_keep) (fail)
  obtain⟨W5,AE⟩:∃W5,W5=(W0.alloc (.cells #[vP a.p.blk,vI a.s] 226)).drew:=⟨_,rfl⟩;have eM:Bw W0 W5:=by rw[AE];exact bel2
  have b5:Blk W5 W0.heap.size 226 #[vP a.p.blk,vI a.s]:=by rw[AE];exact blk2
  have EM:=b2.below eM b2.lt;have Hj:=b4.below eM b4.lt;have Cj:=qac aO eM;rw[<-AE];clear AE k1 ka Bf kb zQ Bg kf Km b2 b4;obtain⟨k1,ka,Bf,kb,zQ,Bg,kf⟩:=cV W5 Cj;clear cV;have kn:=Hj.cell;have q1:¬(w.heap.size+1=g):=by omega
  have q2:¬(g=w.heap.size+1):=by omega
  have q3:¬(hb=g):=by omega
  have yt:∀(W:World) (p:Addr) (u:Value),(W.setCell p u).drew=W.drew.setCell p u:=fun _ _ _=>rfl
  have EK:Hid (∀(W:World) (p:Addr) (u:Value),(W.setCell p u).drew=W.drew.setCell p u):=yt;clear yt
  by_cases hm0:m=0
  ·have kD:=w_.out hm0;subst hm0;subst kD;simp only[Nat.zero_mul,Nat.zero_add]at kb zQ ek;clear kb zQ w_
   go_upto_region 5 with fail
   go_region
   go_wp2_with fail
   go_region
   go_wp2_with fail
   simp only[EK.out]
   refine(ek W5.drew.drew _ (by exact bel2) rfl).mono ?_
   rintro e w2 ⟨rfl,fp,hX⟩
   have yE:∀y,y≠hb->y≠g->¬(y=hb\/v.ownBlock=some y):=fun y y1 y2 e=>e.elim y1 (fun e=>y2 (Gq y e))
   have s5:=(b5.drew.drew).keep fp (yE _ (by omega) (by omega));have s2:=(EM.drew.drew).keep fp (yE _ (by omega) (by omega));have t5:=s5.cell;have t2:=s2.cell;have u2:=s2.frozen;have z0:=t5 0;have z1:=t5 1;simp only[xq0,xq1,xq2]at z0 z1;clear ek k1 ka Bf Bg kf
   go_wp2_with fail
   have s3:=((s2.set 0 (vP b.p.blk)).set 1 (vI b.s)).cell
   exact xrn (v:=.tuple #[.agg #[vP b.p.blk,vI b.s],.bool true]) (by simp[results,results179,go_sem,s3]) rfl (hX _ _)
  ·have Dy:¬(0=m):=fun e=>hm0 e.symm
   have r1:¬(0=m*2):=by omega
   have r2:¬(1=m*2):=by omega
   have r3:¬(1=m*2+1):=by omega
   have r4:¬(m*2=0):=by omega
   have r5:¬(m*2=1):=by omega
   have r6:¬(m*2+1=1):=by omega
   go_upto_region 5 with fail
   go_region
   go_wp2_with fail
   go_region
   go_wp2_with fail
   simp only[EK.out]
   refine(ek W5.drew.drew _ (by exact bel2) rfl).mono ?_
   rintro e w2 ⟨rfl,fp,hX⟩
   have yE:∀y,y≠hb->y≠g->¬(y=hb\/v.ownBlock=some y):=fun y y1 y2 e=>e.elim y1 (fun e=>y2 (Gq y e))
   have s5:=(b5.drew.drew).keep fp (yE _ (by omega) (by omega));have s2:=(EM.drew.drew).keep fp (yE _ (by omega) (by omega));have t5:=s5.cell;have t2:=s2.cell;have u2:=s2.frozen;have z0:=t5 0;have z1:=t5 1;simp only[xq0,xq1,xq2]at z0 z1;clear ek k1 ka Bf kb zQ Bg kf
   go_wp2_with fail
   have s3:=((s2.set 0 (vP a.p.blk)).set 1 (vI a.s)).cell
   exact xrn (v:=.tuple #[.agg #[vP a.p.blk,vI a.s],.bool true]) (by simp[results,results179,go_sem,s3]) rfl (hX _ _)
end
end Go.Proofs.YtphclnolomgjoaaGreatDoor
