import Derived.Test.YtphclnolomgjoaaGreatDoorB14
set_option linter.unusedVariables false
set_option linter.unusedSimpArgs false
set_option maxRecDepth 100000
set_option maxHeartbeats 4000000
namespace Go.Proofs.YtphclnolomgjoaaGreatDoor
open Tryz
section
open Go.RowKit Go.Shelf
variable {nodes:List Node}{w:World}{bt rr:Nat}{va:Value}{l:List Pw}{p:Pw}{n:Node}
attribute [local go_sem] Oper.semAt_some
theorem qhw{α : Type}{f : α -> Bool}{l:List α}(h:l.all (fun x=>!f x)=true):l.find? f=none:=by
 rw[List.find?_eq_none];intro x hx
 have:=List.all_eq_true.1 h x hx
 simpa using this
theorem qmg{α : Type}{f : α -> Bool}{l pre:List α}{x : α}(h:pre++[x] <+: l)(hp:pre.all (fun x=>!f x)=true)(hx:f x=true):l.find? f=some x:=by
 obtain⟨t,rfl⟩:=h;rw[List.append_assoc,List.find?_append,qhw hp]
 simp[hx]
theorem qot(T0:Tree nodes)(hB:qa1 nodes)(h:Rd w nodes bt rr va l)(hp:PwIn w nodes p)(hn:n∈nodes)(gv:n.blk=p.q):
  Calls prog 210 #[.pointer (some ⟨rr,0,none⟩),nptr p.blk] w fun e w'=>e=.returned (optP (vicP nodes l p.x n))/\Below w.heap.size w w':=by
 have bz:∀k:Nat,Fence.wide.depth.isSome=true->1<=k:=fun k h=>by simp[Fence.wide]at h
 have xj:rr<w.heap.size:=xrb _ _ h.bk;have B0:bt<w.heap.size:=xrb _ _ h.ad;have cn:=fun W' (aX:Below w.heap.size w W')=>qq5 (w:=W') (h.below aX).ad ⟨(h.below aX).ps.row,(h.below aX).ps.works⟩ (by have:=h.ps.len;omega)
 have xu:=fun b (hb:va.ownBlock=some b)=>qap h.ps.row hb
 have lL:∀q∈l,∀W',Below w.heap.size w W'->Calls prog 231 #[.pointer (some ⟨rr,0,none⟩),nptr q.blk,nptr p.blk] W' fun e w'=>e=.returned (.bool ((ups nodes 4 n).any (qhr nodes l p.x q.x)))/\Below W'.heap.size W' w':=fun q hq W' aX=>by
  obtain⟨m,hm,h1,h2⟩:=h.ps.leaf q hq
  exact qwp T0 hB (h.below aX) (hp.below aX) ((h.ps.one hq).below aX) hn gv hm h1 h2
 unfold vicP;generalize hf:(fun q:Pw=>(ups nodes 4 n).any (qhr nodes l p.x q.x))=f;have sA:∀q∈l,∀W',Below w.heap.size w W'->Calls prog 231 #[.pointer (some ⟨rr,0,none⟩),.pointer (some ⟨q.blk,0,none⟩),.pointer (some ⟨p.blk,0,none⟩)] W' fun e w'=>e=.returned (.bool (f q))/\Below W'.heap.size W' w':=by
  rw[<-hf];exact lL
 clear lL hf
 refine(xrv (n:=3)).1 ?_
 refine callsIn_of_wp_marks func210 rfl trivial ?_ rfl
 unfold nptr at cn ⊢;simp only[ntmps210,List.size_toArray,List.length_cons,List.length_nil,Nat.reduceAdd,Nat.reduceSub,Array.replicate_succ,Array.replicate_zero,List.push_toArray,List.append_toArray,List.nil_append,List.cons_append];obtain⟨W0,bg⟩:∃W0,W0=((w.alloc (.cells #[.pointer (some ⟨rr,0,none⟩)] 186)).alloc (.cells #[.pointer (some ⟨p.blk,0,none⟩)] 95)).alloc (.cells #[.pointer none] 95):=⟨_,rfl⟩;have bj:Below w.heap.size w W0:=by rw[bg];exact bel2
 have x1:Box W0 w.heap.size 186 (.pointer (some ⟨rr,0,none⟩)):=by rw[bg];exact((Box.new w 186 _).alloc _).alloc _
 have x2:Box W0 (w.heap.size+1) 95 (.pointer (some ⟨p.blk,0,none⟩)):=by
  have:=(Box.new (w.alloc (.cells #[.pointer (some ⟨rr,0,none⟩)] 186)) 95 (.pointer (some ⟨p.blk,0,none⟩))).alloc (.cells #[.pointer none] 95)
  rw[xrt]at this;rw[bg];exact this
 have x3:Box W0 (w.heap.size+1+1) 95 (.pointer none):=by
  have:=Box.new ((w.alloc (.cells #[.pointer (some ⟨rr,0,none⟩)] 186)).alloc (.cells #[.pointer (some ⟨p.blk,0,none⟩)] 95)) 95 (.pointer none)
  rw[xrt,xrt]at this;rw[bg];exact this
 have dw:W0.heap.size=w.heap.size+3:=by rw[bg];simp
 have c1:=x1.cell;have c2:=(h.below bj).bk;rw[bg]at c1 c2
 gi_wp2_with ((first|refine⟨trivial,bz _,?_⟩|refine⟨trivial,?_⟩);gi_at_call 230;refine(xrv.2 (cn _ (by exact bel1))).mono ?_;rintro e W3 ⟨rfl,rfl,aB⟩)
 obtain⟨W,hW⟩:∃W,W=W0.alloc (.cells #[.pointer (some ⟨bt,1,none⟩)] 132):=⟨_,rfl⟩;have cY:W.heap.size=w.heap.size+4:=by rw[hW];simp[dw]
 have z1:Box W w.heap.size 186 (.pointer (some ⟨rr,0,none⟩)):=by rw[hW];exact x1.alloc _
 have z2:Box W (w.heap.size+1) 95 (.pointer (some ⟨p.blk,0,none⟩)):=by rw[hW];exact x2.alloc _
 have z3:Box W (w.heap.size+1+1) 95 (.pointer none):=by rw[hW];exact x3.alloc _
 have bZ:Below w.heap.size w W:=by rw[hW];exact bj.alloc bj.size _
 simp only[xrt]at aB;simp only[<-bg,<- hW]at aB ⊢;have hq:=aB (fun b=>b=w.heap.size+1+1) (fun b e=>by omega) (fun e=>by omega) (fun b hb e=>by have:=xu b hb;omega);clear aB cn hW bg c1 c2;have ay:∀b,b<W.heap.size->¬(False\/(W.heap.size<=b/\b<W.heap.size+2+4)):=fun b hb e=>by rcases e with e|e;exact e;omega
 refine qhm (T:=fun b=>b=w.heap.size+1+1) (S:=fun _=>False) rfl (enters_of func238 (by kernel_rfl) rfl) hq (Below.refl _ _) (fun _=>rfl) (fun b e=>e.elim) (fun b e=>by omega)
  (fun (pre:List Pw) A=>pre.all (fun x=>!f x)=true/\Box A w.heap.size 186 (.pointer (some ⟨rr,0,none⟩))/\Box A (w.heap.size+1) 95 (.pointer (some ⟨p.blk,0,none⟩))/\Box A (w.heap.size+1+1) 95 (.pointer none)/\Below w.heap.size w A)
  (fun c (pre:List Pw) A=>c=.ret/\(∃q lS,pre=lS++[q]/\lS.all (fun x=>!f x)=true/\f q=true/\Box A (w.heap.size+1+1) 95 (.pointer (some ⟨q.blk,0,none⟩)))/\Below w.heap.size w A)
  (fun pre A B hs hk=>⟨hs.1,hs.2.1.keep hk (ay _ (by omega)),hs.2.2.1.keep hk (ay _ (by omega)),hs.2.2.2.1.keep hk (ay _ (by omega)),hs.2.2.2.2.trans (hk.toBelow hs.2.2.2.2.size (fun b bh=>ay b (by omega)))⟩)
  (fun c pre A B hs hk=>by
   obtain⟨h1,⟨q,lS,h2,h3,h4,h5⟩,h6⟩:=hs
   exact⟨h1,⟨q,lS,h2,h3,h4,h5.keep hk (ay _ (by omega))⟩,h6.trans (hk.toBelow h6.size (fun b bh=>ay b (by omega)))⟩)
  ⟨rfl,z1,z2,z3,bZ⟩
  (fun x=>{tmps:=#[.pointer (some ⟨rr,0,none⟩),.pointer (some ⟨p.blk,0,none⟩),.pointer (some ⟨w.heap.size,0,none⟩),.pointer (some ⟨w.heap.size+1,0,none⟩),.pointer (some ⟨w.heap.size+1+1,0,none⟩),.pointer (some ⟨x.blk,0,none⟩),.pointer (some ⟨rr,0,none⟩),.pointer (some ⟨rr,0,none⟩),.pointer (some ⟨rr,1,none⟩),.pointer (some ⟨bt,1,none⟩),.func (.func 238) #[] #[.pointer (some ⟨w.heap.size+1+1+1,0,none⟩)],.pointer (some ⟨x.blk,0,none⟩),undef,undef,undef,undef,undef],defers:=[]}) ?assign ?body ?done ?stop
 case assign =>
  intro l x W K hK
  gi_wp2
  exact hK
 case body =>
  rintro l2 pre x W2 ⟨aC,k1,k2,k3,ah⟩ eO ax
  have cm:x∈l:=List.mem_reverse.1 (ax.subset (by simp));have xz:=sA x cm W2 ah;have c1:=k1.cell;have c2:=k2.cell;have ey:Hid (pre.all (fun x=>!f x)=true):=aC;have l1:=k1.lt;have xB:=k2.lt;have l3:=k3.lt;generalize hfx:f x=fx at xz;have xT:Hid (f x=fx):=hfx;clear aC hq hfx ax
  cases fx
  ·gi_wp2_with ((first|refine⟨trivial,bz _,?_⟩|refine⟨trivial,?_⟩);gi_at_call 231;refine(CallsIn.inRound l2 (xrv.2 xz)).mono ?_;rintro e W5 ⟨rfl,bE⟩)
   refine⟨Keep.new bE,?_,k1.below bE l1,k2.below bE xB,k3.below bE l3,qab ah bE⟩
   rw[List.all_append,ey.out]
   simp[xT.out]
  ·gi_wp2_with ((first|refine⟨trivial,bz _,?_⟩|refine⟨trivial,?_⟩);gi_at_call 231;refine(CallsIn.inRound l2 (xrv.2 xz)).mono ?_;rintro e W5 ⟨rfl,bE⟩;have k5:=k3.below bE l3;have c5:=k5.cell;have f5:=k5.frozen)
   exact⟨(Keep.new (T:=fun b=>b=w.heap.size+1+1\/W.heap.size+2+4<=b) bE).setCell (p:=⟨w.heap.size+1+1,0,none⟩) (.inl rfl) _,rfl,⟨x,pre,rfl,ey.out,xT.out,k5.set _⟩,(qab ah bE).setCell (by simp;omega) _⟩
 case done =>
  rintro A ⟨aC,k1,k2,k3,ah⟩ hD
  have hc:=k3.cell;have hf:=k3.frozen
  gi_wp2
  have fU:(A.setCell ⟨w.heap.size+1+1,0,none⟩ (.pointer none)).heap[W.heap.size]?=some (.deferred (some [])):=(Below.heap_setCell _ _ _ _ (by simp;omega)).trans hD;have ag:=((k3.set (.pointer none)).put W.heap.size (.deferred none) (by omega)).cell
  refine⟨by simp,.inl ⟨_,_,rfl,run_takeDeferred fU,?_⟩⟩
  refine⟨.pointer none,by simp[results,results210,go_sem,ag],?_,qay (ah.setCell (by simp;omega) _) _ _ (by omega)⟩
  rw[qhw aC];rfl
 case stop =>
  rintro c pre A ax ⟨rfl,⟨q,lS,rfl,h3,h4,aU⟩,ah⟩ hD
  gi_wp2
  have ag:=(aU.put W.heap.size (.deferred none) (by omega)).cell
  refine⟨by simp,.inl ⟨_,_,rfl,run_takeDeferred hD,?_⟩⟩
  refine⟨.pointer (some ⟨q.blk,0,none⟩),by simp[results,results210,go_sem,ag],?_,qay ah _ _ (by omega)⟩
  rw[qmg ax h3 h4];rfl
end
section
open Go.RowKit
variable {W W' w w':World}{cap hb i j k:Nat}{f v:Value}{T:Nat->Prop}{e:TypeId}{xs:List Value}
structure Ak where
 p:Pw
 s:Int
variable {ys:List Ak}
def akv (a:Ak):Value:=.agg #[nptr a.p.blk,.int .i64 a.s]
def aks (l:List Ak):List Value:=l.flatMap fun a=>[nptr a.p.blk,.int .i64 a.s]
theorem qp4(a b:List Ak):aks (a++b)=aks a++aks b:=by simp[aks]
theorem qnl:∀(l:List Ak) (i:Nat) (a:Ak),l[i]?=some a->(aks l)[i*2]?=some (nptr a.p.blk)/\(aks l)[i*2+1]?=some (.int .i64 a.s)
 | [],i,a,h=>by simp at h
 |x::l,0,a,h=>by simp at h;subst h;simp[aks]
 |x::l,i+1,a,h=>by
  have ih:=qnl l i a (by simpa using h);have e:aks (x::l)=[nptr x.p.blk,.int .i64 x.s]++aks l:=rfl;rw[e,show(i+1)*2=i*2+2 by omega,show i*2+2+1=i*2+1+2 by omega]
  simpa using ih
theorem qkz:∀(l:List Ak) (i:Nat) (b:Ak),aks (l.set i b)=((aks l).set (i*2) (nptr b.p.blk)).set (i*2+1) (.int .i64 b.s)
 | [],i,b=>by simp[aks]
 |x::l,0,b=>by simp[aks]
 |x::l,i+1,b=>by
  have ih:=qkz l i b;have e:∀l,aks (x::l)=nptr x.p.blk :: .int .i64 x.s::aks l:=fun l=>rfl
  rw[xr7,e,e,ih,show(i+1)*2=i*2+1+1 by omega,show i*2+1+1+1=(i*2+1)+1+1 by omega];simp only[xr7]
theorem quv(l:List Ak)(m:Nat):aks (l.take m)=(aks l).take (m*2):=by
 induction l generalizing m with
 |nil=>simp[aks]
 |cons x l ih =>
  cases m with
  |zero=>simp[aks]
  |succ m =>
   have e:∀l,aks (x::l)=nptr x.p.blk :: .int .i64 x.s::aks l:=fun l=>rfl
   rw[List.take_succ_cons,e,e,ih,show(m+1)*2=m*2+1+1 by omega];simp only[List.take_succ_cons]
structure HqAt (W:World) (hb:Nat) (f v:Value) (ys:List Ak):Prop where
 at_:Blk W hb 254 #[f,v]
 row:W.ownsRow 0 226 2 v ys.length (aks ys)
 ne:v.ownBlock≠some hb
theorem HqAt.get(h:HqAt W hb f v ys){p:Ak}(hi:ys[i]?=some p):∃g cap,v=.slice (some ⟨g,0,none⟩) ys.length cap/\g<W.heap.size/\g≠hb/\ys.length<=cap/\cap<=maxLen/\(W.cell? ⟨g,i*2,none⟩=some (nptr p.p.blk)/\W.cell? ⟨g,i*2+1,none⟩=some (.int .i64 p.s))/\(W.frozen? ⟨g,i*2,none⟩=false/\W.frozen? ⟨g,i*2+1,none⟩=false):=by
 obtain⟨g,cap,rfl,h1,h2⟩:=qa9 h.row (Nat.lt_of_le_of_lt (Nat.zero_le _) (xr0.1 hi).1);have t1:=h.row.cells (g:=g) rfl (i*2) (nptr p.p.blk) (qnl _ _ _ hi).1;have t2:=h.row.cells (g:=g) rfl (i*2+1) (.int .i64 p.s) (qnl _ _ _ hi).2;rw[Addr.add_lit,Nat.zero_add]at t1 t2
 exact⟨g,cap,rfl,qap h.row rfl,fun e=>h.ne (by simp[Value.ownBlock,e]),h1,h2,⟨t1,t2⟩,h.row.frozenAt _,h.row.frozenAt _⟩
theorem HqAt.drew(h:HqAt W hb f v ys):HqAt W.drew hb f v ys:=⟨h.at_.drew,h.row.drew,h.ne⟩
theorem HqAt.below(h:HqAt W hb f v ys)(hB:Below W.heap.size W W'):HqAt W' hb f v ys :=
 ⟨h.at_.below hB h.at_.lt,qaf (T:=fun _=>False) h.row (Keep.new hB) (fun _ _ e=>e),h.ne⟩
theorem qud(h:HqAt w hb f v ys)(hl:ys.length<=100){a b:Ak}(hi:ys[i]?=some a)(hj:ys[j]?=some b)(mg:i≠j):
  Calls prog 233 #[.pointer (some ⟨hb,0,none⟩),.int .i64 i,.int .i64 j] w fun e w'=>e=.returned (.tuple #[])/\HqAt w' hb f v (swp ys i j a b)/\Keep (fun y=>v.ownBlock=some y) w w':=by
 obtain⟨g,cap,hv,bK,iW,cS,fl,⟨ci,qv⟩,fi,uO⟩:=h.get hi;obtain⟨g',av,dd,_,_,_,_,⟨cj,qw⟩,fj,uP⟩:=h.get hj;rw[hv]at dd;injection dd with e1 _ e3;injection e1 with e1;injection e1 with e1;subst e1 e3;have ep:=(xr0.1 hi).1;have fE:=(xr0.1 hj).1;have c1:=h.at_.cell 1;have ak:=h.at_.lt;simp only[xq0,xq1,xq2]at c1;rw[hv]at c1;obtain⟨n,hn⟩:∃n,n=ys.length:=⟨_,rfl⟩;rw[<-hn]at c1 ep fE cS hl;have h1:(i:Int)<n:=by omega
 have h2:(0:Int)<=i:=by omega
 have h3:(j:Int)<n:=by omega
 have h4:(0:Int)<=j:=by omega
 have zj:¬(j=i):=fun e=>mg e.symm
 have eQ:¬(hb=g):=fun e=>iW e.symm
 have k1:¬(j*2=i*2):=by omega
 have k2:¬(j*2+1=i*2):=by omega
 have k3:¬(j*2=i*2+1):=by omega
 have k4:¬(j*2+1=i*2+1):=by omega
 obtain⟨WX,v9⟩:∃WX,WX=(((w.setCell ⟨g,i*2,none⟩ (nptr b.p.blk)).setCell ⟨g,i*2+1,none⟩ (.int .i64 b.s)).setCell ⟨g,j*2,none⟩ (nptr a.p.blk)).setCell ⟨g,j*2+1,none⟩ (.int .i64 a.s):=⟨_,rfl⟩;have aK:HqAt WX hb f v (swp ys i j a b)/\Keep (fun y=>v.ownBlock=some y) w WX:=by
  subst hv;rw[v9]
  refine⟨⟨(((h.at_.other _ _ eQ).other _ _ eQ).other _ _ eQ).other _ _ eQ,?_,h.ne⟩,?_⟩
  ·have r1:=((((h.row.stored (i*2) (nptr b.p.blk)).1.stored (i*2+1) (.int .i64 b.s)).1.stored (j*2) (nptr a.p.blk)).1.stored (j*2+1) (.int .i64 a.s)).1;rw[qlx]
   have:aks (swp ys i j a b)=(((((aks ys).set (i*2) (nptr b.p.blk)).set (i*2+1) (.int .i64 b.s)).set (j*2) (nptr a.p.blk)).set (j*2+1) (.int .i64 a.s)):=by unfold swp;rw[qkz,qkz]
   rw[this]
   exact r1
  ·exact((((Keep.refl _ _).setCell (p:=⟨g,i*2,none⟩) (by simp[Value.ownBlock]) _).setCell (p:=⟨g,i*2+1,none⟩) (by simp[Value.ownBlock]) _).setCell (p:=⟨g,j*2,none⟩) (by simp[Value.ownBlock]) _).setCell (p:=⟨g,j*2+1,none⟩) (by simp[Value.ownBlock]) _
 have HP:Hid (HqAt WX hb f v (swp ys i j a b)/\Keep (fun y=>v.ownBlock=some y) w WX):=aK;have An:Hid (WX=(((w.setCell ⟨g,i*2,none⟩ (nptr b.p.blk)).setCell ⟨g,i*2+1,none⟩ (.int .i64 b.s)).setCell ⟨g,j*2,none⟩ (nptr a.p.blk)).setCell ⟨g,j*2+1,none⟩ (.int .i64 a.s)):=v9;clear aK h hi hj hn v9;unfold nptr at ci cj
 go_enter func233,ntmps233
 go_wp2_with fail
 go_region
 all_goals go_wp2_with fail
 go_end0
 obtain⟨p1,p2⟩:=HP.out;have hz:=An.out;unfold nptr at hz;rw[hz]at p1 p2
 exact⟨rfl,p1.drew,p2.drew⟩
theorem qqp(h:HqAt w hb (.func (.func 176) #[] #[]) v ys)(hl:ys.length<=100){a:Ak}(hi:ys[i]?=some a)(k_:j<=1000)(lt:Ak->Ak->Bool)
  (bB:∀W,Below w.heap.size w W->∀b,ys[j]?=some b->Calls prog 176 #[akv b,akv a] W fun e w'=>e=.returned (.bool (lt b a))/\Below W.heap.size W w') :
  Calls prog 234 #[.pointer (some ⟨hb,0,none⟩),.int .i64 i,.int .i64 j] w fun e w'=>e=.returned (.int .i64 (match ys[j]? with|some b=>if lt b a then(j:Int) else(i:Int)|none=>(i:Int)))/\Below w.heap.size w w':=by
 obtain⟨g,cap,hv,bK,iW,cS,fl,⟨ci,qv⟩,fi,uO⟩:=h.get hi;have ep:=(xr0.1 hi).1;have c0:=h.at_.cell 0;have c1:=h.at_.cell 1;have ak:=h.at_.lt;simp only[xq0,xq1,xq2]at c0 c1;rw[hv]at c1;obtain⟨n,hn⟩:∃n,n=ys.length:=⟨_,rfl⟩;rw[<-hn]at c1 ep cS hl;have h1:(i:Int)<n:=by omega
 have h2:(0:Int)<=i:=by omega
 have h4:(0:Int)<=j:=by omega
 have HN:Hid (n=ys.length):=hn;clear hn
 cases hj:ys[j]? with
 |none =>
  have rA:decide (j<n)=false:=decide_eq_false (by have:=List.getElem?_eq_none_iff.1 hj;have:=HN.out;omega);clear bB h hj hi hv
  simp only
  go_enter func234,ntmps234
  go_wp2_with fail
  go_quiet (fail)
  go_wp2_with fail
  go_ret
  exact⟨rfl,xrm (Below.refl _ _) _⟩
 |some b =>
  obtain⟨g',av,dd,_,_,_,_,⟨cj,qw⟩,fj,uP⟩:=h.get hj;rw[hv]at dd;injection dd with e1 _ e3;injection e1 with e1;injection e1 with e1;subst e1 e3;have i_:(j:Int)<n:=by have:=(xr0.1 hj).1;have:=HN.out;omega
  have rA:decide ((j:Int)<n)=true:=decide_eq_true i_;have fu:=fun W hW=>bB W hW b hj
  unfold akv nptr at fu;unfold nptr at ci cj;clear bB h hi hj hv
  simp only
  generalize lt b a=t at fu ⊢
  go_enter func234,ntmps234
  go_upto_region 1 with fail
  go_cut [34] from 7 (fun q wx=>q=.bool t/\Below w.heap.size w wx)
  case first =>
   go_region_held3 (fun w'=>w'.cell? ⟨hb,0,none⟩=some (.func (.func 176) #[] #[])/\w'.cell? ⟨hb,1,none⟩=some (.slice (some ⟨g,0,none⟩) n cap)/\w'.cell? ⟨g,i*2,none⟩=some (.pointer (some ⟨a.p.blk,0,none⟩))/\w'.cell? ⟨g,i*2+1,none⟩=some (.int .i64 a.s)/\w'.cell? ⟨g,j*2,none⟩=some (.pointer (some ⟨b.p.blk,0,none⟩))/\w'.cell? ⟨g,j*2+1,none⟩=some (.int .i64 b.s)) (go_keep)
    (first
    |(go_at_call 176;refine(fu _ ?_).mono ?_;(focus exact bel2);rintro e w1 ⟨rfl,aa⟩;have au:Below w.heap.size w w1:=qab (by exact bel2) aa;have r0:=(au.cell (p:=⟨hb,0,none⟩) ak).trans c0;have r1:=(au.cell (p:=⟨hb,1,none⟩) ak).trans c1;have r2:=(au.cell (p:=⟨g,i*2,none⟩) bK).trans ci;have Dr:=(au.cell (p:=⟨g,i*2+1,none⟩) bK).trans qv;have r3:=(au.cell (p:=⟨g,j*2,none⟩) bK).trans cj;have Ds:=(au.cell (p:=⟨g,j*2+1,none⟩) bK).trans qw))
   all_goals go_wp2_with fail
   go_meet
   exact⟨rfl,au⟩
  case rest =>
   obtain⟨rfl,dF⟩:=hcut
   cases t
   ·go_wp2_with fail
    go_ret
    exact⟨rfl,dF⟩
   ·go_wp2_with fail
    go_ret
    exact⟨rfl,dF⟩
def Befq (w:World)(T:Nat->Prop)(ys:List Ak)(lt:Ak->Ak->Bool):Prop :=
 ∀W,Keep T w W->∀a∈ys,∀b∈ys,Calls prog 176 #[akv a,akv b] W fun e w'=>e=.returned (.bool (lt a b))/\Below W.heap.size W w'
theorem qx3{lt:Ak->Ak->Bool}(O:Ord lt)(h:HqAt w hb (.func (.func 176) #[] #[]) v ys)(hl:ys.length<=100)(hk:k<ys.length)(hU:qgi lt ys k)(bB:Befq w (fun y=>v.ownBlock=some y) ys lt):
  Calls prog 214 #[.pointer (some ⟨hb,0,none⟩),.int .i64 k] w fun e w'=>e=.returned (.tuple #[])/\∃zs,zs.Perm ys/\qb2 lt zs/\HqAt w' hb (.func (.func 176) #[] #[]) v zs/\Keep (fun y=>v.ownBlock=some y) w w':=by
 have ak:=h.at_.lt;obtain⟨T,hT⟩:∃T:Nat->Prop,T=fun y=>v.ownBlock=some y:=⟨_,rfl⟩
 rw[<-hT]at bB ⊢;have HT:Hid (T=fun y=>v.ownBlock=some y):=hT;clear hT
 go_enter func214,ntmps214
 go_wp2_with fail
 go_loopg [1] k (fun q vk wr=>∃(j:Nat) (zs:List Ak),vk=.int .i64 j/\j<=q/\j<zs.length/\zs.Perm ys/\qgi lt zs j/\HqAt wr hb (.func (.func 176) #[] #[]) v zs/\Keep T w wr)
 case atStart=>exact⟨k,ys,rfl,Nat.le_refl _,hk,List.Perm.refl _,hU,h,Keep.refl _ _⟩
 case round =>
  clear h hU hk;obtain⟨j,zs,rfl,wD,fE,aN,hU,hH,hK⟩:=hrel;have iI:zs.length<=100:=by rw[aN.length_eq];exact hl
  by_cases hj0:j=0
  ·subst hj0;have aV:=hU.zero;have HE:Hid (qb2 lt zs):=aV;clear aV hU
   go_wp2_with fail
   go_end0
   exact⟨rfl,zs,aN,HE.out,hH,hK⟩
  ·obtain⟨a,ha⟩:∃a,zs[j]?=some a:=⟨_,xr1 fE⟩;obtain⟨b,ct⟩:∃b,zs[(j-1) / 2]?=some b:=⟨_,xr1 (by omega)⟩;have pd:=quo2 j (by omega);obtain⟨p,hp⟩:∃p,p=(j-1) / 2:=⟨_,rfl⟩;rw[<-hp]at ct pd;have mo:p<j:=by omega
   have HP:Hid (p=(j-1) / 2):=hp;clear hp;obtain⟨g,cap,hv,bK,iW,cS,fl,⟨ci,qv⟩,fi,uO⟩:=hH.get ha;obtain⟨g',av,dd,_,_,_,_,⟨cj,qw⟩,fj,uP⟩:=hH.get ct;rw[hv]at dd;injection dd with e1 _ e3;injection e1 with e1;injection e1 with e1;subst e1 e3;have c0:=hH.at_.cell 0;have c1:=hH.at_.cell 1;have rm:=hH.at_.lt;simp only[xq0,xq1,xq2]at c0 c1;rw[hv]at c1;have ik:=aN.mem_iff.1 (xr2 ha);have vL:=aN.mem_iff.1 (xr2 ct);have fu:=fun W (hW:Below wr.heap.size wr W)=>bB W (hK.trans (Keep.new hW)) a ik b vL
   have jv:=fun W (hW:Below wr.heap.size wr W)=>qud (hH.below hW) iI ha ct (by omega)
   obtain⟨n,hn⟩:∃n,n=zs.length:=⟨_,rfl⟩;rw[<-hn]at c1 cS fE iI;have HN:Hid (n=zs.length):=hn;have HV:Hid (v=.slice (some ⟨g,0,none⟩) zs.length cap):=hv;have mY:(j:Int)<n:=by omega
   have rz:(0:Int)<=j:=by omega
   have BS:(0:Int)<j:=by omega
   have lA:(p:Int)<n:=by omega
   have mm:(0:Int)<=p:=by omega
   unfold akv nptr at fu;unfold nptr at ci cj;have HH:Hid (HqAt wr hb (.func (.func 176) #[] #[]) v zs):=hH;have HA:Hid (zs[j]?=some a/\zs[p]?=some b):=⟨ha,ct⟩;clear hn hv ha ct hH hj0;generalize hlt0:lt a b=t at fu;have qi:Hid (lt a b=t):=hlt0;clear hlt0
   go_upto_region 2 with fail
   go_cut [29] from 5 to 34 (fun q wx=>q=.bool (!t)/\Below wr.heap.size wr wx)
   case first =>
    go_region_held3 (fun w'=>w'.cell? ⟨hb,0,none⟩=some (.func (.func 176) #[] #[])/\w'.cell? ⟨hb,1,none⟩=some (.slice (some ⟨g,0,none⟩) n cap)/\w'.cell? ⟨g,j*2,none⟩=some (.pointer (some ⟨a.p.blk,0,none⟩))/\w'.cell? ⟨g,j*2+1,none⟩=some (.int .i64 a.s)/\w'.cell? ⟨g,p*2,none⟩=some (.pointer (some ⟨b.p.blk,0,none⟩))/\w'.cell? ⟨g,p*2+1,none⟩=some (.int .i64 b.s)) (go_keep)
     (first
     |(go_at_call 176;refine(fu _ ?_).mono ?_;(focus exact bel2);rintro e w1 ⟨rfl,aa⟩;have au:Below wr.heap.size wr w1:=qab (by exact bel2) aa;have r0:=(au.cell (p:=⟨hb,0,none⟩) rm).trans c0;have r1:=(au.cell (p:=⟨hb,1,none⟩) rm).trans c1;have r2:=(au.cell (p:=⟨g,j*2,none⟩) bK).trans ci;have Dr:=(au.cell (p:=⟨g,j*2+1,none⟩) bK).trans qv;have r3:=(au.cell (p:=⟨g,p*2,none⟩) bK).trans cj;have Ds:=(au.cell (p:=⟨g,p*2+1,none⟩) bK).trans qw))
    all_goals go_wp2_with fail
    go_meet
    exact⟨rfl,au⟩
   case rest =>
    obtain⟨rfl,dF⟩:=hcut;clear c0 c1 ci cj qv qw fi fj uO uP fu
    cases t
    ·have aV:=hU.stop HA.out.1 (by rw[<-HP.out];exact HA.out.2) qi.out;have HE:Hid (qb2 lt zs):=aV;clear aV hU
     go_wp2_with fail
     exact xrn (v:=.tuple #[]) (by simp[results,results214,go_sem]) rfl ⟨rfl,zs,aN,HE.out,HH.out.below dF,hK.trans (Keep.new dF)⟩
    ·go_wp2_with fail
     refine(jv _ dF).mono ?_
     rintro e w3 ⟨rfl,oe,eH⟩
     have vy:qgi lt (swp zs j p a b) p:=by
      have:=hU.step O (by omega) HA.out.1 (by rw[<-HP.out];exact HA.out.2) qi.out
      rw[<-HP.out]at this
      exact this
     have eh:(swp zs j p a b).Perm ys:=(qij (by omega) HA.out.1 HA.out.2).trans aN;have lZ:Keep T w w3:=(hK.trans (Keep.new dF)).trans (by rw[HT.out];exact eH);clear jv hU
     go_wp2_with fail
     go_roundg p
     case measure=>omega
     case rel=>exact⟨p,swp zs j p a b,rfl,Nat.le_refl _,by rw[qlx,<- HN.out];omega,eh,vy,oe,lZ⟩
theorem qqn(h:HqAt w hb (.func (.func 176) #[] #[]) v ys)(hl:ys.length<=100){a:Ak}(hi:ys[i]?=some a)(k_:j<=1000)(lt:Ak->Ak->Bool)
  (bB:Befq w (fun y=>v.ownBlock=some y) ys lt) :
  Calls prog 234 #[.pointer (some ⟨hb,0,none⟩),.int .i64 i,.int .i64 j] w fun e w'=>e=.returned (.int .i64 (fo lt ys a i j))/\Below w.heap.size w w':=by
 refine(qqp h hl hi k_ lt (fun W hW b hb=>bB W (Keep.new hW) b (xr2 hb) a (xr2 hi))).mono ?_
 rintro e w' ⟨rfl,hB⟩
 refine⟨?_,hB⟩
 unfold fo
 cases ys[j]? with
 |none=>rfl
 |some b=>simp only;split<;>rfl
theorem Befq.keep{lt:Ak->Ak->Bool}(h:Befq w T ys lt)(hk:Keep T w w'):Befq w' T ys lt:=fun W hW=>h W (hk.trans hW)
theorem Befq.perm{zs:List Ak}{lt:Ak->Ak->Bool}(h:Befq w T ys lt)(hp:zs.Perm ys):Befq w T zs lt:=fun W hW a ha b hb=>h W hW a (hp.mem_iff.1 ha) b (hp.mem_iff.1 hb)
theorem qx6{lt:Ak->Ak->Bool}(O:Ord lt)(h:HqAt w hb (.func (.func 176) #[] #[]) v ys)(hl:ys.length<=100)(hk:k<ys.length)(hU:qb8 lt ys k)(bB:Befq w (fun y=>v.ownBlock=some y) ys lt):
  Calls prog 215 #[.pointer (some ⟨hb,0,none⟩),.int .i64 k] w fun e w'=>e=.returned (.tuple #[])/\∃zs,zs.Perm ys/\qb2 lt zs/\HqAt w' hb (.func (.func 176) #[] #[]) v zs/\Keep (fun y=>v.ownBlock=some y) w w':=by
 obtain⟨T,hT⟩:∃T:Nat->Prop,T=fun y=>v.ownBlock=some y:=⟨_,rfl⟩
 have oH:=fun (W:World) (zs:List Ak) (i j:Nat) (a:Ak) (hH:HqAt W hb (.func (.func 176) #[] #[]) v zs) (iI:zs.length<=100) (hi:zs[i]?=some a) (k_:j<=1000) (bh:Befq W T zs lt)=>qqn hH iI hi k_ lt (by rw[<-hT];exact bh)
 rw[<-hT]at bB ⊢;have HT:Hid (T=fun y=>v.ownBlock=some y):=hT;clear hT;obtain⟨N,hN⟩:∃N,N=ys.length:=⟨_,rfl⟩;have HN:Hid (N=ys.length):=hN;rw[<-hN]at hl;clear hN
 go_enter func215,ntmps215
 go_wp2_with fail
 go_loopg [1] N (fun q vk wr=>∃(j:Nat) (zs:List Ak),vk=.int .i64 j/\N<=q+j/\j<N/\zs.Perm ys/\qb8 lt zs j/\HqAt wr hb (.func (.func 176) #[] #[]) v zs/\Keep T w wr)
 case atStart=>exact⟨k,ys,rfl,by omega,by rw[HN.out];exact hk,List.Perm.refl _,hU,h,Keep.refl _ _⟩
 case round =>
  clear h hU hk;obtain⟨j,zs,rfl,wD,fE,aN,hU,hH,hK⟩:=hrel;have sK:zs.length=N:=by rw[HN.out];exact aN.length_eq
  have iI:zs.length<=100:=by omega
  obtain⟨a,ha⟩:∃a,zs[j]?=some a:=⟨_,xr1 (by omega)⟩;obtain⟨f1,hZ⟩:∃f1,f1=fo lt zs a j (2*j+1):=⟨_,rfl⟩;have kW:f1<zs.length:=by rw[hZ];exact qys lt zs a (by omega)
  obtain⟨a1,fk⟩:∃a1,zs[f1]?=some a1:=⟨_,xr1 kW⟩;obtain⟨f2,iu⟩:∃f2,f2=fo lt zs a1 f1 (2*j+2):=⟨_,rfl⟩;have cv:=qkt O hU ha (by rw[<-hZ];exact fk);rw[<-hZ,<- iu]at cv;have mO:=(bB.keep hK).perm aN;have c1:=oH wr zs j (2*j+1) a hH iI ha (by omega) mO;rw[<-hZ]at c1;have c2:=fun W (hW:Below wr.heap.size wr W)=>oH W zs f1 (2*j+2) a1 (hH.below hW) iI fk (by omega) (mO.keep (Keep.new hW))
  rw[<-iu]at c2;have e1:((2*j+1:Nat):Int)=2*(j:Int)+1:=by omega
  have e2:((2*j+2:Nat):Int)=2*(j:Int)+2:=by omega
  rw[e1]at c1;rw[e2]at c2;have HC:Hid (f2=j/\qb2 lt zs\/(f2≠j/\∃b,zs[f2]?=some b/\j<f2/\qb8 lt (swp zs j f2 a b) f2)):=cv;have HA:Hid (zs[j]?=some a):=ha;have HH:Hid (HqAt wr hb (.func (.func 176) #[] #[]) v zs):=hH;have uF:Hid (zs.length=N):=sK;clear cv ha fk hZ iu oH hU e1 e2 hH sK mO kW;have mY:(0:Int)<=j:=by omega
  have rz:(j:Int)<=100:=by omega
  go_wp2_with fail
  refine c1.mono ?_
  rintro e w1 ⟨rfl,aa⟩
  go_wp2_with fail
  refine(c2 _ aa).mono ?_
  rintro e w2 ⟨rfl,ag⟩
  have aP:Below wr.heap.size wr w2:=qab aa ag;clear c1 c2 aa ag
  rcases HC.out with ⟨hf,iA⟩|⟨hf,b,mM,BT,hD⟩
  ·have HE:Hid (qb2 lt zs):=iA;clear iA;subst hf
   go_wp2_with fail
   exact xrn (v:=.tuple #[]) (by simp[results,results215,go_sem]) rfl ⟨rfl,zs,aN,HE.out,HH.out.below aP,hK.trans (Keep.new aP)⟩
  ·have kX:((f2:Int) == (j:Int))=false:=by simp;omega
   have jv:=qud (HH.out.below aP) iI HA.out mM (by omega);have eh:(swp zs j f2 a b).Perm ys:=(qij (by omega) HA.out mM).trans aN;have oG:f2<N:=by have:=(xr0.1 mM).1;have:=uF.out;omega
   have HD:Hid (qb8 lt (swp zs j f2 a b) f2):=hD;clear hD mM hf
   go_wp2_with fail
   refine jv.mono ?_
   rintro e w3 ⟨rfl,oe,eH⟩
   have lZ:Keep T w w3:=(hK.trans (Keep.new aP)).trans (by rw[HT.out];exact eH);clear jv
   go_wp2_with fail
   go_roundg (N-f2)
   case measure=>omega
   case rel=>exact⟨f2,swp zs j f2 a b,rfl,by omega,oG,eh,HD.out,oe,lZ⟩
theorem qz9:(prog.info? 226).map (fun i=>(i.size,i.bytes))=some (2,16):=by kernel_rfl
theorem q0c:(prog.info? 226).bind (fun i=>i.zero)=some (.agg #[.pointer none,.int .i64 0]):=by kernel_rfl
theorem qyw:qfa 226 2 16:=qge qz9 q0c rfl
theorem q0v:prog.underlying 252=some (.slice 226):=by kernel_rfl
theorem HqAt.form(h:HqAt W hb f v ys):∃a cap,v=.slice a ys.length cap/\ys.length<=cap/\cap<=maxLen:=by
 rcases h.row.2 with ⟨rfl,h0⟩|⟨g,cap,aH,rfl,_,_,h1,h2,_⟩
 ·exact⟨none,0,by rw[h0],by omega,Nat.zero_le _⟩
 ·exact⟨_,cap,rfl,h1,h2⟩
theorem HqAt.qtx(h:HqAt W hb f v ys)(hB:Below W.heap.size W W'):W'.ownsRow 0 226 2 v ys.length (aks ys):=qaf (T:=fun _=>False) h.row (Keep.new hB) (fun _ _ e=>e)
theorem qtq{lt:Ak->Ak->Bool}(O:Ord lt)(h:HqAt w hb (.func (.func 176) #[] #[]) v ys)(hl:ys.length<=50)(hU:qb2 lt ys)(p:Ak)(bB:Befq w (fun y=>y=hb\/v.ownBlock=some y) (ys++[p]) lt):
  Calls prog 177 #[.pointer (some ⟨hb,0,none⟩),akv p] w fun e w'=>e=.returned (.tuple #[])/\∃v' zs,zs.Perm (ys++[p])/\qb2 lt zs/\HqAt w' hb (.func (.func 176) #[] #[]) v' zs/\Keep (fun y=>y=hb\/v.ownBlock=some y) w w'/\(v'.ownBlock=v.ownBlock\/∃g,v'.ownBlock=some g/\w.heap.size<=g):=by
 have ak:=h.at_.lt;have c1:=h.at_.cell 1;simp only[xq0,xq1,xq2]at c1;have cB:=fun (W:World) (hB:Below w.heap.size w W) (nb:Nat) (dI:Blk W nb 226 #[nptr p.p.blk,.int .i64 p.s])=>qey q0v qyw (by omega) W v ys.length (aks ys) (h.qtx hB) nb 1 1 (by omega) [nptr p.p.blk,.int .i64 p.s] rfl dI (fun u hu=>by simp at hu;rcases hu with rfl|rfl<;>rfl) (by unfold maxLen;omega) (by omega)
 have aK:∀W,Below w.heap.size w W->∀g' av w',AppR W v.ownBlock 226 2 (ys.length+1) (aks ys++[nptr p.p.blk,.int .i64 p.s]) g' av w'->Blk w' hb 254 #[.func (.func 176) #[] #[],v]/\Hid (∀W3,Below (w'.setCell ⟨hb,1,none⟩ (.slice (some ⟨g',0,none⟩) (ys.length+1) av)).heap.size (w'.setCell ⟨hb,1,none⟩ (.slice (some ⟨g',0,none⟩) (ys.length+1) av)) W3->HqAt W3 hb (.func (.func 176) #[] #[]) (.slice (some ⟨g',0,none⟩) (ys.length+1) av) (ys++[p])/\Keep (fun y=>y=hb\/v.ownBlock=some y) w W3/\(v.ownBlock=some g'\/w.heap.size<=g')):=fun W bj g' av w' R=>by
  have bh:=(h.at_.below bj ak).keep R.keep h.ne;have hz:=bj.size;have cd:g'≠hb:=fun e=>by
   rcases R.new with e2|e2
   ·rw[e]at e2;exact h.ne e2
   ·omega
  refine⟨bh,fun W3 dZ=>⟨⟨?_,?_,?_⟩,?_,?_⟩⟩
  ·have:=bh.set 1 (.slice (some ⟨g',0,none⟩) (ys.length+1) av)
   have h3:Blk (w'.setCell ⟨hb,1,none⟩ (.slice (some ⟨g',0,none⟩) (ys.length+1) av)) hb 254 #[.func (.func 176) #[] #[],.slice (some ⟨g',0,none⟩) (ys.length+1) av]:=by simpa using this
   exact h3.below dZ h3.lt
  ·have:aks (ys++[p])=aks ys++[nptr p.p.blk,.int .i64 p.s]:=by rw[qp4];rfl
   rw[this,show(ys++[p]).length=ys.length+1 by simp]
   exact qaf (T:=fun _=>False) (xrl R.own (by simp[Value.ownBlock];exact cd) _) (Keep.new dZ) (fun _ _ e=>e)
  ·simp[Value.ownBlock];exact cd
  ·exact((((Keep.new (T:=fun y=>y=hb\/v.ownBlock=some y) bj).qbm R.keep (fun b _ e=>.inr e))).setCell (p:=⟨hb,1,none⟩) (.inl rfl) _).qj3 dZ
  ·exact R.new.imp id (fun e=>by omega)
 have fJ:=fun g' av W (hW:HqAt W hb (.func (.func 176) #[] #[]) (.slice (some ⟨g',0,none⟩) (ys.length+1) av) (ys++[p])) (hk:Keep (fun y=>y=hb\/v.ownBlock=some y) w W) (hn:v.ownBlock=some g'\/w.heap.size<=g') =>
  qx3 (k:=ys.length) O hW (by simp;omega) (by simp) (hU.push p) (fun W2 du=>bB W2 (hk.qbm du (fun b ag e=>by
   simp[Value.ownBlock]at e
   subst e
   rcases hn with e|e
   ·exact .inr e
   ·omega)))
 have aF:∀(g1 q1:Nat) (W w2:World),(v.ownBlock=some g1\/w.heap.size<=g1)->Keep (fun y=>y=hb\/v.ownBlock=some y) w W->Keep (fun y=>(Value.slice (some ⟨g1,0,none⟩) (ys.length+1) q1).ownBlock=some y) W w2->Keep (fun y=>y=hb\/v.ownBlock=some y) w w2/\((Value.slice (some ⟨g1,0,none⟩) (ys.length+1) q1).ownBlock=v.ownBlock\/∃g,(Value.slice (some ⟨g1,0,none⟩) (ys.length+1) q1).ownBlock=some g/\w.heap.size<=g):=fun g1 q1 W w2 dH dD dN=>by
  refine⟨dD.qbm dN (fun b ag e=>?_),?_⟩
  ·simp[Value.ownBlock]at e
   subst e
   rcases dH with e|e
   ·exact .inr e
   ·omega
  ·rcases dH with e|e
   ·left;rw[e];rfl
   ·exact .inr ⟨g1,rfl,e⟩
 obtain⟨a0,cy,hv,dn,ia⟩:=h.form;obtain⟨n,hn⟩:∃n,n=ys.length:=⟨_,rfl⟩;rw[<-hn]at cB aK fJ aF hl hv dn;have HV:Hid (v=.slice a0 n cy):=hv;have cN:=h.at_;clear h hU bB hn;subst hv;unfold akv nptr;unfold nptr at cB;generalize mr:aks ys=pp at cB aK;clear mr
 go_enter func177,ntmps177
 go_upto_region 1 with fail
 go_region_law (refine qa8 rfl (.tmp 8) (.tmp 10) 252 252 rfl _ _ ?_ ?_ (cB _ ?_ ?_ ?_) ?_;(focus (simp[Act.eval,Act.put]));(focus ((try simp[Act.eval,Act.put]);(try rfl)));(focus exact bel2);(focus exact blk2);rintro v1 w1 ⟨g1,q1,rfl,R1⟩;obtain⟨aa,iP⟩:=aK _ (by exact bel2) _ _ _ R1;have f2:=aa.frozen 1;have fw:=aa.cell 1;have dV:=R1.le;have gU:=R1.mx;simp only[xq0,xq1,xq2]at fw)
 all_goals go_wp2_with fail
 all_goals obtain⟨mH,dD,dH⟩:=iP.out _ (Below.refl _ _)
 all_goals refine(fJ _ _ _ mH dD dH).mono ?_
 all_goals rintro e w2 ⟨rfl,zs,hp,hh,mI,dN⟩
 all_goals have hF:=aF _ _ _ _ dH dD dN
 all_goals clear fJ aK cB
 all_goals go_wp2_with fail
 all_goals go_end0
 all_goals exact⟨rfl,_,zs,hp,hh,mI,hF.1,hF.2⟩
theorem qhy(h:HqAt w hb f v ys)(hl:ys.length<=100)(hj:ys.length<=j)(k_:j<=1000):
  Calls prog 234 #[.pointer (some ⟨hb,0,none⟩),.int .i64 i,.int .i64 j] w fun e w'=>e=.returned (.int .i64 i)/\Below w.heap.size w w':=by
 obtain⟨a0,cap,hv,cS,fl⟩:=h.form;have c1:=h.at_.cell 1;have ak:=h.at_.lt;simp only[xq0,xq1,xq2]at c1;rw[hv]at c1;obtain⟨n,hn⟩:∃n,n=ys.length:=⟨_,rfl⟩;rw[<-hn]at c1 cS hl hj;have rA:decide (j<n)=false:=decide_eq_false (by omega);have h4:(0:Int)<=j:=by omega
 clear h hv hn hj
 go_enter func234,ntmps234
 go_wp2_with fail
 go_quiet (fail)
 go_wp2_with fail
 go_ret
 exact⟨rfl,xrm (Below.refl _ _) _⟩
theorem qt5(h:HqAt w hb f v []):
  Calls prog 215 #[.pointer (some ⟨hb,0,none⟩),.int .i64 0] w fun e w'=>e=.returned (.tuple #[])/\Below w.heap.size w w':=by
 have c1:=qhy (i:=0) (j:=1) h (by simp) (by simp) (by omega);have c2:=fun W (hW:Below w.heap.size w W)=>qhy (i:=0) (j:=2) (h.below hW) (by simp) (by simp) (by omega)
 have ak:=h.at_.lt;simp only[Int.cast_ofNat_Int,Int.natCast_zero]at c1 c2;clear h
 go_enter func215,ntmps215
 go_wp2_with fail
 refine wp_loop_rounds 1 ?_
 rw[rounds_succ]
 go_wp2_with fail
 refine c1.mono ?_
 rintro e w1 ⟨rfl,aa⟩
 go_wp2_with fail
 refine(c2 _ aa).mono ?_
 rintro e w2 ⟨rfl,ag⟩
 go_wp2_with fail
 exact xrn (v:=.tuple #[]) (by simp[results,results215,go_sem]) rfl ⟨rfl,qab aa ag⟩
theorem qty{g n s:Nat}(h:W.ownsRow 0 e s (.slice (some ⟨g,0,none⟩) n cap) n xs){m:Nat}(hm:m<=n):W.ownsRow 0 e s (.slice (some ⟨g,0,none⟩) m cap) m (xs.take (m*s)):=by
 obtain⟨hl,hr⟩:=h
 rcases hr with ⟨hv,_⟩|⟨g',av,aH,hv,hb,hg,h1,h2,h3,h4⟩
 ·cases hv
 ·injection hv with e1 _ e3;injection e1 with e1;injection e1 with e1;subst e1 e3;have pS:m*s<=n*s:=Nat.mul_le_mul_right s hm
  refine⟨by rw[List.length_take,hl];omega,.inr ⟨g,cap,aH,rfl,hb,hg,by omega,h2,h3,?_⟩⟩
  rw[<-h4,List.take_take]
  congr 1
  omega
theorem HqAt.other(h:HqAt W hb f v ys)(p:Addr)(u:Value)(h1:hb≠p.block)(h2:v.ownBlock≠some p.block):HqAt (W.setCell p u) hb f v ys :=
 ⟨h.at_.other _ _ h1,xrl h.row h2 _,h.ne⟩
def PopQ (hb:Nat)(v:Value)(ys:List Ak)(lt:Ak->Ak->Bool)(w:World)(e:Ending)(w':World):Prop :=
 (ys=[]/\e=.returned (.tuple #[.agg #[.pointer none,.int .i64 0],.bool false])/\Below w.heap.size w w') \/
 (∃(a:Ak) (v':Value) (zs:List Ak),ys[0]?=some a/\e=.returned (.tuple #[akv a,.bool true])/\(a::zs).Perm ys/\qb2 lt zs/\HqAt w' hb (.func (.func 176) #[] #[]) v' zs/\Keep (fun y=>y=hb\/v.ownBlock=some y) w w'/\v'.ownBlock=v.ownBlock)
theorem qzn{lt:Ak->Ak->Bool}(O:Ord lt)(h:HqAt w hb (.func (.func 176) #[] #[]) v ys)(hl:ys.length<=100)(hU:qb2 lt ys)(bB:Befq w (fun y=>y=hb\/v.ownBlock=some y) ys lt):
  Calls prog 179 #[.pointer (some ⟨hb,0,none⟩)] w (PopQ hb v ys lt w):=by
 have ak:=h.at_.lt;have c1:=h.at_.cell 1;simp only[xq0,xq1,xq2]at c1
 by_cases h0:ys=[]
 ·subst h0;obtain⟨a0,cy,hv,dn,ia⟩:=h.form;rw[hv]at c1;simp only[List.length_nil]at c1;clear bB hU
  go_enter func179,ntmps179
  go_wp2_with fail
  have b2:Blk ((w.alloc (.cells #[.pointer none,.int .i64 0] 226)).alloc (.cells #[.pointer none,.int .i64 0] 226)) w.heap.size 226 #[.pointer none,.int .i64 0]:=by exact blk2
  have fl:=b2.cell
  exact xrn (v:=.tuple #[.agg #[.pointer none,.int .i64 0],.bool false]) (by simp[results,results179,go_sem,fl]) rfl (.inl ⟨rfl,rfl,by exact bel2⟩)
 ·have dC:0<ys.length:=by cases ys with|nil=>exact absurd rfl h0|cons _ _=>simp
  obtain⟨a,ha⟩:∃a,ys[0]?=some a:=⟨_,xr1 dC⟩;obtain⟨b,dk⟩:∃b,ys[ys.length-1]?=some b:=⟨_,xr1 (by omega)⟩;obtain⟨g,cap,hv,bK,iW,cS,fl,⟨ca,yt⟩,fa,AL⟩:=h.get ha;obtain⟨g',av,dd,_,_,_,_,⟨cb,uM⟩,fb,yy⟩:=h.get dk;rw[hv]at dd;injection dd with e1 _ e3;injection e1 with e1;injection e1 with e1;subst e1 e3;rw[hv]at c1;have f1:=h.at_.frozen 1;have eQ:¬(hb=g):=fun e=>iW e.symm
  obtain⟨m,hm⟩:∃m,ys.length=m+1:=⟨ys.length-1,by omega⟩;have eE:ys.length-1=m:=by omega
  rw[eE]at cb fb uM yy dk;have aG:∀n,(Value.slice (some ⟨g,0,none⟩) n cap).ownBlock=v.ownBlock:=fun n=>by rw[hv];rfl
  have ax:∀(W1 W:World),Below w.heap.size w W1->W=(((((W1.setCell ⟨g,0,none⟩ (nptr b.p.blk)).setCell ⟨g,1,none⟩ (.int .i64 b.s)).setCell ⟨g,m*2,none⟩ (.pointer none)).setCell ⟨g,m*2+1,none⟩ (.int .i64 0)).setCell ⟨hb,1,none⟩ (.slice (some ⟨g,0,none⟩) m cap))->HqAt W hb (.func (.func 176) #[] #[]) (.slice (some ⟨g,0,none⟩) m cap) ((ys.set 0 b).take m)/\Keep (fun y=>y=hb\/v.ownBlock=some y) w W:=by
   rintro W1 W au rfl
   have h1:=h.below au
   refine⟨⟨?_,?_,?_⟩,?_⟩
   ·have:=((((h1.at_.other ⟨g,0,none⟩ (nptr b.p.blk) eQ).other ⟨g,1,none⟩ (.int .i64 b.s) eQ).other ⟨g,m*2,none⟩ (.pointer none) eQ).other ⟨g,m*2+1,none⟩ (.int .i64 0) eQ).set 1 (.slice (some ⟨g,0,none⟩) m cap)
    simpa using this
   ·have aS:=h1.row;rw[hv]at aS;have r1:=((((aS.stored 0 (nptr b.p.blk)).1.stored 1 (.int .i64 b.s)).1.stored (m*2) (.pointer none)).1.stored (m*2+1) (.int .i64 0)).1;have r2:=qty r1 (m:=m) (by omega);have r3:=xrl r2 (a:=⟨hb,1,none⟩) (by simp[Value.ownBlock];exact iW) (.slice (some ⟨g,0,none⟩) m cap);have a9:((ys.set 0 b).take m).length=m:=by simp;omega
    rw[a9];have mr:aks ((ys.set 0 b).take m)=(((((aks ys).set 0 (nptr b.p.blk)).set 1 (.int .i64 b.s)).set (m*2) (.pointer none)).set (m*2+1) (.int .i64 0)).take (m*2):=by
     rw[quv,qkz,List.take_set_of_le (by omega:m*2<=m*2+1),List.take_set_of_le (Nat.le_refl (m*2))]
    rw[mr]
    exact r3
   ·simp[Value.ownBlock];exact iW
   ·have hT:v.ownBlock=some g:=by rw[hv];rfl
    exact((((((Keep.new au).setCell (p:=⟨g,0,none⟩) (.inr hT) _).setCell (p:=⟨g,1,none⟩) (.inr hT) _).setCell (p:=⟨g,m*2,none⟩) (.inr hT) _).setCell (p:=⟨g,m*2+1,none⟩) (.inr hT) _).setCell (p:=⟨hb,1,none⟩) (.inl rfl) _)
  have hD:qb8 lt ((ys.set 0 b).take m) 0:=by rw[<-eE];exact hU.pop b
  have kF:(a::(ys.set 0 b).take m).Perm ys:=by rw[<-eE];exact qpn ha (by rw[eE];exact dk)
  have aD:∀x∈(ys.set 0 b).take m,x∈ys:=fun x hx=>kF.mem_iff.1 (xru _ hx)
  have da:∀(W1 W:World),Below w.heap.size w W1->W=(((((W1.setCell ⟨g,0,none⟩ (nptr b.p.blk)).setCell ⟨g,1,none⟩ (.int .i64 b.s)).setCell ⟨g,m*2,none⟩ (.pointer none)).setCell ⟨g,m*2+1,none⟩ (.int .i64 0)).setCell ⟨hb,1,none⟩ (.slice (some ⟨g,0,none⟩) m cap)) ->
    Calls prog 215 #[.pointer (some ⟨hb,0,none⟩),.int .i64 0] W fun e w'=>e=.returned (.tuple #[])/\Keep (fun y=>y=hb\/v.ownBlock=some y) W1 w'/\∀x y,PopQ hb v ys lt w (.returned (.tuple #[akv a,.bool true])) ((w'.setCell ⟨w.heap.size,0,none⟩ x).setCell ⟨w.heap.size,1,none⟩ y):=fun W1 W au hW=>by
   obtain⟨hH,hK⟩:=ax W1 W au hW;have dD:Keep (fun y=>y=hb\/v.ownBlock=some y) W1 W:=by
    have hT:v.ownBlock=some g:=by rw[hv];rfl
    rw[hW]
    exact((((((Keep.refl _ _).setCell (p:=⟨g,0,none⟩) (.inr hT) _).setCell (p:=⟨g,1,none⟩) (.inr hT) _).setCell (p:=⟨g,m*2,none⟩) (.inr hT) _).setCell (p:=⟨g,m*2+1,none⟩) (.inr hT) _).setCell (p:=⟨hb,1,none⟩) (.inl rfl) _)
   have pN:(Value.slice (some ⟨g,0,none⟩) m cap).ownBlock≠some w.heap.size:=by simp[Value.ownBlock];omega
   have aV:∀w' zs,(a::zs).Perm ys->qb2 lt zs->HqAt w' hb (.func (.func 176) #[] #[]) (.slice (some ⟨g,0,none⟩) m cap) zs->Keep (fun y=>y=hb\/v.ownBlock=some y) w w'->∀x y,PopQ hb v ys lt w (.returned (.tuple #[akv a,.bool true])) ((w'.setCell ⟨w.heap.size,0,none⟩ x).setCell ⟨w.heap.size,1,none⟩ y):=fun w' zs hp hh mI dN x y =>
    .inr ⟨a,_,zs,ha,rfl,hp,hh,(mI.other _ _ (by simp;omega) pN).other _ _ (by simp;omega) pN,dN.qbm (((Keep.refl (fun b=>b=w.heap.size) _).setCell (p:=⟨w.heap.size,0,none⟩) rfl _).setCell (p:=⟨w.heap.size,1,none⟩) rfl _) (fun b hb e=>by omega),aG m⟩
   by_cases hm0:m=0
   ·subst hm0;simp only[List.take_zero]at hH kF
    refine(qt5 hH).mono ?_
    rintro e w' ⟨rfl,hB⟩
    exact⟨rfl,dD.trans (Keep.new hB),aV w' [] kF (fun j x y hj hx=>by simp at hx) (hH.below hB) (hK.trans (Keep.new hB))⟩
   ·have a9:((ys.set 0 b).take m).length=m:=by simp;omega
    have hs:=qx6 (k:=0) O hH (by omega) (by omega) hD (fun W2 du x hx y hy=>bB W2 (hK.qbm du (fun k _ e=>.inr (by rw[<-aG m];exact e))) x (aD x hx) y (aD y hy))
    refine hs.mono ?_
    rintro e w' ⟨rfl,zs,hp,hh,mI,dN⟩
    exact⟨rfl,dD.qbm dN (fun k _ e=>.inr (by rw[<-aG m];exact e)),aV w' zs ((hp.cons a).trans kF) hh mI (hK.qbm dN (fun k _ e=>.inr (by rw[<-aG m];exact e)))⟩
  rw[hm]at c1 cS hl;have Cb:(0:Int)<=m:=by omega
  have sB:IntKind.i64.wrap (m:Int)=(m:Int):=by rw[IntKind.wrap_i64];omega
  have en:=fun (W:World) (hW:Below w.heap.size w W)=>(⟨(hW.cell (p:=⟨hb,1,none⟩) ak).trans c1,(hW.cell (p:=⟨g,0,none⟩) bK).trans ca,(hW.cell (p:=⟨g,1,none⟩) bK).trans yt,(hW.cell (p:=⟨g,m*2,none⟩) bK).trans cb,(hW.cell (p:=⟨g,m*2+1,none⟩) bK).trans uM,(h.below hW).at_.frozen 1,(by have:=(h.below hW).row;rw[hv]at this;exact this.frozenAt)⟩:_/\_/\_/\_/\_/\_/\∀i,W.frozen? ⟨g,i,none⟩=false)
  have qe:Hid (m=0->b=a):=fun e=>by subst e;rw[ha]at dk;cases dk;rfl
  have zC:∀y,v.ownBlock=some y->y=g:=fun y e=>by rw[hv]at e;simp[Value.ownBlock]at e;exact e.symm
  clear ax hD kF aD bB hU h hv ha dk h0 dC hm eE aG c1 ca yt cb uM fa AL fb yy f1;generalize hXX:PopQ hb v ys lt w=X at da ⊢;clear hXX;unfold nptr at en da;unfold akv nptr at da
  go_enter func179,ntmps179
  obtain⟨W0,bg⟩:∃W0,W0=(w.alloc (.cells #[.pointer none,.int .i64 0] 226)).alloc (.cells #[.pointer none,.int .i64 0] 226):=⟨_,rfl⟩;have bj:Below w.heap.size w W0:=by rw[bg];exact bel2
  have b2:Blk W0 w.heap.size 226 #[.pointer none,.int .i64 0]:=by rw[bg];exact blk2
  have b4:Blk W0 (w.heap.size+1) 226 #[.pointer none,.int .i64 0]:=by rw[bg];exact Blk.new' (by simp)
  have dw:W0.heap.size=w.heap.size+2:=by rw[bg];simp
  obtain⟨k1,ka,uj,kb,sP,uk,kf⟩:=en W0 bj;have CK:=kf 0;have h1:=en _ (show Below w.heap.size w ((w.alloc (.cells #[.pointer none,.int .i64 0] 226)).alloc (.cells #[.pointer none,.int .i64 0] 226)) by exact bel2);have i1:=h1.1;clear h1
  go_upto_region 4 with fail
  rw[<-bg];clear bg i1;have e1:¬(hb=W0.heap.size):=by omega
  have e2:¬(g=W0.heap.size):=by omega
  have lV:¬(W0.heap.size=hb):=by omega
  have DZ:¬(W0.heap.size=g):=by omega
  have Af:Hid (W0.heap.size=w.heap.size+2):=dw;clear dw
  go_region_held3 (fun w'=>w'.cell? ⟨hb,1,none⟩=some (.slice (some ⟨g,0,none⟩) (m+1) cap)/\w'.cell? ⟨g,0,none⟩=some (.pointer (some ⟨a.p.blk,0,none⟩))/\w'.cell? ⟨g,1,none⟩=some (.int .i64 a.s)) (go_keep) (fail)
  obtain⟨W5,kI⟩:∃W5,W5=(W0.alloc (.cells #[.pointer (some ⟨a.p.blk,0,none⟩),.int .i64 a.s] 226)).drew:=⟨_,rfl⟩;have dE:Below W0.heap.size W0 W5:=by rw[kI];exact bel2
  have b5:Blk W5 W0.heap.size 226 #[.pointer (some ⟨a.p.blk,0,none⟩),.int .i64 a.s]:=by rw[kI];exact blk2
  have yg:=b2.below dE b2.lt;have Aw:=b4.below dE b4.lt;have uU:=qab bj dE;rw[<-kI];clear kI k1 ka uj kb sP uk kf CK b2 b4;obtain⟨k1,ka,uj,kb,sP,uk,kf⟩:=en W5 uU;clear en;have kn:=Aw.cell;have q1:¬(w.heap.size+1=g):=by omega
  have q2:¬(g=w.heap.size+1):=by omega
  have q3:¬(hb=g):=by omega
  have qY:∀(W:World) (p:Addr) (u:Value),(W.setCell p u).drew=W.drew.setCell p u:=fun _ _ _=>rfl
  have yc:Hid (∀(W:World) (p:Addr) (u:Value),(W.setCell p u).drew=W.drew.setCell p u):=qY;clear qY
  by_cases hm0:m=0
  ·have g_:=qe.out hm0;subst hm0;subst g_;simp only[Nat.zero_mul,Nat.zero_add]at kb sP da;clear kb sP qe
   go_upto_region 5 with fail
   go_region
   go_wp2_with fail
   go_region
   go_wp2_with fail
   simp only[yc.out]
   refine(da W5.drew.drew _ (by exact bel2) rfl).mono ?_
   rintro e w2 ⟨rfl,dN,hX⟩
   have oJ:∀y,y≠hb->y≠g->¬(y=hb\/v.ownBlock=some y):=fun y y1 y2 e=>e.elim y1 (fun e=>y2 (zC y e))
   have s5:=(b5.drew.drew).keep dN (oJ _ (by omega) (by omega));have s2:=(yg.drew.drew).keep dN (oJ _ (by omega) (by omega));have t5:=s5.cell;have t2:=s2.cell;have u2:=s2.frozen;have z0:=t5 0;have z1:=t5 1;simp only[xq0,xq1,xq2]at z0 z1;clear da k1 ka uj uk kf
   go_wp2_with fail
   have s3:=((s2.set 0 (.pointer (some ⟨b.p.blk,0,none⟩))).set 1 (.int .i64 b.s)).cell
   exact xrn (v:=.tuple #[.agg #[.pointer (some ⟨b.p.blk,0,none⟩),.int .i64 b.s],.bool true]) (by simp[results,results179,go_sem,s3]) rfl (hX _ _)
  ·have wN:¬(0=m):=fun e=>hm0 e.symm
   have r1:¬(0=m*2):=by omega
   have r2:¬(1=m*2):=by omega
   have r3:¬(1=m*2+1):=by omega
   have r4:¬(m*2=0):=by omega
   have r5:¬(m*2=1):=by omega
   have r6:¬(m*2+1=1):=by omega
   go_upto_region 5 with fail
   go_region
   go_wp2_with fail
   go_region
   go_wp2_with fail
   simp only[yc.out]
   refine(da W5.drew.drew _ (by exact bel2) rfl).mono ?_
   rintro e w2 ⟨rfl,dN,hX⟩
   have oJ:∀y,y≠hb->y≠g->¬(y=hb\/v.ownBlock=some y):=fun y y1 y2 e=>e.elim y1 (fun e=>y2 (zC y e))
   have s5:=(b5.drew.drew).keep dN (oJ _ (by omega) (by omega));have s2:=(yg.drew.drew).keep dN (oJ _ (by omega) (by omega));have t5:=s5.cell;have t2:=s2.cell;have u2:=s2.frozen;have z0:=t5 0;have z1:=t5 1;simp only[xq0,xq1,xq2]at z0 z1;clear da k1 ka uj kb sP uk kf
   go_wp2_with fail
   have s3:=((s2.set 0 (.pointer (some ⟨a.p.blk,0,none⟩))).set 1 (.int .i64 a.s)).cell
   exact xrn (v:=.tuple #[.agg #[.pointer (some ⟨a.p.blk,0,none⟩),.int .i64 a.s],.bool true]) (by simp[results,results179,go_sem,s3]) rfl (hX _ _)
end
end Go.Proofs.YtphclnolomgjoaaGreatDoor
