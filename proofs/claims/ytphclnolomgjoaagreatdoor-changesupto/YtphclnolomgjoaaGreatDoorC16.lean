import Derived.Test.YtphclnolomgjoaaGreatDoorC15
set_option linter.unusedVariables false
set_option linter.unusedSimpArgs false
set_option maxRecDepth 100000
set_option maxHeartbeats 4000000
namespace Go.Proofs.YtphclnolomgjoaaGreatDoor
open Tryz
section
open Go.RowKit Go.Shelf
variable {nodes:List Node}{w:World}{bt rr:Nat}{va:Value}{l:List Pw}{p:Pw}{n:Node}
attribute [local go_sem] Oper.semAt_some
def shq0 (nodes:List Node)(l:List Pw)(m:Node)(a:Int):Int:=abv (ws0 (pun l m.key)+a) (pn0 nodes m.key+m.b0)
def shq1 (nodes:List Node)(l:List Pw)(m:Node)(a:Int):Int:=abv (ws1 (pun l m.key)+a) (pn1 nodes m.key+m.b1)
def okAt (nodes:List Node)(l:List Pw)(x:Wk)(m:Node):Bool:=(shq0 nodes l m x.d0 == 0)&&(shq1 nodes l m x.d1 == 0)
theorem qrc(T:Tree nodes)(hB:qa7 nodes)(h:Rd w nodes bt rr va l)(hp:PwIn w nodes p)(hn:n∈nodes)(gz:n.blk=p.q):
  Cl 180 #[vP rr,nptr p.blk] w fun e w'=>e=.returned (.bool ((ups nodes 4 n).all (okAt nodes l p.x)))/\Bw w w':=by
 have b_:∀k:Nat,Fence.wide.depth.isSome=true->1<=k:=fun k h=>by simp[Fence.wide]at h
 have e9:∀W,(∀n∈nodes,qan W n)->_:=fun W hW=>qrs T hn W hW
 have ai:=qhy T 4 n hn (T.ok n hn).2;have fN:=hp.at_.lt;have pT:=fun W (hW:Bw w W)=>(hp.below hW).cells.2
 have fO:=fun W (hW:Bw w W) m (hm:m∈nodes)=>qjp T hB (h.below hW) hm p.x.d0 p.x.d1 hp.num.1 hp.num.2
 obtain⟨z1,_,_⟩:=pT w (Below.refl _ _);rw[gz]at e9;generalize hX:ups nodes 4 n=X at e9 ai ⊢
 refine(xrv (n:=3)).1 ?_
 refine callsIn_of_wp_marks func180 rfl trivial ?_ rfl
 unfold nptr at e9 ⊢;have e1:¬(p.blk=w.heap.size):=by omega
 have e2:¬(p.blk=w.heap.size+1):=by omega
 have e3:¬(p.blk=w.heap.size+1+1):=by omega
 simp only[ntmps180,List.size_toArray,List.length_cons,List.length_nil,Nat.reduceAdd,Nat.reduceSub,Array.replicate_succ,Array.replicate_zero,List.push_toArray,List.append_toArray,List.nil_append,List.cons_append];have aO:Bw w (((w.alloc (.cells #[vP rr] 186)).alloc (.cells #[vP p.blk] 95)).alloc (.cells #[.bool false] 4)):=by exact bel1
 have x2:Box (((w.alloc (.cells #[vP rr] 186)).alloc (.cells #[vP p.blk] 95)).alloc (.cells #[.bool false] 4)) w.heap.size 186 (vP rr):=((Box.new w 186 _).alloc _).alloc _;have x3:Box (((w.alloc (.cells #[vP rr] 186)).alloc (.cells #[vP p.blk] 95)).alloc (.cells #[.bool false] 4)) (w.heap.size+1) 95 (vP p.blk):=by
  have:=(Box.new (w.alloc (.cells #[vP rr] 186)) 95 (vP p.blk)).alloc (.cells #[.bool false] 4)
  rwa[xrt]at this
 have x4:Box (((w.alloc (.cells #[vP rr] 186)).alloc (.cells #[vP p.blk] 95)).alloc (.cells #[.bool false] 4)) (w.heap.size+1+1) 4 (.bool false):=by
  have:=Box.new ((w.alloc (.cells #[vP rr] 186)).alloc (.cells #[vP p.blk] 95)) 4 (.bool false)
  rwa[xrt,xrt]at this
 have cZ:(((w.alloc (.cells #[vP rr] 186)).alloc (.cells #[vP p.blk] 95)).alloc (.cells #[.bool false] 4)).heap.size=w.heap.size+3:=by simp
 gi_upto_region 1 with fail
 generalize (((w.alloc (.cells #[vP rr] 186)).alloc (.cells #[vP p.blk] 95)).alloc (.cells #[.bool false] 4))=W0 at aO x2 x3 x4 cZ ⊢;obtain⟨y1,_,_⟩:=pT _ aO;have c3:=x3.cell;clear z1
 gi_wp2_with ((first|refine⟨trivial,b_ _,?_⟩|refine⟨trivial,?_⟩);gi_at_call 191;refine(xrv.2 (e9 _ (fun n hn=>(h.ins n hn).below aO))).mono ?_;rintro e W ⟨rfl,rfl,aI⟩)
 obtain⟨W,hW⟩:∃W,W=W0.alloc (.cells #[vP p.q] 97):=⟨_,rfl⟩;have dk:W.heap.size=w.heap.size+4:=by rw[hW];simp[cZ]
 have af:Box W w.heap.size 186 (vP rr):=by rw[hW];exact x2.alloc _
 have ax:Box W (w.heap.size+1) 95 (vP p.blk):=by rw[hW];exact x3.alloc _
 have a_:Box W (w.heap.size+1+1) 4 (.bool false):=by rw[hW];exact x4.alloc _
 have cn:Bw w W:=by rw[hW];exact aO.alloc aO.size _
 rw[cZ]at aI;simp only[<-hW]at aI ⊢;have hq:=aI (fun b=>b=w.heap.size+1+1\/W.heap.size<=b) (fun k hk=>⟨fun e=>by have:=(h.ins k hk).lt;omega,fun g hg e=>by have:=((h.ins k hk).row.lt g hg).2;omega⟩);clear aI e9 hW x2 x3 x4 c3 y1;have a7:∀b,b<W.heap.size->¬(False\/W.heap.size<=b):=fun b hb e=>by rcases e with e|e;exact e;omega
 refine qgy (T:=fun b=>b=w.heap.size+1+1) (S:=fun _=>False) rfl (enters_of func223 (by kernel_rfl) rfl) hq (Below.refl _ _) rfl (fun b e=>e.elim) (fun b e=>by omega)
  (fun pre A=>pre.all (okAt nodes l p.x)=true/\Box A w.heap.size 186 (vP rr)/\Box A (w.heap.size+1) 95 (vP p.blk)/\Box A (w.heap.size+1+1) 4 (.bool false)/\Bw w A)
  (fun c pre A=>c=.ret/\pre.all (okAt nodes l p.x)=false/\Box A (w.heap.size+1+1) 4 (.bool false)/\Bw w A)
  (fun pre A B hs hk=>⟨hs.1,hs.2.1.keep hk (a7 _ (by omega)),hs.2.2.1.keep hk (a7 _ (by omega)),hs.2.2.2.1.keep hk (a7 _ (by omega)),hs.2.2.2.2.trans (hk.toBelow hs.2.2.2.2.size (fun b aZ=>a7 b (by omega)))⟩)
  (fun c pre A B hs hk=>⟨hs.1,hs.2.1,hs.2.2.1.keep hk (a7 _ (by omega)),hs.2.2.2.trans (hk.toBelow hs.2.2.2.size (fun b aZ=>a7 b (by omega)))⟩)
  ⟨rfl,af,ax,a_,cn⟩
  (fun x=>{tmps:=#[vP rr,vP p.blk,vP w.heap.size,vP (w.heap.size+1),vP (w.heap.size+1+1),vP x.blk,vP p.blk,vP p.blk,.pointer (some (vA p.blk 1)),vP p.q,
   .func (.func 223) #[] #[vP (w.heap.size+3)],vP x.blk,undef,undef,undef,undef,undef,undef,undef,undef,undef],defers:=[]}) ?assign ?body ?done ?stop
 case assign =>
  intro l x W K hK
  gi_wp2
  exact hK
 case body =>
  rintro l2 pre x W2 ⟨a8,fY,dn,bC,ae⟩ gP aC
  have cg:=((ai x).1 (aC.subset (by simp))).1;have c2:=fY.cell;have c3:=dn.cell;have hc:=bC.cell;have hf:=bC.frozen;obtain⟨y1,y2,y3⟩:=pT _ ae;have te:=fun W hW=>fO W hW x cg
  have ec:okAt nodes l p.x x=((shq0 nodes l x p.x.d0 == 0)&&(shq1 nodes l x p.x.d1 == 0)):=rfl;have ia:=fun W=>qwk (shq0 nodes l x p.x.d0) (shq1 nodes l x p.x.d1) 0 0 W
  have jw:∀W,Bw w W->Cl 216 #[vP rr,vP x.blk,.agg #[vI p.x.d0,vI p.x.d1]] W fun e w'=>e=.returned (.agg #[vI (shq0 nodes l x p.x.d0),vI (shq1 nodes l x p.x.d1)])/\Bw W w':=te
  generalize shq0 nodes l x p.x.d0=s0 at ec ia jw;generalize shq1 nodes l x p.x.d1=s1 at ec ia jw;have cO:Hid (pre.all (okAt nodes l p.x)=true):=a8;have oC:Hid (okAt nodes l p.x x=((s0 == 0)&&(s1 == 0))):=ec;have y_:prog.follows .mixedOrders=true:=by kernel_rfl
  clear a8 ec te fO hq
  gi_upto_region 3 with fail
  refine qdk (fun W'=>W'.cell? (vA w.heap.size 0)=some (vP rr)/\W'.cell? (vA (w.heap.size+1) 0)=some (vP p.blk)/\W'.cell? (vA p.blk 2)=some (vI p.x.d0)/\W'.cell? (vA p.blk 3)=some (vI p.x.d1)/\Bw W2 W') (by kernel_rfl) (by kernel_rfl) ⟨c2,c3,y2,y3,by exact bel2⟩ (fun hS=>?_)
  refine wpAnyH_take (i:=0) (v:=vP rr) rfl (by kernel_rfl) (by kernel_rfl) (by kernel_rfl) (fun _ _ _ h=>absurd h.1 (by intro e;cases e)) (Or.inl ⟨by rfl,?_⟩) hS ?_
  ·intro w' bY;obtain⟨s2,s3,s4,s5,_⟩:=bY
   go_simp
  simp only[xr5,xr3,xr4,Act.put,xr6,xr8,xr7]
  refine wpAnyH_take (i:=1) (v:=vP x.blk) rfl (by kernel_rfl) (by kernel_rfl) (by kernel_rfl) (fun _ _ _ h=>absurd h.1 (by intro e;cases e)) (Or.inl ⟨by rfl,?_⟩) hS ?_
  ·intro w' bY;obtain⟨s2,s3,s4,s5,_⟩:=bY
   go_simp
  simp only[xr5,xr3,xr4,Act.put,xr6,xr8,xr7]
  refine wpAnyH_take (i:=2) (v:=vP p.blk) rfl (by kernel_rfl) (by kernel_rfl) (by kernel_rfl) (fun _ _ _ h=>absurd h.1 (by intro e;cases e)) (Or.inl ⟨by rfl,?_⟩) hS ?_
  ·intro w' bY;obtain⟨s2,s3,s4,s5,_⟩:=bY
   go_simp
  simp only[xr5,xr3,xr4,Act.put,xr6,xr8,xr7]
  refine wpAnyH_take (i:=3) (v:=vP p.blk) rfl (by kernel_rfl) (by kernel_rfl) (by kernel_rfl) (fun _ _ _ h=>absurd h.1 (by intro e;cases e)) (Or.inl ⟨by rfl,?_⟩) hS ?_
  ·intro w' bY;obtain⟨s2,s3,s4,s5,_⟩:=bY
   go_simp
  simp only[xr5,xr3,xr4,Act.put,xr6,xr8,xr7]
  refine wpAnyH_take (i:=4) (v:=.pointer (some (vA p.blk 2))) rfl (by kernel_rfl) (by kernel_rfl) (by kernel_rfl) (fun _ _ _ h=>absurd h.1 (by intro e;cases e)) (Or.inl ⟨by rfl,?_⟩) hS ?_
  ·intro w' bY;obtain⟨s2,s3,s4,s5,_⟩:=bY
   go_simp
  simp only[xr5,xr3,xr4,Act.put,xr6,xr8,xr7]
  refine wpAnyH_take (i:=5) (v:=.agg #[vI p.x.d0,vI p.x.d1]) rfl (by kernel_rfl) (by kernel_rfl) (by kernel_rfl) (fun _ _ _ h=>absurd h.1 (by intro e;cases e)) (Or.inl ⟨by rfl,?_⟩) hS ?_
  ·intro w' bY;obtain⟨s2,s3,s4,s5,_⟩:=bY
   go_simp
  simp only[xr5,xr3,xr4,Act.put,xr6,xr8,xr7]
  refine wpAnyH_take (i:=7) (v:=.agg #[vI 0,vI 0]) rfl (by kernel_rfl) (by kernel_rfl) (by kernel_rfl) (fun _ _ _ h=>absurd h.1 (by intro e;cases e)) (Or.inl ⟨by rfl,?_⟩) hS ?_
  ·intro w' bY;obtain⟨s2,s3,s4,s5,_⟩:=bY
   go_simp
  simp only[xr5,xr3,xr4,Act.put,xr6,xr8,xr7]
  refine wpAnyH_ready (rs:=[6]) (by kernel_rfl) (by simp) ?_
  refine AllReadyH.cons rfl (fun K hK=>?_) AllReadyH.nil
  rw[if_pos (by rfl)]
  try simp only[xr5,xr3,xr4]
  go_simp
  refine(jw _ (qac ae (by exact bel2))).mono ?_
  rintro e W3 ⟨rfl,fh⟩
  have dC:Bw W2 W3:=qac (show Bw W2 W2.drew by exact bel2) fh;have ej:=fY.lt;have pK:=dn.lt;have yZ:=(hp.below ae).at_.lt
  refine hK.out _ _ ⟨(dC.cell (p:=vA w.heap.size 0) ej).trans c2,(dC.cell (p:=vA (w.heap.size+1) 0) pK).trans c3,(dC.cell (p:=vA p.blk 2) yZ).trans y2,(dC.cell (p:=vA p.blk 3) yZ).trans y3,dC⟩ (fun hS=>?_)
  clear hK
  try simp only[xr5,xr3,xr4,Act.put,xr6,xr8,xr7]
  refine wpAnyH_take (i:=8) (v:=.bool (!(s0 == 0&&s1 == 0))) rfl (by kernel_rfl) (by kernel_rfl) (by kernel_rfl) (fun _ _ _ h=>absurd h.1 (by intro e;cases e)) (Or.inl ⟨by rfl,?_⟩) hS ?_
  ·intro w' bY
   go_simp
  try simp only[xr5,xr3,xr4,Act.put,xr6,xr8,xr7]
  refine wpAnyH_done (by kernel_rfl) ⟨rfl,?_⟩ _
  have aK:Bw w W3:=qac ae dC;have k2:=fY.below dC ej;have k3:=dn.below dC pK;have k4:=bC.below dC bC.lt;have kc:=k4.cell;have kf:=k4.frozen;clear hc hf c2 c3 y1 y2 y3 hS ia jw;generalize kT:(s0 == 0&&s1 == 0)=bv at oC;clear kT
  cases bv
  ·gi_wp2_with fail
   refine⟨((Keep.new (T:=fun b=>b=w.heap.size+1+1) dC).setCell (p:=vA (w.heap.size+1+1) 0) rfl _),rfl,?_,k4.set _,aK.setCell (by simp;omega) _⟩
   rw[List.all_append,cO.out]
   simp[oC.out]
  ·gi_wp2_with fail
   refine⟨Keep.new dC,?_,k2,k3,k4,aK⟩
   rw[List.all_append,cO.out]
   simp[oC.out]
 case done =>
  rintro A ⟨a8,fY,dn,bC,ae⟩ hD
  have hc:=bC.cell;have hf:=bC.frozen
  gi_wp2
  have jl:(A.setCell (vA (w.heap.size+1+1) 0) (.bool true)).heap[W.heap.size]?=some (.deferred (some [])):=(Below.heap_setCell _ _ _ _ (by simp;omega)).trans hD;have af:=((bC.set (.bool true)).put W.heap.size (.deferred none) (by omega)).cell
  refine⟨by simp,.inl ⟨_,_,rfl,run_takeDeferred jl,?_⟩⟩
  exact⟨.bool true,by simp[results,results180,go_sem,af],qa9 a8.symm,qa8 (ae.setCell (by simp;omega) _) _ _ (by omega)⟩
 case stop =>
  rintro c pre A aC ⟨rfl,hv,bC,ae⟩ hD
  gi_wp2
  have af:=(bC.put W.heap.size (.deferred none) (by omega)).cell
  refine⟨by simp,.inl ⟨_,_,rfl,run_takeDeferred hD,?_⟩⟩
  refine⟨.bool false,by simp[results,results180,go_sem,af],qa9 ?_,qa8 ae _ _ (by omega)⟩
  symm
  rw[List.all_eq_false]at hv ⊢;obtain⟨y,hy,od⟩:=hv
  exact⟨y,aC.subset hy,od⟩
end
section
open Go.RowKit
variable {k:List Bs}{nodes:List Node}{Ws:List Wk}{as_ ws:List Pw}{x:Wk}{m n:Node}{a:Int}{p:Pw}
theorem qe0{a:List Bs}(hk:qbn k=true)(ha:qbn a=true):inB (joinB k) (joinB a)=a.isPrefixOf k:=by
 rw[Bool.eq_iff_iff,qqv hk ha,xrw]
theorem qi7(k:List Bs)(hk:qbn k=true):∀l:List Node,(∀n∈l,qbn n.key=true/\(n.leaf=false->n.n0=0/\n.n1=0)) ->
  es0 (qaf (l.map Node.ent) (joinB k))=sum0 (under l k)/\es1 (qaf (l.map Node.ent) (joinB k))=sum1 (under l k)
 | [],_=>⟨rfl,rfl⟩
 |n::l,h=>by
  obtain⟨i0,i1⟩:=qi7 k hk l (fun m hm=>h m (by simp[hm]));obtain⟨h1,h2⟩:=h n (by simp);have hp:=qe0 h1 hk;unfold qaf under es0 es1 sum0 sum1 at *;rw[List.map_cons,xrz,xrz];have e1:(Node.ent n).leaf=n.leaf:=rfl;have e2:(Node.ent n).key=n.key:=rfl;rw[e1,e2,hp]
  cases hl:n.leaf
  ·obtain⟨z0,z1⟩:=h2 hl
   cases k.isPrefixOf n.key
   ·simpa using ⟨i0,i1⟩
   ·simp only[Bool.false_and,Bool.false_eq_true,if_false,if_true,List.map_cons,List.sum_cons,z0,z1,Int.zero_add];exact⟨i0,i1⟩
  ·cases k.isPrefixOf n.key
   ·simpa using ⟨i0,i1⟩
   ·simp only[Bool.and_self,if_true,List.map_cons,List.sum_cons]
    exact⟨by rw[i0];rfl,by rw[i1];rfl⟩
theorem Tree.ents(T:Tree nodes):Ents (nodes.map Node.ent):=by
 refine⟨fun e he=>?_,fun e he=>?_,by simpa using T.len,?_⟩
 ·obtain⟨n,hn,rfl⟩:=xrq.1 he;exact T.ok n hn
 ·obtain⟨n,hn,rfl⟩:=xrq.1 he;exact⟨(T.num n hn).1,(T.num n hn).2.1⟩
 ·obtain⟨r,h0,_⟩:=T.root
  have:=(xr0.1 h0).1
  simpa using this
theorem Tree.einj(T:Tree nodes):∀a∈nodes.map Node.ent,∀b∈nodes.map Node.ent,a.key=b.key->a=b:=by
 intro a ha b hb e;obtain⟨n,hn,rfl⟩:=xrq.1 ha;obtain⟨m,hm,rfl⟩:=xrq.1 hb;rw[T.inj n hn m hm e]
structure Rel (nodes:List Node) (Ws:List Wk) (ws as_:List Pw):Prop where
 w:ws.map (·.x)=Ws.filter (fun x=>x.st == 0)
 a:∃az:List Wk,as_.map (·.x)=az.map (·.adm 0)/\az.Perm (Ws.filter fun x=>decide (0<x.st))/\az.Pairwise (fun x y=>x.st<y.st)
 leaf:∀p∈ws++as_,∃n∈nodes,n.blk=p.q/\n.key=p.x.key
theorem qvz(l:List Wk):ws0 (l.map (·.adm 0))=ws0 l:=by
 unfold ws0;rw[List.map_map];rfl
theorem qvl(l:List Wk):ws1 (l.map (·.adm 0))=ws1 l:=by
 unfold ws1;rw[List.map_map];rfl
theorem Rel.qt0(R:Rel nodes Ws ws as_)(hW:Wks Ws)(hk:qbn k=true):∃l:List Wk,pun as_ k=l.map (·.adm 0)/\l.Perm (qae Ws (joinB k)):=by
 obtain⟨az,h1,h2,_⟩:=R.a
 refine⟨az.filter fun x=>k.isPrefixOf x.key,?_,?_⟩
 ·unfold pun;rw[h1,List.filter_map]
  rfl
 ·refine(h2.filter _).trans ?_
  rw[List.filter_filter];unfold qae
  refine List.Perm.of_eq (List.filter_congr fun x hx=>?_)
  rw[qe0 (hW.ok x hx).1 hk,Bool.and_comm]
theorem Rel.use(R:Rel nodes Ws ws as_)(hW:Wks Ws)(hk:qbn k=true):ws0 (pun as_ k)=ws0 (qae Ws (joinB k))/\ws1 (pun as_ k)=ws1 (qae Ws (joinB k)):=by
 obtain⟨l,h1,h2⟩:=R.qt0 hW hk;rw[h1,qvz,qvl]
 exact⟨qhn h2,qhl h2⟩
theorem qb1(T:Tree nodes)(hk:qbn k=true):pn0 nodes k=es0 (qaf (nodes.map Node.ent) (joinB k))/\pn1 nodes k=es1 (qaf (nodes.map Node.ent) (joinB k)):=by
 obtain⟨h0,h1⟩:=qi7 k hk nodes (fun m hm=>⟨(T.ok m hm).1,(T.num m hm).2.2.2.2⟩)
 exact⟨h0.symm,h1.symm⟩
def ownP (nodes:List Node)(l:List Pw)(x:Wk):Bool:=(abv (ws0 (pun l x.key)+x.d0) (pn0 nodes x.key) == 0)&&(abv (ws1 (pun l x.key)+x.d1) (pn1 nodes x.key) == 0)
theorem qf0(a c:Int):(abv a c == 0)=decide (a<=c):=by
 unfold abv
 by_cases h:a<=c
 ·rw[decide_eq_true h,beq_iff_eq];omega
 ·rw[decide_eq_false h,beq_eq_false_iff_ne];omega
theorem Rel.own(R:Rel nodes Ws ws as_)(T:Tree nodes)(hW:Wks Ws)(hx:qbn x.key=true):ownP nodes as_ x=ownW (nodes.map Node.ent) Ws x:=by
 unfold ownP ownW;rw[qf0,qf0,(R.use hW hx).1,(R.use hW hx).2,(qb1 T hx).1,(qb1 T hx).2]
theorem Rel.short(R:Rel nodes Ws ws as_)(T:Tree nodes)(hW:Wks Ws)(hm:m∈nodes)(d0 d1:Int):
  sh0 (nodes.map Node.ent) Ws m.ent d0=!(shq0 nodes as_ m d0 == 0)/\sh1 (nodes.map Node.ent) Ws m.ent d1=!(shq1 nodes as_ m d1 == 0):=by
 have hk:=(T.ok m hm).1;have e1:m.ent.key=m.key:=rfl;have e2:m.ent.b0=m.b0:=rfl;have e3:m.ent.b1=m.b1:=rfl;unfold sh0 sh1 shq0 shq1;rw[qf0,qf0,(R.use hW hk).1,(R.use hW hk).2,(qb1 T hk).1,(qb1 T hk).2,e1,e2,e3]
 constructor
 ·rw[<-decide_not];exact decide_eq_decide.2 (by omega)
 ·rw[<-decide_not];exact decide_eq_decide.2 (by omega)
theorem Rel.fits(R:Rel nodes Ws ws as_)(T:Tree nodes)(hW:Wks Ws)(hn:n∈nodes)(hk:n.key=x.key):
  (ups nodes 4 n).all (okAt nodes as_ x)=qbm (nodes.map Node.ent) Ws x:=by
 have ai:=qhy T 4 n hn (T.ok n hn).2;have hx:=(T.ok n hn).1;rw[hk]at hx;rw[Bool.eq_iff_iff];unfold qbm;rw[List.all_eq_true,List.all_eq_true];have key:∀m∈nodes,(tight (nodes.map Node.ent) Ws x m.ent=(m.key.isPrefixOf x.key&&!okAt nodes as_ x m)):=fun m hm=>by
  unfold tight okAt;rw[(R.short T hW hm x.d0 x.d1).1,(R.short T hW hm x.d0 x.d1).2,show m.ent.key=m.key from rfl,qe0 hx (T.ok m hm).1,Bool.not_and]
 constructor
 ·intro h e he;obtain⟨m,hm,rfl⟩:=xrq.1 he;rw[key m hm]
  cases hp:m.key.isPrefixOf x.key with
  |false=>rfl
  |true =>
   have:=h m ((ai m).2 ⟨hm,by rw[hk];exact xrw.1 hp⟩)
   simp[this]
 ·intro h m hm;obtain⟨h1,h2⟩:=(ai m).1 hm
  have:=h m.ent (xrq.2 ⟨m,h1,rfl⟩)
  rw[key m h1,xrw.2 (by rw[<-hk];exact h2)]at this
  simpa using this
def qgt (nodes:List Node)(l:List Pw)(x v:Wk)(m:Node):Bool :=
 m.key.isPrefixOf v.key&&!((min (min (shq0 nodes l m x.d0) (abv (ws0 (pun l v.key)) (pn0 nodes v.key))) v.d0 == 0)&&(min (min (shq1 nodes l m x.d1) (abv (ws1 (pun l v.key)) (pn1 nodes v.key))) v.d1 == 0))
theorem qla{b c:Int}(ha:0<=a)(hb:0<=b)(hc:0<=c):(!(min (min a b) c == 0))=(!(a == 0)&&(!(b == 0)&&decide (c>0))):=by
 rw[Bool.eq_iff_iff];simp only[Bool.not_eq_true',Bool.and_eq_true,beq_eq_false_iff_ne,decide_eq_true_eq]
 omega
theorem qn1(a c:Int):0<=abv a c:=by unfold abv;omega
theorem quy(a c:Int):(!(abv a c == 0))=decide (a>c):=by
 rw[qf0,<- decide_not];exact decide_eq_decide.2 (by omega)
theorem Rel.way(R:Rel nodes Ws ws as_)(T:Tree nodes)(hW:Wks Ws){v:Wk}(hn:n∈nodes)(hk:n.key=x.key)(hv:qbn v.key=true)(hd:0<=v.d0/\0<=v.d1):
  (ups nodes 4 n).any (qgt nodes as_ x v)=way (nodes.map Node.ent) Ws x v:=by
 have ai:=qhy T 4 n hn (T.ok n hn).2;have hx:=(T.ok n hn).1;rw[hk]at hx;have key:∀m∈nodes,(way0 (nodes.map Node.ent) Ws x v m.ent||way1 (nodes.map Node.ent) Ws x v m.ent)=(m.key.isPrefixOf x.key&&qgt nodes as_ x v m):=fun m hm=>by
  unfold way0 way1 qgt;rw[(R.short T hW hm x.d0 x.d1).1,(R.short T hW hm x.d0 x.d1).2,show m.ent.key=m.key from rfl,qe0 hx (T.ok m hm).1,qe0 hv (T.ok m hm).1];rw[Bool.not_and,qla (show 0<=shq0 nodes as_ m x.d0 from qn1 _ _) (qn1 _ _) hd.1,qla (show 0<=shq1 nodes as_ m x.d1 from qn1 _ _) (qn1 _ _) hd.2,quy,quy,(R.use hW hv).1,(R.use hW hv).2,(qb1 T hv).1,(qb1 T hv).2]
  cases m.key.isPrefixOf x.key<;>cases m.key.isPrefixOf v.key<;>simp
 rw[Bool.eq_iff_iff];unfold Proofs.YtphclnolomgjoaaGreatDoor.way;rw[xs0,xs0]
 constructor
 ·rintro⟨m,hm,h⟩
  obtain⟨h1,h2⟩:=(ai m).1 hm
  refine⟨m.ent,xrq.2 ⟨m,h1,rfl⟩,?_⟩
  rw[key m h1,h,xrw.2 (by rw[<-hk];exact h2)]
  rfl
 ·rintro⟨e,he,h⟩
  obtain⟨m,hm,rfl⟩:=xrq.1 he;rw[key m hm,Bool.and_eq_true]at h
  exact⟨m,(ai m).2 ⟨hm,by rw[hk];exact xrw.1 h.1⟩,h.2⟩
theorem qqa(l:List Pw)(f:Wk->Bool):(l.find? fun p=>f p.x).map (·.x)=(l.map (·.x)).find? f:=by
 induction l with
 |nil=>rfl
 |cons p l ih =>
  simp only[List.map_cons,List.find?_cons]
  cases f p.x<;>simp[ih]
theorem Rel.qwt(R:Rel nodes Ws ws as_)(T:Tree nodes)(hB:qa7 nodes)(hn:n∈nodes)(hp:p∈ws++as_):(p.q == n.blk)=decide (p.x.key=n.key):=by
 obtain⟨m,hm,h1,h2⟩:=R.leaf p hp;rw[<-h1,<- h2]
 by_cases h:m.blk=n.blk
 ·have:=hB m hm n hn h
  subst this
  simp
 ·rw[beq_eq_false_iff_ne.2 h,eq_comm,decide_eq_false_iff_not]
  exact fun e=>h (by rw[T.inj m hm n hn e])
theorem find_congr{α : Type}{f g : α -> Bool}:∀ {l:List α},(∀x∈l,f x=g x)->l.find? f=l.find? g
 | [],_=>rfl
 |a::l,h=>by
  simp only[List.find?_cons];rw[h a (by simp),find_congr (fun x hx=>h x (by simp[hx]))]
theorem Rel.head(R:Rel nodes Ws ws as_)(T:Tree nodes)(hB:qa7 nodes)(hn:n∈nodes):(ws.find? fun p=>p.q == n.blk).map (·.x)=qa0 Ws n.key:=by
 rw[find_congr (g:=fun p=>decide (p.x.key=n.key)) (fun p hp=>R.qwt T hB hn (xr9 _ hp)),qqa ws (fun x=>decide (x.key=n.key)),R.w,List.find?_filter];unfold qa0
 refine find_congr fun y _=>?_
 cases hs:y.st == 0<;>simp
theorem qqo(a b c d e f:Int)(w:World){sb:Nat}(hs:Blk w sb 35 #[vI c,vI d,vI e,vI f])(h1:0<=a)(h2:a<=100000)(h3:0<=b)(h4:b<=100000)(h5:0<=c)(h6:c<=100000)(h7:0<=d)(h8:d<=100000)(g1:0<=e)(g2:e<=100000)(g3:0<=f)(g4:f<=100000):
  Cl 240 #[.agg #[vI a,vI b],vS sb 2 2] w fun r w'=>r=.returned (.agg #[vI (min (min a c) e),vI (min (min b d) f)])/\Bw w w':=by
 have c0:=hs.cell 0;have c1:=hs.cell 1;have c2:=hs.cell 2;have c3:=hs.cell 3;simp only[xq0,xq1,xq2]at c0 c1 c2 c3;have ak:=hs.lt;have n1:¬(sb=w.heap.size):=by omega
 have n2:¬(sb=w.heap.size+1):=by omega
 have n3:¬(sb=w.heap.size+1+1):=by omega
 have m1:¬(w.heap.size=sb):=by omega
 have m2:¬(w.heap.size+1=sb):=by omega
 have m3:¬(w.heap.size+1+1=sb):=by omega
 have yB:∀(v1 v2:Value),((((w.alloc (.cells #[v1,v2] 35)).alloc (.cells #[vI 0,vI 0] 35)).alloc (.cells #[vI c,vI d] 35)).drew.drew).cell? (vA sb 2)=some (vI e)/\((((w.alloc (.cells #[v1,v2] 35)).alloc (.cells #[vI 0,vI 0] 35)).alloc (.cells #[vI c,vI d] 35)).drew.drew).cell? (vA sb 3)=some (vI f):=fun v1 v2=>by
  have hB:Bw w ((((w.alloc (.cells #[v1,v2] 35)).alloc (.cells #[vI 0,vI 0] 35)).alloc (.cells #[vI c,vI d] 35)).drew.drew):=by exact bel2
  exact⟨(hB.cell (p:=vA sb 2) ak).trans c2,(hB.cell (p:=vA sb 3) ak).trans c3⟩
 have FR:=fun v1 v2=>(yB v1 v2).1
 have FT:=fun v1 v2=>(yB v1 v2).2
 go_enter func240,ntmps240
 go_wp2
 refine wp_loop_rounds 3 ?_
 rw[rounds_succ];go_wp2
 refine wp_loop_rounds 3 ?_
 rw[rounds_succ];go_wp2
 go_region
 all_goals go_wp2
 all_goals rw[rounds_succ]
 all_goals go_wp2
 all_goals go_region
 all_goals go_wp2
 all_goals rw[rounds_succ]
 all_goals go_wp2
 all_goals rw[rounds_succ]
 all_goals go_wp2
 all_goals refine wp_loop_rounds 3 ?_
 all_goals rw[rounds_succ]
 all_goals go_wp2
 all_goals go_region
 all_goals go_wp2
 all_goals rw[rounds_succ]
 all_goals go_wp2
 all_goals go_region
 all_goals go_wp2
 all_goals rw[rounds_succ]
 all_goals go_wp2
 all_goals rw[rounds_succ]
 all_goals go_wp2
 all_goals refine xrn (v:=.agg #[vI (min (min a c) e),vI (min (min b d) f)]) ?_ rfl ⟨rfl,by exact bel1⟩
 all_goals simp[results,results240,go_sem]
 all_goals omega
end
end Go.Proofs.YtphclnolomgjoaaGreatDoor
