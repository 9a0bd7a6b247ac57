import Derived.Test.YtphclnolomgjoaaGreatDoorC12
set_option linter.unusedVariables false
set_option linter.unusedSimpArgs false
set_option maxRecDepth 100000
set_option maxHeartbeats 4000000
namespace Go.Proofs.YtphclnolomgjoaaGreatDoor
open Tryz
open Go.RowKit
variable {bt i size:Nat}{W w:World}{e:TypeId}{v va vw:Value}{xs:List Value}{as_ l ws:List Pw}{p:Pw}{num:Int}
theorem qn2:(prog.info? 95).map (fun i=>(i.zero,i.size,i.bytes))=some (some (.pointer none),1,8):=by kernel_rfl
theorem qhk:(prog.info? 95).map (·.size)=some 1:=by kernel_rfl
theorem qk6(sl:Value)(n vb:Nat)(xs:List Value)(v:Value)(w:World)(hn:n<=1000)(dv:v.oneCell'=true)(av:w.ownsRow 0 95 1 sl n xs)(ed:Blk w vb 95 #[v]):
  Cl 232 #[sl,vI n,vS vb 1 1] w fun e w' =>
   ∃eB,e=.returned eB/\w'.ownsRow 0 95 1 eB (n+1) (xs++[v])/\w.grownBy w' sl.ownBlock/\(eB.ownBlock=sl.ownBlock\/∃g,eB.ownBlock=some g/\w.heap.size<=g):=by
 obtain⟨i0,hi,fE,cJ,dO⟩:=info_parts qn2;have mO:=ed.cell 0;simp only[List.getElem?_toArray,List.getElem?_cons_zero]at mO;have dq:∀j u,[v][j]?=some u->w.cell? (((vA vb 0):Addr).add j)=some u:=fun j u hj=>by
  cases j with
  |zero=>simp at hj;subst hj;exact mO
  |succ j=>simp at hj
 have key:∃v' w',(∀ty,(Builtin.append_ #[98,98] ty #[sl,vS vb 1 1]).run prog w=.ok v' w')/\w'.ownsRow 0 95 1 v' (n+1) (xs++[v])/\w.grownBy w' sl.ownBlock/\(v'.ownBlock=sl.ownBlock\/∃g,v'.ownBlock=some g/\w.heap.size<=g):=by
  have bQ:∀ {v':Value} {w':World},w'.ownsRow w.heap.size 95 1 v' (n+1) (xs++[v])->w'.ownsRow 0 95 1 v' (n+1) (xs++[v])/\∃g,v'.ownBlock=some g/\w.heap.size<=g:=fun {v' w'} h=>by
   obtain⟨h1,h2⟩:=h
   rcases h2 with ⟨_,h0⟩|⟨g,cap,aD,rfl,hb,rest⟩
   ·omega
   ·exact⟨⟨h1,.inr ⟨g,cap,aD,rfl,Nat.zero_le _,rest⟩⟩,g,rfl,hb⟩
  rcases av.2 with ⟨rfl,rfl⟩|⟨g,cap,aD,rfl,_,hg,nw,jd,dp,ht⟩
  ·have hx:xs=[]:=List.eq_nil_of_length_eq_zero (by simpa using av.1);subst hx;obtain⟨v',w',hr,ho,dj,_⟩:=run_append_own (P:=prog) w w.heap.size 98 0 95 i0 _ 1 8 underlying98 hi fE cJ dO rfl (by decide) v0_ 0 [] (xrk w _ 95 1) (vA vb 0) 1 1 [v] rfl dq (by simp[dv]) (by unfold maxLen;omega) (by omega) (Nat.le_refl _);have ib:=bQ (by simpa using ho)
   exact⟨v',w',fun ty=>hr,ib.1,dj,.inr ib.2⟩
  ·by_cases bE:n+1<=cap
   ·have hr:=fun ty=>run_append_room (P:=prog) w 98 ty 95 i0 underlying98 hi g n cap aD hg (vA vb 0) 1 1 [v] (by rw[cJ];rfl) dq (by simp[dv]) bE (by rw[cJ];simp;omega)
    rw[cJ]at hr;simp only[Nat.mul_one]at hr ht dp
    refine⟨_,_,hr,⟨by simp[av.1],.inr ⟨g,cap,_,rfl,Nat.zero_le _,setRow_heap w g aD _ 95 _ hg,bE,jd,?_,?_⟩⟩,⟨rfl,rfl,rfl,by simp,fun k _ hk=>setRow_other w g k _ (fun e=>hk (by simp[Value.ownBlock,e]))⟩,.inl rfl⟩
    ·simp[dp];omega
    ·have:xs.length=n:=by simpa using av.1
     rw[Nat.mul_one,List.toList_toArray,ht,List.take_append_of_le_length (by simp;omega),xrd (by simp;omega)]
   ·obtain⟨v',w',hr,ho,dj⟩:=run_append_arg_grows (P:=prog) w 98 0 95 i0 _ 1 8 underlying98 hi fE cJ dO rfl (by decide) (vA g 0) n cap xs av.1 (av.cells (g:=g) rfl) (vA vb 0) 1 1 [v] rfl dq (by omega) (by unfold maxLen;omega) (by omega);have ib:=bQ ho
    exact⟨v',w',fun ty=>hr,ib.1,⟨dj.os,dj.tape,dj.output,dj.size,fun k hk _=>dj.block k hk (by simp)⟩,.inr ib.2⟩
 obtain⟨v',w',pY,ho,dj,dH⟩:=key;obtain⟨ao,cap,eK,dV⟩:∃ao cap,sl=.slice ao n cap/\n<=cap/\cap<=maxLen:=by
  rcases av.2 with ⟨rfl,rfl⟩|⟨g,cap,aD,rfl,_,_,h1,h2,_⟩
  ·exact⟨none,0,rfl,Nat.le_refl _,Nat.zero_le _⟩
  ·exact⟨_,_,rfl,h1,h2⟩
 obtain⟨dV,d_⟩:=dV;unfold maxLen at d_;subst eK;have lD:ao=none->n=0/\cap=0:=fun e=>by
  subst e
  rcases av.2 with ⟨h,rfl⟩|⟨g,cap',aD,h,_⟩
  ·injection h with _ _ h3;exact⟨rfl,h3⟩
  ·cases h
 clear av dq
 go_enter func232,ntmps232
 cases ao with
 |none =>
  obtain⟨rfl,rfl⟩:=lD rfl
  go_wp2_with (at_builtin;refine Lib.wpList_append_run _ rfl _ _ _ _ rfl _ _ rfl rfl _ _ (pY _) ?_)
  all_goals (go_ret;exact⟨_,rfl,ho,dj,dH⟩)
 |some a =>
  go_wp2_with (at_builtin;refine Lib.wpList_append_run _ rfl _ _ _ _ rfl _ _ rfl rfl _ _ (pY _) ?_)
  all_goals (go_ret;exact⟨_,rfl,ho,dj,dH⟩)
theorem qiq(g n c i vb:Nat)(aD:Array Value)(v:Value)(w:World)(hi:i<n)(bE:n+1<=c)(hc:c<=maxLen)(hg:w.heap[g]?=some (.cells aD 95 (0,0)))(dp:aD.size=c)
  (dv:v.oneCell'=true) (h1:∀u∈aD.toList.take n,u.oneCell'=true) (ed:Blk w vb 95 #[v]) (aW:vb≠g) :
  Cl 232 #[vS g n c,vI i,vS vb 1 1] w fun e w' =>
   e=.returned (vS g (n+1) c)/\(∃R:Array Value,w'.heap[g]?=some (.cells R 95 (0,0))/\R.size=c/\R.toList.take (n+1)=(aD.toList.take n).take i++v::(aD.toList.take n).drop i)/\Keep (fun b=>b=g) w w':=by
 unfold maxLen at hc;have dO:¬((i:Int)=(n:Int)):=by omega
 have fO:w.shape? vb=some (95,1):=by unfold World.shape?;rw[show w.heap[vb]?=_ from ed];rfl
 have vn:w.shape? g=some (95,c):=by unfold World.shape?;rw[hg];simp[dp]
 have sX:∀lb cb,(callFunc 241 #[vS vb 1 1,.slice (some (vA g (i+1))) lb cb]).run prog w=.ok (.value (.bool false)) w:=fun lb cb=>by
  rw[run_callFunc_extern func241 (by kernel_rfl) (by kernel_rfl) (by kernel_rfl) (e:=Extern.SlicesOverlaps.overlaps #[98,98] #[4]) (by kernel_rfl),
   Lib.run_overlaps_apart w 98 4 95 underlying98 1 sizeOf97 (vA vb 0) (vA g (i+1)) 1 1 lb cb aW 95 95 1 c fO vn (by omega) (ed.frozen 0) (ed.frozen 1)]
  rfl
 have cell:∀j u,aD[j]?=some u->w.cell? (vA g j)=some u:=fun j u h=>by unfold World.cell?;simp only[hg];simpa using h
 obtain⟨cs,dE⟩:∃cs,cs=(aD.toList.take n).drop i:=⟨_,rfl⟩;have aY:cs.length=n-i:=by rw[dE];simp;omega
 have eP:∀ty dc sc,(Builtin.copy_ #[98,98] ty #[.slice (some (vA g (i+1))) (n-i) dc,.slice (some (vA g i)) (n+1-i) sc]).run prog w.drew=.ok (goInt cs.length) (w.drew.setRow g (aD.toList.take (i+1)++cs++aD.toList.drop (i+1+cs.length)).toArray):=fun ty dc sc =>
  run_copy_row prog w.drew 98 98 ty 95 g (i+1) (n-i) dc (vA g i) (n+1-i) sc aD 95 cs underlying98 qhk hg (by rw[aY];simp only[Nat.min_def];split<;>omega)
   (fun j u hj=>by
    rw[Addr.add_lit]
    refine cell _ _ ?_
    rw[dE,List.getElem?_drop,List.getElem?_take]at hj
    split at hj
    ·simpa using hj
    ·cases hj) (by rw[aY,dp];omega) (fun u hu=>h1 u (by rw[dE]at hu;exact List.mem_of_mem_drop hu))
 obtain⟨R1,mh⟩:∃R1,R1=(aD.toList.take (i+1)++cs++aD.toList.drop (i+1+cs.length)).toArray:=⟨_,rfl⟩;rw[<-mh]at eP;have oV:R1.size=c:=by rw[mh];simp[aY,dp];omega
 have lR:(w.drew.setRow g R1).heap[g]?=some (.cells R1 95 (0,0)):=setRow_heap w.drew g aD R1 95 (0,0) hg;have mO:w.cell? (vA vb 0)=some v:=by have:=ed.cell 0;simpa using this
 have fr:∀(W:World),W.heap[g]?=some (.cells R1 95 (0,0))->W.cell? (vA vb 0)=some v->∀ty dc,(Builtin.copy_ #[98,98] ty #[.slice (some (vA g i)) (n+1-i) dc,vS vb 1 1]).run prog W=.ok (goInt 1) (W.setRow g (R1.toList.take i++[v]++R1.toList.drop (i+1)).toArray):=fun W oX ub ty dc =>
  run_copy_row prog W 98 98 ty 95 g i (n+1-i) dc (vA vb 0) 1 1 R1 95 [v] underlying98 qhk oX (by simp only[Nat.min_def,List.length_singleton];split<;>omega)
   (fun j u hj=>by cases j with|zero=>(simp at hj;subst hj;exact ub)|succ j=>simp at hj) (by rw[oV];simp;omega) (by simp[dv])
 have hE:∀j u,w.cell? (vA vb j)=some u->(w.drew.setRow g R1).cell? (vA vb j)=some u:=fun j u h=>by rw[cell_setRow_other _ _ _ _ aW];exact h
 have bX:IntKind.i64.wrap ((i:Int)+1)=(i:Int)+1:=by rw[IntKind.wrap_i64];omega
 have cH:i<=n:=by omega
 have wS:((i:Int)+1).toNat=i+1:=by omega
 have aa:(0:Int)<=(i:Int)+1:=by omega
 have af:¬(c=i+1):=by omega
 have ax:(i:Int)<=(n:Int)+1:=by omega
 have a_:¬(c=i):=by omega
 have Bl:Hid (cs=(aD.toList.take n).drop i):=dE;have qo:Hid (R1=(aD.toList.take (i+1)++cs++aD.toList.drop (i+1+cs.length)).toArray):=mh;have tx:Hid (cs.length=n-i):=aY;clear dE mh aY
 go_enter func232,ntmps232
 go_wp2_with (simp only[sX])
 go_region_law (refine qg3 rfl _ _ 98 98 rfl _ _ (by simp[Act.eval,Act.put]) (by simp[Act.eval,Act.put]) (eP _ _ _) ?_)
 go_wp2_with (at_builtin;refine qfm _ rfl _ _ 98 98 rfl _ _ rfl rfl (fr _ lR (hE _ _ mO) _ _) ?_)
 go_ret
 refine⟨rfl,⟨(R1.toList.take i++v::R1.toList.drop (i+1)).toArray,setRow_heap _ g R1 _ 95 (0,0) lR,by simp[oV];omega,?_⟩,?_⟩
 ·have e1:R1.toList=aD.toList.take (i+1)++cs++aD.toList.drop (n+1):=by rw[qo.out,tx.out,show i+1+(n-i)=n+1 by omega]
  have e2:R1.toList.take i=aD.toList.take i:=by rw[e1,List.append_assoc,List.take_append_of_le_length (by simp;omega),List.take_take,Nat.min_eq_left (by omega)]
  have e3:R1.toList.drop (i+1)=cs++aD.toList.drop (n+1):=by rw[e1,List.append_assoc,List.drop_append_of_le_length (by simp;omega),List.drop_of_length_le (by simp;omega)];rfl
  have e4:(aD.toList.take n).take i=aD.toList.take i:=by rw[List.take_take,Nat.min_eq_left (by omega)]
  rw[List.toList_toArray,e2,e3,e4,<- Bl.out];have an:(aD.toList.take i).length=i:=by simp;omega
  rw[show aD.toList.take i++v::(cs++aD.toList.drop (n+1))=(aD.toList.take i++v::cs)++aD.toList.drop (n+1) by simp];rw[List.take_append_of_le_length (by simp[an,tx.out];omega),xrd (by simp[an,tx.out];omega)]
 ·exact⟨rfl,rfl,rfl,by simp,fun k hk hn=>by rw[setRow_other _ _ _ _ hn,setRow_other _ _ _ _ hn];rfl⟩
theorem qku(g n c i vb:Nat)(aD:Array Value)(v:Value)(w:World)(hi:i<n)(cQ:n<=1000)(nw:n<=c)(bE:c<n+1)(hg:w.heap[g]?=some (.cells aD 95 (0,0)))(dp:aD.size=c)
  (dv:v.oneCell'=true) (h1:∀u∈aD.toList.take n,u.oneCell'=true) (ed:Blk w vb 95 #[v]) :
  Cl 232 #[vS g n c,vI i,vS vb 1 1] w fun e w' =>
   ∃G,n+1<=G/\G<=maxLen/\e=.returned (vS w.heap.size (n+1) G)/\(∃R:Array Value,w'.heap[w.heap.size]?=some (.cells R 95 (0,0))/\R.size=G/\R.toList.take (n+1)=(aD.toList.take n).take i++v::(aD.toList.take n).drop i)/\Bw w w':=by
 obtain⟨i0,p8,fE,rY,zN⟩:=info_parts qn2;obtain⟨xs,lL⟩:∃xs,xs=aD.toList.take n:=⟨_,rfl⟩;rw[<-lL]at h1;have jD:xs.length=n:=by rw[lL];simp;omega
 have dO:¬((i:Int)=(n:Int)):=by omega
 have nA:(c:Int)<(n:Int)+1:=by omega
 have sR:g<w.heap.size:=(xrc.1 hg).1;have ox:vb<w.heap.size:=ed.lt;have cell:∀j u,xs[j]?=some u->w.cell? (vA g j)=some u:=fun j u h=>by
  unfold World.cell?;simp only[hg];rw[lL,List.getElem?_take]at h
  split at h
  ·simpa using h
  ·cases h
 have mO:w.cell? (vA vb 0)=some v:=by have:=ed.cell 0;simpa using this
 have pF:(n:Int)+1-(i:Int)=((n+1-i:Nat):Int):=by omega
 have uJ:i+(n+1-i)=n+1:=by omega
 have iS:(Builtin.firstCells i0.size i (vS g i c)).run prog w.drew=.ok (xs.take i).toArray w.drew:=by
  rw[rY]
  exact run_firstCells_some w.drew 1 i (vA g 0) i c (xs.take i) (by rw[List.length_take];omega) (fun j u hj=>by
   rw[Addr.add_lit,Nat.zero_add];rw[List.getElem?_take]at hj
   split at hj
   ·exact cell j u hj
   ·cases hj)
 obtain⟨G,hG⟩:∃G,G=grownCap w (n+1) c 95:=⟨_,rfl⟩;obtain⟨fm,jP⟩:∃fm:Array Value,fm=(xs.take i).toArray++Builtin.zeroCells (Value.pointer none).cells (n+1-i)++Builtin.zeroCells (Value.pointer none).cells (G-(n+1)):=⟨_,rfl⟩;have zo:∀ty,(Builtin.append_ #[98,3] ty #[vS g i c,vI ((n:Int)+1-(i:Int))]).run prog w =
   .ok (vS w.heap.size (n+1) G) (w.drew.alloc (.cells fm 95)):=fun ty=>by
  have h:=Lib.run_append_grow_zeros w 98 3 ty 95 i0 _ .i64 .i64 underlying98 underlying3 p8 fE (some (vA g 0)) i c (xs.take i) iS (n+1-i) (by omega) (by omega) (by omega) (by omega) (by rw[zN];omega) (by rw[zN,uJ];exact growslice_fits bE (by omega));rw[uJ,<- hG,<- jP]at h;rw[pF]
  exact h
 have Co:n+1<=G:=by rw[hG];exact grownCap_ge w _ _ _
 have oQ:G<=maxLen:=by rw[hG];exact grownCap_le_maxLen w (n+1) c 95 (by unfold maxLen;omega)
 have tW:fm.size=G:=by
  rw[jP];simp[Builtin.zeroCells,Value.cells];omega
 have nK:fm.toList.take i=xs.take i:=by
  rw[jP];simp only[Array.toList_append,List.append_assoc,List.toList_toArray];rw[List.take_append_of_le_length (by simp;omega),xrd (by simp;omega)]
 obtain⟨W1,eH⟩:∃W1,W1=w.drew.alloc (.cells fm 95):=⟨_,rfl⟩;rw[<-eH]at zo;have vu:W1.heap.size=w.heap.size+1:=by rw[eH];simp
 have hN:W1.heap[w.heap.size]?=some (.cells fm 95 (0,0)):=by rw[eH];exact heap_alloc_new w.drew _
 have jM:∀k,k<w.heap.size->W1.heap[k]?=w.heap[k]?:=fun k hk=>by rw[eH];exact Below.heap_alloc w.drew _ k hk
 have ph:Bw w W1:=by rw[eH];exact(Below.refl _ w).drew.alloc (Nat.le_refl _) _
 have eP:∀(W:World),W.heap[w.heap.size]?=some (.cells fm 95 (0,0))->W.cell? (vA vb 0)=some v->∀ty dc,(Builtin.copy_ #[98,98] ty #[.slice (some (vA w.heap.size i)) (n+1-i) dc,vS vb 1 1]).run prog W=.ok (goInt 1) (W.setRow w.heap.size (fm.toList.take i++[v]++fm.toList.drop (i+1)).toArray):=fun W oX ub ty dc =>
  run_copy_row prog W 98 98 ty 95 w.heap.size i (n+1-i) dc (vA vb 0) 1 1 fm 95 [v] underlying98 qhk oX (by simp only[Nat.min_def,List.length_singleton];split<;>omega)
   (fun j u hj=>by cases j with|zero=>(simp at hj;subst hj;exact ub)|succ j=>simp at hj) (by rw[tW];simp;omega) (by simp[dv])
 obtain⟨R2,eh⟩:∃R2,R2=(fm.toList.take i++[v]++fm.toList.drop (i+1)).toArray:=⟨_,rfl⟩;rw[<-eh]at eP;have mi:R2.size=G:=by rw[eh];simp[tW];omega
 obtain⟨W2,eI⟩:∃W2,W2=W1.setRow w.heap.size R2:=⟨_,rfl⟩;obtain⟨cs,dE⟩:∃cs,cs=xs.drop i:=⟨_,rfl⟩;have aY:cs.length=n-i:=by rw[dE];simp;omega
 have fr:∀(W:World),W.heap[w.heap.size]?=some (.cells R2 95 (0,0))->(∀j,W.cell? (vA g j)=w.cell? (vA g j))->∀ty dc sc,(Builtin.copy_ #[98,98] ty #[.slice (some (vA w.heap.size (i+1))) (n-i) dc,.slice (some (vA g i)) (n-i) sc]).run prog W=.ok (goInt cs.length) (W.setRow w.heap.size (R2.toList.take (i+1)++cs++R2.toList.drop (i+1+cs.length)).toArray):=fun W oX C7 ty dc sc =>
  run_copy_row prog W 98 98 ty 95 w.heap.size (i+1) (n-i) dc (vA g i) (n-i) sc R2 95 cs underlying98 qhk oX (by rw[aY];simp)
   (fun j u hj=>by
    rw[Addr.add_lit,C7];rw[dE,List.getElem?_drop]at hj
    exact cell _ _ hj) (by rw[aY,mi];omega) (fun u hu=>h1 u (by rw[dE]at hu;exact List.mem_of_mem_drop hu))
 obtain⟨R3,jO⟩:∃R3,R3=(R2.toList.take (i+1)++cs++R2.toList.drop (i+1+cs.length)).toArray:=⟨_,rfl⟩;rw[<-jO]at fr;have fk:(W1.setRow w.heap.size R2).heap[w.heap.size]?=some (.cells R2 95 (0,0)):=setRow_heap W1 _ fm R2 95 (0,0) hN;have yo:∀j,W1.cell? (vA g j)=w.cell? (vA g j):=fun j=>World.cell?_of_block (jM g sR)
 have um:∀j,(W1.setRow w.heap.size R2).cell? (vA g j)=w.cell? (vA g j):=fun j=>by rw[cell_setRow_other _ _ _ _ (by simp;omega)];exact yo j
 have CV:W1.cell? (vA vb 0)=some v:=(World.cell?_of_block (jM vb ox)).trans mO;have aM:R3.size=G/\R3.toList.take (n+1)=xs.take i++v::xs.drop i:=by
  refine⟨by rw[jO];simp[aY,mi];omega,?_⟩
  have ey:(xs.take i).length=i:=by simp;omega
  have e1:R2.toList=xs.take i++v::fm.toList.drop (i+1):=by rw[eh,nK];simp
  have e2:R2.toList.take (i+1)=xs.take i++[v]:=by
   rw[e1,List.take_append,ey,show i+1-i=1 by omega,xrd (by omega)];simp
  rw[jO,List.toList_toArray,e2,dE];rw[show xs.take i++[v]++xs.drop i=xs.take i++v::xs.drop i by simp];rw[List.take_append_of_le_length (by simp;omega),xrd (by simp;omega)]
 have d_:=oQ;unfold maxLen at d_;have I5:¬(G=i):=by omega
 have Cn:¬(G=i+1):=by omega
 have qy:¬(c=i):=by omega
 have bX:IntKind.i64.wrap ((i:Int)+1)=(i:Int)+1:=by rw[IntKind.wrap_i64];omega
 have aa:(0:Int)<=(i:Int)+1:=by omega
 have cH:i<=n:=by omega
 have wS:((i:Int)+1).toNat=i+1:=by omega
 have ax:(i:Int)<=(n:Int):=by omega
 have si:Hid (xs=aD.toList.take n):=lL;have BC:Hid (W1=w.drew.alloc (.cells fm 95)):=eH;have bU:Hid (R3.size=G/\R3.toList.take (n+1)=xs.take i++v::xs.drop i):=aM;have B0:Hid (∀k,k<w.heap.size->W1.heap[k]?=w.heap[k]?):=jM;have CT:=eP W1 hN CV;have CU:=fr (W1.setRow w.heap.size R2).drew fk um;clear pF uJ iS jP hG tW nK eh jO eI dE aY lL jD mi eH aM yo jM h1 cell
 go_enter func232,ntmps232
 go_wp2_with (at_builtin;refine Lib.wpList_append_run _ rfl _ _ _ _ rfl _ _ rfl rfl _ _ (zo _) ?_)
 go_region
 go_wp2
 go_ret
 refine⟨G,Co,oQ,rfl,⟨R3,setRow_heap (W1.setRow w.heap.size R2).drew _ R2 _ 95 (0,0) fk,bU.out.1,by rw[<-si.out];exact bU.out.2⟩,?_⟩
 refine ph.trans ⟨rfl,rfl,rfl,by simp,fun k hk=>?_⟩
 rw[setRow_other _ _ _ _ (by omega)]
 exact setRow_other _ _ _ _ (by omega)
theorem ql3(sl:Value)(n i vb:Nat)(xs:List Value)(v:Value)(w:World)(hn:n<=1000)(hi:i<=n)(dv:v.oneCell'=true)(h1:∀u∈xs,u.oneCell'=true)(av:w.ownsRow 0 95 1 sl n xs)(ed:Blk w vb 95 #[v])(aW:sl.ownBlock≠some vb):
  Cl 232 #[sl,vI i,vS vb 1 1] w fun e w' =>
   ∃eB,e=.returned eB/\w'.ownsRow 0 95 1 eB (n+1) (xs.take i++v::xs.drop i)/\Keep (fun b=>sl.ownBlock=some b) w w'/\(eB.ownBlock=sl.ownBlock\/∃g,eB.ownBlock=some g/\w.heap.size<=g):=by
 have jD:xs.length=n:=by have:=av.1;omega
 rcases Nat.lt_or_ge i n with ak|kF
 ·rcases av.2 with ⟨rfl,rfl⟩|⟨g,cap,aD,rfl,_,hg,nw,jd,dp,ht⟩
  ·omega
  ·simp only[Nat.mul_one]at dp ht;have xD:∀u∈aD.toList.take n,u.oneCell'=true:=by rw[ht];exact h1
   by_cases bE:n+1<=cap
   ·refine(qiq g n cap i vb aD v w ak bE jd hg dp dv xD ed (fun e=>aW (by rw[e];rfl))).mono ?_
    rintro e w' ⟨rfl,⟨R,hR,Cw,nK⟩,hk⟩
    refine⟨_,rfl,⟨by simp;omega,.inr ⟨g,cap,R,rfl,Nat.zero_le _,hR,bE,jd,by omega,by rw[Nat.mul_one,nK,ht]⟩⟩,hk.mono (fun b hb=>by rw[hb];rfl),.inl rfl⟩
   ·refine(qku g n cap i vb aD v w ak hn nw (by omega) hg dp dv xD ed).mono ?_
    rintro e w' ⟨G,qv,mf,rfl,⟨R,hR,Cw,nK⟩,hb⟩
    refine⟨_,rfl,⟨by simp;omega,.inr ⟨w.heap.size,G,R,rfl,Nat.zero_le _,hR,qv,mf,by omega,by rw[Nat.mul_one,nK,ht]⟩⟩,Keep.new hb,.inr ⟨w.heap.size,rfl,Nat.le_refl _⟩⟩
 ·obtain rfl:i=n:=by omega
  refine(qk6 sl i vb xs v w hn dv av ed).mono ?_
  rintro e w' ⟨eB,rfl,dI,dj,dH⟩
  refine⟨eB,rfl,?_,(Keep.refl _ _).grown dj (fun k h=>h),dH⟩
  rw[xrd (by omega),List.drop_of_length_le (by omega)];exact dI
theorem qeb{α : Type}{l:List α}{x : α}(hi:l[i]?=some x):l=l.take i++x::l.drop (i+1):=by
 obtain⟨hl,rfl⟩:=xr0.1 hi
 simp
structure BkAt (W:World) (bt:Nat) (r lst vw va:Value) (ws as_:List Pw):Prop where
 at_:Blk W bt 102 #[r,lst,vw,va]
 wrow:W.ownsRow 0 95 1 vw ws.length (qay ws)
 arow:W.ownsRow 0 95 1 va as_.length (qay as_)
 works:∀p∈ws++as_,Blk W p.blk 105 p.cells
 sep:∀b,vw.ownBlock=some b->va.ownBlock≠some b
 nd:(ws++as_).Nodup
 inj:∀a∈ws++as_,∀b∈ws++as_,a.blk=b.blk->a=b
 len:ws.length+as_.length<=24
def BkT (bt:Nat)(vw va:Value)(y:Nat):Prop:=y=bt\/vw.ownBlock=some y\/va.ownBlock=some y
theorem qbb{α : Type}{l:List α}{x : α}(h:x∈l.take i++l.drop (i+1)):x∈l:=by
 rcases xri.1 h with h1|h1
 ·exact List.mem_of_mem_take h1
 ·exact List.mem_of_mem_drop h1
theorem qb0{α : Type}{l:List α}{x : α}(hi:l[i]?=some x):l.Perm (x::(l.take i++l.drop (i+1))):=by
 have h:=qeb hi
 conv=>lhs;rw[h]
 exact List.perm_middle
theorem qbe{n:Nat}(h:W.ownsRow 0 e size v n xs):∃a cap,v=.slice a n cap/\n<=cap/\cap<=maxLen:=by
 rcases h.2 with ⟨rfl,h0⟩|⟨g,cap,aD,rfl,_,_,h1,h2,_⟩
 ·exact⟨none,0,by rw[h0],by omega,Nat.zero_le _⟩
 ·exact⟨_,cap,rfl,h1,h2⟩
theorem qsi{r lst:Value}(bh:Blk W bt 102 #[r,lst,vw,va])(FM:W.ownsRow 0 95 1 va as_.length (qay as_))(hl:as_.length<=100):
  ∃v' w',(∀ty,(Builtin.append_ #[98,98] ty #[va,vS W.heap.size 1 1]).run prog (W.alloc (.cells #[nptr p.blk] 95))=.ok v' w')/\∃g cap,v'=vS g (as_.length+1) cap/\as_.length+1<=cap/\cap<=maxLen/\w'.ownsRow 0 95 1 v' (as_.length+1) (qay (as_++[p]))/\Blk w' bt 102 #[r,lst,vw,va]/\Keep (fun b=>va.ownBlock=some b) W w'/\(va.ownBlock=some g\/W.heap.size<=g):=by
 have aO:Bw W (W.alloc (.cells #[nptr p.blk] 95)):=by exact bel2
 have D4:va.ownBlock≠some bt:=qag FM bh (by decide);have sD:Keep (fun b=>va.ownBlock=some b) W (W.alloc (.cells #[nptr p.blk] 95)):=Keep.new aO;obtain⟨v',w',hr,g,cap,rfl,R⟩:=qby un94 qvc (by omega) (W.alloc (.cells #[nptr p.blk] 95)) va as_.length (qay as_) (qab (T:=fun _=>False) FM (Keep.new aO) (fun _ _ e=>e)) W.heap.size 1 1 (by omega) [nptr p.blk] rfl (Blk.new W 95 _) (fun u hu=>by simp at hu;subst hu;rfl) (by unfold maxLen;omega) (by omega);have hp:qay (as_++[p])=qay as_++[nptr p.blk]:=by simp[qay]
 refine⟨_,w',hr,g,cap,rfl,R.le,R.mx,by rw[hp];exact R.own,(bh.below aO bh.lt).keep R.keep D4,sD.qbo R.keep (fun b _ e=>e),R.new.imp id (fun e=>by simp at e;omega)⟩
theorem qoo{r lst:Value}(h:BkAt w bt r lst vw va ws as_)(hi:ws[i]?=some p):
  Cl 213 #[.pointer (some (vA bt 1)),nptr p.blk] w fun e w'=>e=.returned (.tuple #[])/\∃aQ aX,BkAt w' bt r lst aQ aX (ws.take i++ws.drop (i+1)) (as_++[p])/\Keep (BkT bt vw va) w w'/\(∀b,aQ.ownBlock=some b\/aX.ownBlock=some b->vw.ownBlock=some b\/va.ownBlock=some b\/w.heap.size<=b):=by
 have dM:=xr2 hi;have rQ:=h.works p (xr9 _ dM);have ak:=h.at_.lt;have an:=h.len;have qf:ws.length<=100:=by omega
 have jy:=qb7 ⟨h.wrow,fun q hq=>h.works q (xr9 _ hq)⟩ qf rQ (fun a ha e=>h.inj a (xr9 _ ha) p (xr9 _ dM) e) (List.nodup_append.1 h.nd).1;have e_:vw.ownBlock≠some bt:=qag h.wrow h.at_ (by decide);have fw:va.ownBlock≠some bt:=qag h.arow h.at_ (by decide);have c2:=h.at_.cell 2;simp only[xq0,xq1,xq2]at c2;unfold nptr at jy ⊢
 go_enter func213,ntmps213
 go_wp2_with fail
 refine jy.mono ?_
 rintro e w1 (⟨a7,rfl,hB⟩|⟨i',v1,kG,rfl,eH,eu,db⟩)
 ·exact absurd dM a7
 ·have mB:i'=i:=(List.getElem?_inj (xr0.1 kG).1 (List.nodup_append.1 h.nd).1).1 (kG.trans hi.symm);subst mB;have cD:=h.at_.keep eu e_;have f2:=cD.frozen 2;have k2:=cD.cell 2;have k3:=cD.cell 3;simp only[xq0,xq1,xq2]at k2 k3;have bT:Blk (w1.setCell (vA bt 2) v1) bt 102 #[r,lst,v1,va]:=by have:=cD.set 2 v1;simpa using this
  have jn:(w1.setCell (vA bt 2) v1).ownsRow 0 95 1 va as_.length (qay as_):=xrl (qab h.arow eu (fun g hg e=>h.sep g e hg)) (fun e=>fw e) _;have jz:(w1.setCell (vA bt 2) v1).ownsRow 0 95 1 v1 (ws.take i'++ws.drop (i'+1)).length (qay (ws.take i'++ws.drop (i'+1))):=xrl eH.row (fun e=>e_ (by rw[<-db];exact e)) _;have iY:∀q∈ws++as_,Blk (w1.setCell (vA bt 2) v1) q.blk 105 q.cells:=fun q hq=>((h.works q hq).keep eu (qag h.wrow (h.works q hq) (by decide))).other _ _ (fun e=>by
   have h1:=h.works q hq;rw[show q.blk=bt from e]at h1
   have:=h1.symm.trans h.at_
   injection this with this;injection this with _ h2 _
   exact absurd h2 (by decide))
  have fp:Keep (BkT bt vw va) w (w1.setCell (vA bt 2) v1):=(eu.mono (fun y e=>.inr (.inl e))).setCell (p:=vA bt 2) (.inl rfl) _;have cu:=qsi (p:=p) bT jn (by omega);obtain⟨a1,c1,dv,de,gy⟩:=qbe jz;rw[show(w1.setCell (vA bt 2) v1).heap.size=w1.heap.size by simp]at cu;have aP:∀g' cap' w',w'.ownsRow 0 95 1 (vS g' (as_.length+1) cap') (as_.length+1) (qay (as_++[p]))->Blk w' bt 102 #[r,lst,v1,va]->Keep (fun b=>va.ownBlock=some b) (w1.setCell (vA bt 2) v1) w'->(va.ownBlock=some g'\/w1.heap.size<=g')->∃aQ aX,BkAt (w'.setCell (vA bt 3) (vS g' (as_.length+1) cap')) bt r lst aQ aX (ws.take i'++ws.drop (i'+1)) (as_++[p])/\Keep (BkT bt vw va) w (w'.setCell (vA bt 3) (vS g' (as_.length+1) cap'))/\(∀b,aQ.ownBlock=some b\/aX.ownBlock=some b->vw.ownBlock=some b\/va.ownBlock=some b\/w.heap.size<=b):=by
   intro g' cap' w' au aZ oT ez;have bj:((ws.take i'++ws.drop (i'+1))++(as_++[p])).Perm (ws++as_):=by
    have h1:=(qb0 hi).append_right as_
    refine List.Perm.trans ?_ h1.symm
    rw[<-List.append_assoc]
    exact List.perm_append_comm
   have ai:∀q,q∈(ws.take i'++ws.drop (i'+1))++(as_++[p])->q∈ws++as_:=fun q hq=>bj.mem_iff.1 hq
   have fB:g'≠bt:=fun e=>by
    rcases ez with e2|e2
    ·rw[e]at e2;exact fw e2
    ·have:=cD.lt;omega
   have vz:v1.ownBlock≠some bt:=by rw[db];exact e_
   have hz:(w1.setCell (vA bt 2) v1).heap.size=w1.heap.size:=by simp
   refine⟨v1,vS g' (as_.length+1) cap',⟨?_,?_,?_,?_,?_,?_,?_,?_⟩,?_,?_⟩
   ·have:=aZ.set 3 (vS g' (as_.length+1) cap')
    simpa using this
   ·exact xrl (qab jz oT (fun g hg e=>h.sep g (by rw[<-db];exact hg) e)) (fun e=>vz e) _
   ·rw[show(as_++[p]).length=as_.length+1 by simp]
    exact xrl au (by simp[Value.ownBlock];exact fB) _
   ·intro q hq;have h1:=iY q (ai q hq)
    exact(h1.keep oT (qag jn h1 (by decide))).other _ _ (fun e=>by
     have h2:=iY q (ai q hq);rw[show q.blk=bt from e]at h2
     have:=h2.symm.trans bT
     injection this with this;injection this with _ h3 _
     exact absurd h3 (by decide))
   ·intro b aa e
    simp[Value.ownBlock]at e
    subst e
    rcases ez with e2|e2
    ·exact h.sep _ (by rw[<-db];exact aa) e2
    ·have:=qal jz aa;omega
   ·exact bj.nodup_iff.2 h.nd
   ·exact fun a ha b hb e=>h.inj a (ai a ha) b (ai b hb) e
   ·have:=bj.length_eq
    simp only[List.length_append]at this ⊢
    omega
   ·exact((fp.qbo oT (fun b _ e=>.inr (.inr e)))).setCell (p:=vA bt 3) (.inl rfl) _
   ·rintro b (e|e)
    ·left;rw[<-db];exact e
    ·simp[Value.ownBlock]at e
     subst e
     rcases ez with e2|e2
     ·exact .inr (.inl e2)
     ·exact .inr (.inr (Nat.le_trans eu.size e2))
  clear h eH jz iY fp;generalize as_.length=na at cu aP;generalize qay (as_++[p])=pp at cu aP;have zA:∃n1,v1=.slice a1 n1 c1:=⟨_,dv⟩;clear dv de gy;obtain⟨n1,rfl⟩:=zA;clear jy;unfold nptr at cu
  go_wp2_with (at_builtin;refine qah (by rfl) _ _ _ _ rfl _ _ rfl (by rfl) cu ?_;rintro v2 w2 ⟨g2,q2,rfl,gx,ir,R2,af,bM,da⟩;have f3:=af.frozen 3;have gJ:=af.cell 3;simp only[xq0,xq1,xq2]at gJ)
  go_end0
  exact⟨rfl,aP _ _ _ R2 af bM da⟩
theorem qs6{r lst:Value}(bh:Blk W bt 102 #[r,lst,vw,va])(wU:W.ownsRow 0 95 1 vw ws.length (qay ws))(hl:ws.length<=100):
  Cl 232 #[vw,vI 0,vS W.heap.size 1 1] (W.alloc (.cells #[nptr p.blk] 95)) fun e w'=>∃a n cap,e=.returned (.slice a n cap)/\n=ws.length+1/\w'.ownsRow 0 95 1 (.slice a n cap) n (qay (p::ws))/\Blk w' bt 102 #[r,lst,vw,va]/\Keep (fun b=>vw.ownBlock=some b) W w'/\(∀b,(Value.slice a n cap).ownBlock=some b->vw.ownBlock=some b\/W.heap.size<=b):=by
 have aO:Bw W (W.alloc (.cells #[nptr p.blk] 95)):=by exact bel2
 have D4:vw.ownBlock≠some bt:=qag wU bh (by decide);have sD:Keep (fun b=>vw.ownBlock=some b) W (W.alloc (.cells #[nptr p.blk] 95)):=Keep.new aO;have ak:vw.ownBlock≠some W.heap.size:=fun e=>by have:=qal wU e;omega
 have h:=ql3 vw ws.length 0 W.heap.size (qay ws) (nptr p.blk) (W.alloc (.cells #[nptr p.blk] 95)) (by omega) (Nat.zero_le _) rfl (fun u hu=>by unfold qay at hu;obtain⟨q,_,rfl⟩:=xrq.1 hu;rfl) (qab (T:=fun _=>False) wU (Keep.new aO) (fun _ _ e=>e)) (Blk.new W 95 _) ak
 refine h.mono ?_
 rintro e w' ⟨eB,rfl,hr,hK,hn⟩
 obtain⟨a,cap,rfl,h1,h2⟩:=qbe hr
 refine⟨a,_,cap,rfl,rfl,by simpa [qay] using hr,(bh.below aO bh.lt).keep hK D4,sD.qbo hK (fun b _ e=>e),fun b hb=>?_⟩
 rcases hn with e|⟨g,e,e2⟩
 ·left;rw[<-e];exact hb
 ·rw[hb]at e;injection e with e;subst e;simp at e2;right;omega
theorem qor{r lst:Value}(h:BkAt w bt r lst vw va ws as_)(hi:as_[i]?=some p):
  Cl 211 #[.pointer (some (vA bt 1)),nptr p.blk] w fun e w'=>e=.returned (.tuple #[])/\∃aQ aX,BkAt w' bt r lst aQ aX (p::ws) (as_.take i++as_.drop (i+1))/\Keep (BkT bt vw va) w w'/\(∀b,aQ.ownBlock=some b\/aX.ownBlock=some b->vw.ownBlock=some b\/va.ownBlock=some b\/w.heap.size<=b):=by
 have dM:=xr2 hi;have rQ:=h.works p (xra _ dM);have ak:=h.at_.lt;have an:=h.len;have CD:as_.length<=100:=by omega
 have jy:=qb7 ⟨h.arow,fun q hq=>h.works q (xra _ hq)⟩ CD rQ (fun a ha e=>h.inj a (xra _ ha) p (xra _ dM) e) (List.nodup_append.1 h.nd).2.1;have e_:vw.ownBlock≠some bt:=qag h.wrow h.at_ (by decide);have fw:va.ownBlock≠some bt:=qag h.arow h.at_ (by decide);have c3:=h.at_.cell 3;simp only[xq0,xq1,xq2]at c3;unfold nptr at jy ⊢
 go_enter func211,ntmps211
 go_wp2_with fail
 refine jy.mono ?_
 rintro e w1 (⟨a7,rfl,hB⟩|⟨i',v1,kG,rfl,eH,eu,db⟩)
 ·exact absurd dM a7
 ·have mB:i'=i:=(List.getElem?_inj (xr0.1 kG).1 (List.nodup_append.1 h.nd).2.1).1 (kG.trans hi.symm);subst mB;have cD:=h.at_.keep eu fw;have f3:=cD.frozen 3;have k2:=cD.cell 2;have k3:=cD.cell 3;simp only[xq0,xq1,xq2]at k2 k3;have bT:Blk (w1.setCell (vA bt 3) v1) bt 102 #[r,lst,vw,v1]:=by have:=cD.set 3 v1;simpa using this
  have jz:(w1.setCell (vA bt 3) v1).ownsRow 0 95 1 vw ws.length (qay ws):=xrl (qab h.wrow eu (fun g hg e=>h.sep g hg e)) (fun e=>e_ e) _;have jn:(w1.setCell (vA bt 3) v1).ownsRow 0 95 1 v1 (as_.take i'++as_.drop (i'+1)).length (qay (as_.take i'++as_.drop (i'+1))):=xrl eH.row (fun e=>fw (by rw[<-db];exact e)) _;have iY:∀q∈ws++as_,Blk (w1.setCell (vA bt 3) v1) q.blk 105 q.cells:=fun q hq=>((h.works q hq).keep eu (qag h.arow (h.works q hq) (by decide))).other _ _ (fun e=>by
   have h1:=h.works q hq;rw[show q.blk=bt from e]at h1
   have:=h1.symm.trans h.at_
   injection this with this;injection this with _ h2 _
   exact absurd h2 (by decide))
  have fp:Keep (BkT bt vw va) w (w1.setCell (vA bt 3) v1):=(eu.mono (fun y e=>.inr (.inr e))).setCell (p:=vA bt 3) (.inl rfl) _;have cu:=qs6 (p:=p) bT jz (by omega);obtain⟨a1,c1,dv,de,gy⟩:=qbe jn;rw[show(w1.setCell (vA bt 3) v1).heap.size=w1.heap.size by simp]at cu;have aP:∀a n cap w',n=ws.length+1->w'.ownsRow 0 95 1 (.slice a n cap) n (qay (p::ws))->Blk w' bt 102 #[r,lst,vw,v1]->Keep (fun b=>vw.ownBlock=some b) (w1.setCell (vA bt 3) v1) w'->(∀b,(Value.slice a n cap).ownBlock=some b->vw.ownBlock=some b\/w1.heap.size<=b)->∃aQ aX,BkAt (w'.setCell (vA bt 2) (.slice a n cap)) bt r lst aQ aX (p::ws) (as_.take i'++as_.drop (i'+1))/\Keep (BkT bt vw va) w (w'.setCell (vA bt 2) (.slice a n cap))/\(∀b,aQ.ownBlock=some b\/aX.ownBlock=some b->vw.ownBlock=some b\/va.ownBlock=some b\/w.heap.size<=b):=by
   intro a n cap w' iQ au aZ oT ez;subst iQ;have bj:((p::ws)++(as_.take i'++as_.drop (i'+1))).Perm (ws++as_):=by
    have h1:=(qb0 hi).append_left ws
    refine List.Perm.trans ?_ h1.symm
    exact(List.perm_middle (a:=p) (l₁ := ws)).symm
   have ai:∀q,q∈(p::ws)++(as_.take i'++as_.drop (i'+1))->q∈ws++as_:=fun q hq=>bj.mem_iff.1 hq
   have fB:(Value.slice a (ws.length+1) cap).ownBlock≠some bt:=fun e=>by
    rcases ez _ e with e2|e2
    ·exact e_ e2
    ·have:=cD.lt;omega
   have vz:v1.ownBlock≠some bt:=by rw[db];exact fw
   have hz:(w1.setCell (vA bt 3) v1).heap.size=w1.heap.size:=by simp
   refine⟨.slice a (ws.length+1) cap,v1,⟨?_,?_,?_,?_,?_,?_,?_,?_⟩,?_,?_⟩
   ·have:=aZ.set 2 (.slice a (ws.length+1) cap)
    simpa using this
   ·exact xrl au fB _
   ·exact xrl (qab jn oT (fun g hg e=>h.sep g e (by rw[<-db];exact hg))) (fun e=>vz e) _
   ·intro q hq;have h1:=iY q (ai q hq)
    exact(h1.keep oT (qag jz h1 (by decide))).other _ _ (fun e=>by
     have h2:=iY q (ai q hq);rw[show q.blk=bt from e]at h2
     have:=h2.symm.trans bT
     injection this with this;injection this with _ h3 _
     exact absurd h3 (by decide))
   ·intro b aa e
    rcases ez _ aa with e2|e2
    ·exact h.sep _ e2 (by rw[<-db];exact e)
    ·have:=qal jn e;omega
   ·exact bj.nodup_iff.2 h.nd
   ·exact fun a ha b hb e=>h.inj a (ai a ha) b (ai b hb) e
   ·have:=bj.length_eq
    simp only[List.length_append]at this ⊢
    omega
   ·exact((fp.qbo oT (fun b _ e=>.inr (.inl e)))).setCell (p:=vA bt 2) (.inl rfl) _
   ·rintro b (e|e)
    ·rcases ez _ e with e2|e2
     ·exact .inl e2
     ·exact .inr (.inr (Nat.le_trans eu.size e2))
    ·exact .inr (.inl (by rw[<-db];exact e))
  clear h eH jn iY fp;generalize qay (p::ws)=pp at cu aP;have zA:∃n1,v1=.slice a1 n1 c1:=⟨_,dv⟩;clear dv de gy;obtain⟨n1,rfl⟩:=zA;clear jy;unfold nptr at cu
  go_wp2_with fail
  refine cu.mono ?_
  rintro e w2 ⟨a2,n2,q2,rfl,da,R2,af,bM,DB⟩
  have f2:=af.frozen 2;have gJ:=af.cell 2;simp only[xq0,xq1,xq2]at gJ;have hp:=aP _ _ _ _ da R2 af bM DB;clear aP da
  go_wp2_with fail
  go_end0
  exact⟨rfl,hp⟩
def qc3 (l:List Pw)(num:Int):Option Pw:=l.find? fun p=>p.x.num == num
def optP:Option Pw->Value
 |none=>.pointer none
 |some p=>nptr p.blk
theorem qt4{k:Nat}{q:Pw}(hk:l[k]?=some q)(hq:(q.x.num == num)=true)(a7:∀j y,j<k->l[j]?=some y->(y.x.num == num)=false):qc3 l num=some q:=by
 unfold qc3;rw[List.find?_eq_some_iff_getElem];obtain⟨ak,he⟩:=xr0.1 hk
 refine⟨hq,k,ak,he,fun j hj=>?_⟩
 simpa using a7 j _ hj (xr1 (by omega))
theorem qpg(a7:∀j y,j<l.length->l[j]?=some y->(y.x.num == num)=false):qc3 l num=none:=by
 unfold qc3;rw[List.find?_eq_none];intro y hy;obtain⟨j,hj⟩:=xre hy
 have:=a7 j y (xr0.1 hj).1 hj
 simpa using this
theorem qjq(h:WRow w v l)(hl:l.length<=100)(num:Int):
  Cl 77 #[v,vI num] w fun e w'=>e=.returned (optP (qc3 l num))/\w'=w:=by
 obtain⟨a0,dA,hv,dV,jf⟩:=h.form;have bh:=fun i q (hi:l[i]?=some q)=>h.at_ hi
 have fL:=fun q (hq:q∈l)=>(h.works q hq).cell 0
 obtain⟨n,hn⟩:∃n,n=l.length:=⟨_,rfl⟩;rw[<-hn]at hv bh hl dV;have HN:Hid (n=l.length):=hn;clear hn;subst hv
 go_enter func77,ntmps77
 go_wp2
 go_loop [9] (fun i=>∃k:Nat,k<=n/\i=vI k/\∀j q,j<k->l[j]?=some q->(q.x.num == num)=false) (fun i=>n-(intOf i).toNat)
 case atStart=>exact⟨0,Nat.zero_le _,rfl,fun j q hj=>by omega⟩
 case round =>
  obtain⟨k,hk,rfl,a7⟩:=hrel;have kL:Hid (∀j q,j<k->l[j]?=some q->(q.x.num == num)=false):=a7;clear a7
  by_cases ak:k<n
  ·obtain⟨q,hq⟩:∃q,l[k]?=some q:=⟨_,xr1 (by rw[<-HN.out];exact ak)⟩;obtain⟨g,cap,he,ct,de,jc,hc⟩:=bh k q hq;injection he with e1 _ e3;subst e1 e3;have lV:=xr2 hq;have hw:=fL q lV;unfold Pw.cells at hw;simp only[List.getElem?_toArray,List.getElem?_cons_zero]at hw;have HQ:Hid (l[k]?=some q):=hq;have nr:(k:Int)<n:=by omega
   have f_:(0:Int)<=k:=by omega
   unfold nptr at hc;clear hq bh fL
   by_cases nh:q.x.num=num
   ·have HF:Hid (qc3 l num=some q):=qt4 HQ.out (by simp[nh]) kL.out
    go_wp2
    go_ret
    exact⟨by rw[HF.out];rfl,rfl⟩
   ·have HB:Hid ((q.x.num == num)=false):=by simp[Hid,nh]
    go_wp2
    go_round
    case rel =>
     refine⟨k+1,by omega,by go_num,fun j y hj hy=>?_⟩
     rcases Nat.lt_or_ge j k with h1|h1
     ·exact kL.out j y h1 hy
     ·obtain rfl:j=k:=by omega
      rw[HQ.out]at hy;cases hy
      exact HB.out
    case measure=>simp[intOf];omega
  ·have HF:Hid (qc3 l num=none):=qpg (fun j y hj hy=>kL.out j y (by have:=HN.out;omega) hy)
   go_wp2
   go_ret
   exact⟨by rw[HF.out];rfl,rfl⟩
theorem qgv{x:Pw}:(binOp .neq 95 (vP x.blk) (.pointer none)).run prog W=.ok (.bool true) W:=by
 kernel_rfl
theorem qd8:(binOp .neq 95 (.pointer none) (.pointer none)).run prog W=.ok (.bool false) W:=by
 kernel_rfl
def findBk(ws as_:List Pw)(num:Int):Value×Bool :=
 match qc3 as_ num with
 |some p=>(nptr p.blk,true)
 |none=>(optP (qc3 ws num),false)
theorem qf5{r lst:Value}(h:BkAt w bt r lst vw va ws as_)(num:Int):
  Cl 46 #[.pointer (some (vA bt 1)),vI num] w fun e w'=>e=.returned (.tuple #[(findBk ws as_ num).1,.bool (findBk ws as_ num).2])/\w'=w:=by
 have an:=h.len;have ha:=qjq ⟨h.arow,fun q hq=>h.works q (xra _ hq)⟩ (by omega) num;have hw:=qjq ⟨h.wrow,fun q hq=>h.works q (xr9 _ hq)⟩ (by omega) num;have c2:=h.at_.cell 2;have c3:=h.at_.cell 3;simp only[xq0,xq1,xq2]at c2 c3;have cQ:=fun W x=>qgv (W:=W) (x:=x)
 have iQ:=fun W=>qd8 (W:=W)
 unfold findBk
 go_enter func46,ntmps46
 cases hf:qc3 as_ num with
 |some p =>
  rw[hf]at ha;simp only[optP,nptr]at ha ⊢;clear hf hw
  go_wp2_with fail
  refine ha.mono ?_
  rintro e w1 ⟨rfl,rfl⟩
  go_wp2_with fail
  exact xrn (v:=.tuple #[vP p.blk,.bool true]) (by simp[results,results46,go_sem]) rfl ⟨rfl,rfl⟩
 |none =>
  rw[hf]at ha;simp only[optP]at ha
  simp only
  generalize optP (qc3 ws num)=o at hw ⊢;clear hf
  go_wp2_with fail
  refine ha.mono ?_
  rintro e w1 ⟨rfl,rfl⟩
  go_wp2_with fail
  refine hw.mono ?_
  rintro e w2 ⟨rfl,rfl⟩
  go_wp2_with fail
  exact xrn (v:=.tuple #[o,.bool false]) (by simp[results,results46,go_sem]) rfl ⟨rfl,rfl⟩
theorem qpp{r lst:Value}(h:BkAt w bt r lst vw va ws as_):
  Cl 148 #[.pointer (some (vA bt 1))] w fun e w'=>e=.returned (vI (ws.length+as_.length:Nat))/\∃m,w'=w.drewN m:=by
 have an:=h.len;obtain⟨a1,q1,h1,l1,x1⟩:=qbe h.wrow;obtain⟨a2,q2,h2,l2,x2⟩:=qbe h.arow;have c2:=h.at_.cell 2;have c3:=h.at_.cell 3;simp only[xq0,xq1,xq2]at c2 c3;rw[h1]at c2;rw[h2]at c3;clear h1 h2 h;generalize ws.length=n1 at *;generalize as_.length=n2 at *
 go_enter func148,ntmps148
 go_wp2_with fail
 go_quiet (fail)
 go_wp2_with fail
 go_ret
 exact⟨by simp,_,rfl⟩
end Go.Proofs.YtphclnolomgjoaaGreatDoor
