import Derived.Test.YtphclnolomgjoaaGreatDoorG10
set_option linter.unusedVariables false
set_option linter.unusedSimpArgs false
set_option maxRecDepth 100000
set_option maxHeartbeats 4000000
namespace Go.Proofs.YtphclnolomgjoaaGreatDoor
open Tryz
open Go.RowKit
variable {bt i:Nat}{W w:World}{e:TypeId}{ai v va vw:Value}{xs:List Value}{as_ l ws:List Pw}{p:Pw}{num:Int}
theorem qpe:(prog.info? 95).map (fun i=>(i.zero,i.size,i.bytes))=some (some (.pointer none),1,8):=by kernel_rfl
theorem qin:(prog.info? 95).map (·.size)=some 1:=by kernel_rfl
theorem qmr(sl:Value)(n vb:Nat)(xs:List Value)(v:Value)(w:World)(hn:n<=1000)(cQ:v.oneCell'=true)(aF:w.ownsRow 0 95 1 sl n xs)(cT:Blk w vb 95 #[v]):
  Calls prog 232 #[sl,.int .i64 n,.slice (some ⟨vb,0,none⟩) 1 1] w fun e w' =>
   ∃dh,e=.returned dh/\w'.ownsRow 0 95 1 dh (n+1) (xs++[v])/\w.grownBy w' sl.ownBlock/\(dh.ownBlock=sl.ownBlock\/∃g,dh.ownBlock=some g/\w.heap.size<=g):=by
 obtain⟨i0,hi,fK,dv,fm⟩:=info_parts qpe;have jg:=cT.cell 0;simp only[List.getElem?_toArray,List.getElem?_cons_zero]at jg;have cX:∀j u,[v][j]?=some u->w.cell? ((⟨vb,0,none⟩:Addr).add j)=some u:=fun j u hj=>by
  cases j with
  |zero=>simp at hj;subst hj;exact jg
  |succ j=>simp at hj
 have key:∃v' w',(∀ty,(Builtin.append_ #[98,98] ty #[sl,.slice (some ⟨vb,0,none⟩) 1 1]).run prog w=.ok v' w')/\w'.ownsRow 0 95 1 v' (n+1) (xs++[v])/\w.grownBy w' sl.ownBlock/\(v'.ownBlock=sl.ownBlock\/∃g,v'.ownBlock=some g/\w.heap.size<=g):=by
  have ck:∀ {v':Value} {w':World},w'.ownsRow w.heap.size 95 1 v' (n+1) (xs++[v])->w'.ownsRow 0 95 1 v' (n+1) (xs++[v])/\∃g,v'.ownBlock=some g/\w.heap.size<=g:=fun {v' w'} h=>by
   obtain⟨h1,h2⟩:=h
   rcases h2 with ⟨_,h0⟩|⟨g,cap,aG,rfl,hb,rest⟩
   ·omega
   ·exact⟨⟨h1,.inr ⟨g,cap,aG,rfl,Nat.zero_le _,rest⟩⟩,g,rfl,hb⟩
  rcases aF.2 with ⟨rfl,rfl⟩|⟨g,cap,aG,rfl,_,hg,lg,iU,cu,ht⟩
  ·have hx:xs=[]:=List.eq_nil_of_length_eq_zero (by simpa using aF.1);subst hx;obtain⟨v',w',hr,ho,dj,_⟩:=run_append_own (P:=prog) w w.heap.size 98 0 95 i0 _ 1 8 underlying98 hi fK dv fm rfl (by decide) (.slice none 0 0) 0 [] (xrk w _ 95 1) ⟨vb,0,none⟩ 1 1 [v] rfl cX (by simp[cQ]) (by unfold maxLen;omega) (by omega) (Nat.le_refl _);have gP:=ck (by simpa using ho)
   exact⟨v',w',fun ty=>hr,gP.1,dj,.inr gP.2⟩
  ·by_cases bo:n+1<=cap
   ·have hr:=fun ty=>run_append_room (P:=prog) w 98 ty 95 i0 underlying98 hi g n cap aG hg ⟨vb,0,none⟩ 1 1 [v] (by rw[dv];rfl) cX (by simp[cQ]) bo (by rw[dv];simp;omega)
    rw[dv]at hr;simp only[Nat.mul_one]at hr ht cu
    refine⟨_,_,hr,⟨by simp[aF.1],.inr ⟨g,cap,_,rfl,Nat.zero_le _,setRow_heap w g aG _ 95 _ hg,bo,iU,?_,?_⟩⟩,⟨rfl,rfl,rfl,by simp,fun k _ hk=>setRow_other w g k _ (fun e=>hk (by simp[Value.ownBlock,e]))⟩,.inl rfl⟩
    ·simp[cu];omega
    ·have:xs.length=n:=by simpa using aF.1
     rw[Nat.mul_one,List.toList_toArray,ht,List.take_append_of_le_length (by simp;omega),xrd (by simp;omega)]
   ·obtain⟨v',w',hr,ho,dj⟩:=run_append_arg_grows (P:=prog) w 98 0 95 i0 _ 1 8 underlying98 hi fK dv fm rfl (by decide) ⟨g,0,none⟩ n cap xs aF.1 (aF.cells (g:=g) rfl) ⟨vb,0,none⟩ 1 1 [v] rfl cX (by omega) (by unfold maxLen;omega) (by omega);have gP:=ck ho
    exact⟨v',w',fun ty=>hr,gP.1,⟨dj.os,dj.tape,dj.output,dj.size,fun k hk _=>dj.block k hk (by simp)⟩,.inr gP.2⟩
 obtain⟨v',w',l8,ho,dj,gQ⟩:=key;obtain⟨ao,cap,de,dk⟩:∃ao cap,sl=.slice ao n cap/\n<=cap/\cap<=maxLen:=by
  rcases aF.2 with ⟨rfl,rfl⟩|⟨g,cap,aG,rfl,_,_,h1,h2,_⟩
  ·exact⟨none,0,rfl,Nat.le_refl _,Nat.zero_le _⟩
  ·exact⟨_,_,rfl,h1,h2⟩
 obtain⟨dk,eY⟩:=dk;unfold maxLen at eY;subst de;have oY:ao=none->n=0/\cap=0:=fun e=>by
  subst e
  rcases aF.2 with ⟨h,rfl⟩|⟨g,av,aG,h,_⟩
  ·injection h with _ _ h3;exact⟨rfl,h3⟩
  ·cases h
 clear aF cX
 go_enter func232,ntmps232
 cases ao with
 |none =>
  obtain⟨rfl,rfl⟩:=oY rfl
  go_wp2_with (at_builtin;refine Lib.wpList_append_run _ rfl _ _ _ _ rfl _ _ rfl rfl _ _ (l8 _) ?_)
  all_goals (go_ret;exact⟨_,rfl,ho,dj,gQ⟩)
 |some a =>
  go_wp2_with (at_builtin;refine Lib.wpList_append_run _ rfl _ _ _ _ rfl _ _ rfl rfl _ _ (l8 _) ?_)
  all_goals (go_ret;exact⟨_,rfl,ho,dj,gQ⟩)
theorem qjv(g n c i vb:Nat)(aG:Array Value)(v:Value)(w:World)(hi:i<n)(bo:n+1<=c)(hc:c<=maxLen)(hg:w.heap[g]?=some (.cells aG 95 (0,0)))(cu:aG.size=c)
  (cQ:v.oneCell'=true) (h1:∀u∈aG.toList.take n,u.oneCell'=true) (cT:Blk w vb 95 #[v]) (aW:vb≠g) :
  Calls prog 232 #[.slice (some ⟨g,0,none⟩) n c,.int .i64 i,.slice (some ⟨vb,0,none⟩) 1 1] w fun e w' =>
   e=.returned (.slice (some ⟨g,0,none⟩) (n+1) c)/\(∃R:Array Value,w'.heap[g]?=some (.cells R 95 (0,0))/\R.size=c/\R.toList.take (n+1)=(aG.toList.take n).take i++v::(aG.toList.take n).drop i)/\Keep (fun b=>b=g) w w':=by
 unfold maxLen at hc;have fm:¬((i:Int)=(n:Int)):=by omega
 have fl:w.shape? vb=some (95,1):=by unfold World.shape?;rw[show w.heap[vb]?=_ from cT];rfl
 have pv:w.shape? g=some (95,c):=by unfold World.shape?;rw[hg];simp[cu]
 have mf:∀lb cb,(callFunc 241 #[.slice (some ⟨vb,0,none⟩) 1 1,.slice (some ⟨g,i+1,none⟩) lb cb]).run prog w=.ok (.value (.bool false)) w:=fun lb cb=>by
  rw[run_callFunc_extern func241 (by kernel_rfl) (by kernel_rfl) (by kernel_rfl) (e:=Extern.SlicesOverlaps.overlaps #[98,98] #[4]) (by kernel_rfl),
   Lib.run_overlaps_apart w 98 4 95 underlying98 1 sizeOf97 ⟨vb,0,none⟩ ⟨g,i+1,none⟩ 1 1 lb cb aW 95 95 1 c fl pv (by omega) (cT.frozen 0) (cT.frozen 1)]
  rfl
 have cell:∀j u,aG[j]?=some u->w.cell? ⟨g,j,none⟩=some u:=fun j u h=>by unfold World.cell?;simp only[hg];simpa using h
 obtain⟨cs,cD⟩:∃cs,cs=(aG.toList.take n).drop i:=⟨_,rfl⟩;have bj:cs.length=n-i:=by rw[cD];simp;omega
 have cM:∀ty dc sc,(Builtin.copy_ #[98,98] ty #[.slice (some ⟨g,i+1,none⟩) (n-i) dc,.slice (some ⟨g,i,none⟩) (n+1-i) sc]).run prog w.drew=.ok (goInt cs.length) (w.drew.setRow g (aG.toList.take (i+1)++cs++aG.toList.drop (i+1+cs.length)).toArray):=fun ty dc sc =>
  run_copy_row prog w.drew 98 98 ty 95 g (i+1) (n-i) dc ⟨g,i,none⟩ (n+1-i) sc aG 95 cs underlying98 qin hg (by rw[bj];simp only[Nat.min_def];split<;>omega)
   (fun j u hj=>by
    rw[Addr.add_lit]
    refine cell _ _ ?_
    rw[cD,List.getElem?_drop,List.getElem?_take]at hj
    split at hj
    ·simpa using hj
    ·cases hj) (by rw[bj,cu];omega) (fun u hu=>h1 u (by rw[cD]at hu;exact List.mem_of_mem_drop hu))
 obtain⟨R1,eI⟩:∃R1,R1=(aG.toList.take (i+1)++cs++aG.toList.drop (i+1+cs.length)).toArray:=⟨_,rfl⟩;rw[<-eI]at cM;have kC:R1.size=c:=by rw[eI];simp[bj,cu];omega
 have mQ:(w.drew.setRow g R1).heap[g]?=some (.cells R1 95 (0,0)):=setRow_heap w.drew g aG R1 95 (0,0) hg;have jg:w.cell? ⟨vb,0,none⟩=some v:=by have:=cT.cell 0;simpa using this
 have dy:∀(W:World),W.heap[g]?=some (.cells R1 95 (0,0))->W.cell? ⟨vb,0,none⟩=some v->∀ty dc,(Builtin.copy_ #[98,98] ty #[.slice (some ⟨g,i,none⟩) (n+1-i) dc,.slice (some ⟨vb,0,none⟩) 1 1]).run prog W=.ok (goInt 1) (W.setRow g (R1.toList.take i++[v]++R1.toList.drop (i+1)).toArray):=fun W kF ot ty dc =>
  run_copy_row prog W 98 98 ty 95 g i (n+1-i) dc ⟨vb,0,none⟩ 1 1 R1 95 [v] underlying98 qin kF (by simp only[Nat.min_def,List.length_singleton];split<;>omega)
   (fun j u hj=>by cases j with|zero=>(simp at hj;subst hj;exact ot)|succ j=>simp at hj) (by rw[kC];simp;omega) (by simp[cQ])
 have hE:∀j u,w.cell? ⟨vb,j,none⟩=some u->(w.drew.setRow g R1).cell? ⟨vb,j,none⟩=some u:=fun j u h=>by rw[cell_setRow_other _ _ _ _ aW];exact h
 have cg:IntKind.i64.wrap ((i:Int)+1)=(i:Int)+1:=by rw[IntKind.wrap_i64];omega
 have bL:i<=n:=by omega
 have p_:((i:Int)+1).toNat=i+1:=by omega
 have aa:(0:Int)<=(i:Int)+1:=by omega
 have ag:¬(c=i+1):=by omega
 have aM:(i:Int)<=(n:Int)+1:=by omega
 have bm:¬(c=i):=by omega
 have uo:Hid (cs=(aG.toList.take n).drop i):=cD;have u7:Hid (R1=(aG.toList.take (i+1)++cs++aG.toList.drop (i+1+cs.length)).toArray):=eI;have lO:Hid (cs.length=n-i):=bj;clear cD eI bj
 go_enter func232,ntmps232
 go_wp2_with (simp only[mf])
 go_region_law (refine qib rfl _ _ 98 98 rfl _ _ (by simp[Act.eval,Act.put]) (by simp[Act.eval,Act.put]) (cM _ _ _) ?_)
 go_wp2_with (at_builtin;refine qf8 _ rfl _ _ 98 98 rfl _ _ rfl rfl (dy _ mQ (hE _ _ jg) _ _) ?_)
 go_ret
 refine⟨rfl,⟨(R1.toList.take i++v::R1.toList.drop (i+1)).toArray,setRow_heap _ g R1 _ 95 (0,0) mQ,by simp[kC];omega,?_⟩,?_⟩
 ·have e1:R1.toList=aG.toList.take (i+1)++cs++aG.toList.drop (n+1):=by rw[u7.out,lO.out,show i+1+(n-i)=n+1 by omega]
  have e2:R1.toList.take i=aG.toList.take i:=by rw[e1,List.append_assoc,List.take_append_of_le_length (by simp;omega),List.take_take,Nat.min_eq_left (by omega)]
  have e3:R1.toList.drop (i+1)=cs++aG.toList.drop (n+1):=by rw[e1,List.append_assoc,List.drop_append_of_le_length (by simp;omega),List.drop_of_length_le (by simp;omega)];rfl
  have e4:(aG.toList.take n).take i=aG.toList.take i:=by rw[List.take_take,Nat.min_eq_left (by omega)]
  rw[List.toList_toArray,e2,e3,e4,<- uo.out];have ay:(aG.toList.take i).length=i:=by simp;omega
  rw[show aG.toList.take i++v::(cs++aG.toList.drop (n+1))=(aG.toList.take i++v::cs)++aG.toList.drop (n+1) by simp];rw[List.take_append_of_le_length (by simp[ay,lO.out];omega),xrd (by simp[ay,lO.out];omega)]
 ·exact⟨rfl,rfl,rfl,by simp,fun k hk hn=>by rw[setRow_other _ _ _ _ hn,setRow_other _ _ _ _ hn];rfl⟩
theorem qlf(g n c i vb:Nat)(aG:Array Value)(v:Value)(w:World)(hi:i<n)(dF:n<=1000)(lg:n<=c)(bo:c<n+1)(hg:w.heap[g]?=some (.cells aG 95 (0,0)))(cu:aG.size=c)
  (cQ:v.oneCell'=true) (h1:∀u∈aG.toList.take n,u.oneCell'=true) (cT:Blk w vb 95 #[v]) :
  Calls prog 232 #[.slice (some ⟨g,0,none⟩) n c,.int .i64 i,.slice (some ⟨vb,0,none⟩) 1 1] w fun e w' =>
   ∃G,n+1<=G/\G<=maxLen/\e=.returned (.slice (some ⟨w.heap.size,0,none⟩) (n+1) G)/\(∃R:Array Value,w'.heap[w.heap.size]?=some (.cells R 95 (0,0))/\R.size=G/\R.toList.take (n+1)=(aG.toList.take n).take i++v::(aG.toList.take n).drop i)/\Below w.heap.size w w':=by
 obtain⟨i0,mS,fK,qe,sJ⟩:=info_parts qpe;obtain⟨xs,jV⟩:∃xs,xs=aG.toList.take n:=⟨_,rfl⟩;rw[<-jV]at h1;have jj:xs.length=n:=by rw[jV];simp;omega
 have fm:¬((i:Int)=(n:Int)):=by omega
 have lL:(c:Int)<(n:Int)+1:=by omega
 have pP:g<w.heap.size:=(xrc.1 hg).1;have cO:vb<w.heap.size:=cT.lt;have cell:∀j u,xs[j]?=some u->w.cell? ⟨g,j,none⟩=some u:=fun j u h=>by
  unfold World.cell?;simp only[hg];rw[jV,List.getElem?_take]at h
  split at h
  ·simpa using h
  ·cases h
 have jg:w.cell? ⟨vb,0,none⟩=some v:=by have:=cT.cell 0;simpa using this
 have kX:(n:Int)+1-(i:Int)=((n+1-i:Nat):Int):=by omega
 have oN:i+(n+1-i)=n+1:=by omega
 have fC:(Builtin.firstCells i0.size i (.slice (some ⟨g,0,none⟩) i c)).run prog w.drew=.ok (xs.take i).toArray w.drew:=by
  rw[qe]
  exact run_firstCells_some w.drew 1 i ⟨g,0,none⟩ i c (xs.take i) (by rw[List.length_take];omega) (fun j u hj=>by
   rw[Addr.add_lit,Nat.zero_add];rw[List.getElem?_take]at hj
   split at hj
   ·exact cell j u hj
   ·cases hj)
 obtain⟨G,hG⟩:∃G,G=grownCap w (n+1) c 95:=⟨_,rfl⟩;obtain⟨dI,gA⟩:∃dI:Array Value,dI=(xs.take i).toArray++Builtin.zeroCells (Value.pointer none).cells (n+1-i)++Builtin.zeroCells (Value.pointer none).cells (G-(n+1)):=⟨_,rfl⟩;have sg:∀ty,(Builtin.append_ #[98,3] ty #[.slice (some ⟨g,0,none⟩) i c,.int .i64 ((n:Int)+1-(i:Int))]).run prog w =
   .ok (.slice (some ⟨w.heap.size,0,none⟩) (n+1) G) (w.drew.alloc (.cells dI 95)):=fun ty=>by
  have h:=Lib.run_append_grow_zeros w 98 3 ty 95 i0 _ .i64 .i64 underlying98 underlying3 mS fK (some ⟨g,0,none⟩) i c (xs.take i) fC (n+1-i) (by omega) (by omega) (by omega) (by omega) (by rw[sJ];omega) (by rw[sJ,oN];exact growslice_fits bo (by omega));rw[oN,<- hG,<- gA]at h;rw[kX]
  exact h
 have uY:n+1<=G:=by rw[hG];exact grownCap_ge w _ _ _
 have ky:G<=maxLen:=by rw[hG];exact grownCap_le_maxLen w (n+1) c 95 (by unfold maxLen;omega)
 have oj:dI.size=G:=by
  rw[gA];simp[Builtin.zeroCells,Value.cells];omega
 have j8:dI.toList.take i=xs.take i:=by
  rw[gA];simp only[Array.toList_append,List.append_assoc,List.toList_toArray];rw[List.take_append_of_le_length (by simp;omega),xrd (by simp;omega)]
 obtain⟨W1,dp⟩:∃W1,W1=w.drew.alloc (.cells dI 95):=⟨_,rfl⟩;rw[<-dp]at sg;have xj:W1.heap.size=w.heap.size+1:=by rw[dp];simp
 have hN:W1.heap[w.heap.size]?=some (.cells dI 95 (0,0)):=by rw[dp];exact heap_alloc_new w.drew _
 have gx:∀k,k<w.heap.size->W1.heap[k]?=w.heap[k]?:=fun k hk=>by rw[dp];exact Below.heap_alloc w.drew _ k hk
 have kK:Below w.heap.size w W1:=by rw[dp];exact(Below.refl _ w).drew.alloc (Nat.le_refl _) _
 have cM:∀(W:World),W.heap[w.heap.size]?=some (.cells dI 95 (0,0))->W.cell? ⟨vb,0,none⟩=some v->∀ty dc,(Builtin.copy_ #[98,98] ty #[.slice (some ⟨w.heap.size,i,none⟩) (n+1-i) dc,.slice (some ⟨vb,0,none⟩) 1 1]).run prog W=.ok (goInt 1) (W.setRow w.heap.size (dI.toList.take i++[v]++dI.toList.drop (i+1)).toArray):=fun W kF ot ty dc =>
  run_copy_row prog W 98 98 ty 95 w.heap.size i (n+1-i) dc ⟨vb,0,none⟩ 1 1 dI 95 [v] underlying98 qin kF (by simp only[Nat.min_def,List.length_singleton];split<;>omega)
   (fun j u hj=>by cases j with|zero=>(simp at hj;subst hj;exact ot)|succ j=>simp at hj) (by rw[oj];simp;omega) (by simp[cQ])
 obtain⟨R2,cU⟩:∃R2,R2=(dI.toList.take i++[v]++dI.toList.drop (i+1)).toArray:=⟨_,rfl⟩;rw[<-cU]at cM;have iR:R2.size=G:=by rw[cU];simp[oj];omega
 obtain⟨W2,dq⟩:∃W2,W2=W1.setRow w.heap.size R2:=⟨_,rfl⟩;obtain⟨cs,cD⟩:∃cs,cs=xs.drop i:=⟨_,rfl⟩;have bj:cs.length=n-i:=by rw[cD];simp;omega
 have dy:∀(W:World),W.heap[w.heap.size]?=some (.cells R2 95 (0,0))->(∀j,W.cell? ⟨g,j,none⟩=w.cell? ⟨g,j,none⟩)->∀ty dc sc,(Builtin.copy_ #[98,98] ty #[.slice (some ⟨w.heap.size,i+1,none⟩) (n-i) dc,.slice (some ⟨g,i,none⟩) (n-i) sc]).run prog W=.ok (goInt cs.length) (W.setRow w.heap.size (R2.toList.take (i+1)++cs++R2.toList.drop (i+1+cs.length)).toArray):=fun W kF vz ty dc sc =>
  run_copy_row prog W 98 98 ty 95 w.heap.size (i+1) (n-i) dc ⟨g,i,none⟩ (n-i) sc R2 95 cs underlying98 qin kF (by rw[bj];simp)
   (fun j u hj=>by
    rw[Addr.add_lit,vz];rw[cD,List.getElem?_drop]at hj
    exact cell _ _ hj) (by rw[bj,iR];omega) (fun u hu=>h1 u (by rw[cD]at hu;exact List.mem_of_mem_drop hu))
 obtain⟨R3,kD⟩:∃R3,R3=(R2.toList.take (i+1)++cs++R2.toList.drop (i+1+cs.length)).toArray:=⟨_,rfl⟩;rw[<-kD]at dy;have eO:(W1.setRow w.heap.size R2).heap[w.heap.size]?=some (.cells R2 95 (0,0)):=setRow_heap W1 _ dI R2 95 (0,0) hN;have qX:∀j,W1.cell? ⟨g,j,none⟩=w.cell? ⟨g,j,none⟩:=fun j=>World.cell?_of_block (gx g pP)
 have oB:∀j,(W1.setRow w.heap.size R2).cell? ⟨g,j,none⟩=w.cell? ⟨g,j,none⟩:=fun j=>by rw[cell_setRow_other _ _ _ _ (by simp;omega)];exact qX j
 have vU:W1.cell? ⟨vb,0,none⟩=some v:=(World.cell?_of_block (gx vb cO)).trans jg;have aI:R3.size=G/\R3.toList.take (n+1)=xs.take i++v::xs.drop i:=by
  refine⟨by rw[kD];simp[bj,iR];omega,?_⟩
  have ei:(xs.take i).length=i:=by simp;omega
  have e1:R2.toList=xs.take i++v::dI.toList.drop (i+1):=by rw[cU,j8];simp
  have e2:R2.toList.take (i+1)=xs.take i++[v]:=by
   rw[e1,List.take_append,ei,show i+1-i=1 by omega,xrd (by omega)];simp
  rw[kD,List.toList_toArray,e2,cD];rw[show xs.take i++[v]++xs.drop i=xs.take i++v::xs.drop i by simp];rw[List.take_append_of_le_length (by simp;omega),xrd (by simp;omega)]
 have eY:=ky;unfold maxLen at eY;have AV:¬(G=i):=by omega
 have uX:¬(G=i+1):=by omega
 have BE:¬(c=i):=by omega
 have cg:IntKind.i64.wrap ((i:Int)+1)=(i:Int)+1:=by rw[IntKind.wrap_i64];omega
 have aa:(0:Int)<=(i:Int)+1:=by omega
 have bL:i<=n:=by omega
 have p_:((i:Int)+1).toNat=i+1:=by omega
 have aM:(i:Int)<=(n:Int):=by omega
 have uC:Hid (xs=aG.toList.take n):=jV;have Aj:Hid (W1=w.drew.alloc (.cells dI 95)):=dp;have dW:Hid (R3.size=G/\R3.toList.take (n+1)=xs.take i++v::xs.drop i):=aI;have uz:Hid (∀k,k<w.heap.size->W1.heap[k]?=w.heap[k]?):=gx;have vR:=cM W1 hN vU;have vT:=dy (W1.setRow w.heap.size R2).drew eO oB;clear kX oN fC gA hG oj j8 cU kD dq cD bj jV jj iR dp aI qX gx h1 cell
 go_enter func232,ntmps232
 go_wp2_with (at_builtin;refine Lib.wpList_append_run _ rfl _ _ _ _ rfl _ _ rfl rfl _ _ (sg _) ?_)
 go_region
 go_wp2
 go_ret
 refine⟨G,uY,ky,rfl,⟨R3,setRow_heap (W1.setRow w.heap.size R2).drew _ R2 _ 95 (0,0) eO,dW.out.1,by rw[<-uC.out];exact dW.out.2⟩,?_⟩
 refine kK.trans ⟨rfl,rfl,rfl,by simp,fun k hk=>?_⟩
 rw[setRow_other _ _ _ _ (by omega)]
 exact setRow_other _ _ _ _ (by omega)
theorem qmq(sl:Value)(n i vb:Nat)(xs:List Value)(v:Value)(w:World)(hn:n<=1000)(hi:i<=n)(cQ:v.oneCell'=true)(h1:∀u∈xs,u.oneCell'=true)(aF:w.ownsRow 0 95 1 sl n xs)(cT:Blk w vb 95 #[v])(aW:sl.ownBlock≠some vb):
  Calls prog 232 #[sl,.int .i64 i,.slice (some ⟨vb,0,none⟩) 1 1] w fun e w' =>
   ∃dh,e=.returned dh/\w'.ownsRow 0 95 1 dh (n+1) (xs.take i++v::xs.drop i)/\Keep (fun b=>sl.ownBlock=some b) w w'/\(dh.ownBlock=sl.ownBlock\/∃g,dh.ownBlock=some g/\w.heap.size<=g):=by
 have jj:xs.length=n:=by have:=aF.1;omega
 rcases Nat.lt_or_ge i n with an|oL
 ·rcases aF.2 with ⟨rfl,rfl⟩|⟨g,cap,aG,rfl,_,hg,lg,iU,cu,ht⟩
  ·omega
  ·simp only[Nat.mul_one]at cu ht;have qy:∀u∈aG.toList.take n,u.oneCell'=true:=by rw[ht];exact h1
   by_cases bo:n+1<=cap
   ·refine(qjv g n cap i vb aG v w an bo iU hg cu cQ qy cT (fun e=>aW (by rw[e];rfl))).mono ?_
    rintro e w' ⟨rfl,⟨R,hR,vh,j8⟩,hk⟩
    refine⟨_,rfl,⟨by simp;omega,.inr ⟨g,cap,R,rfl,Nat.zero_le _,hR,bo,iU,by omega,by rw[Nat.mul_one,j8,ht]⟩⟩,hk.mono (fun b hb=>by rw[hb];rfl),.inl rfl⟩
   ·refine(qlf g n cap i vb aG v w an hn lg (by omega) hg cu cQ qy cT).mono ?_
    rintro e w' ⟨G,uU,uV,rfl,⟨R,hR,vh,j8⟩,hb⟩
    refine⟨_,rfl,⟨by simp;omega,.inr ⟨w.heap.size,G,R,rfl,Nat.zero_le _,hR,uU,uV,by omega,by rw[Nat.mul_one,j8,ht]⟩⟩,Keep.new hb,.inr ⟨w.heap.size,rfl,Nat.le_refl _⟩⟩
 ·obtain rfl:i=n:=by omega
  refine(qmr sl i vb xs v w hn cQ aF cT).mono ?_
  rintro e w' ⟨dh,rfl,eA,dj,gQ⟩
  refine⟨dh,rfl,?_,(Keep.refl _ _).grown dj (fun k h=>h),gQ⟩
  rw[xrd (by omega),List.drop_of_length_le (by omega)];exact eA
theorem qeo{α : Type}{l:List α}{x : α}(hi:l[i]?=some x):l=l.take i++x::l.drop (i+1):=by
 obtain⟨hl,rfl⟩:=xr0.1 hi
 simp
structure BkAt (W:World) (bt:Nat) (r ai vw va:Value) (ws as_:List Pw):Prop where
 at_:Blk W bt 102 #[r,ai,vw,va]
 wrow:W.ownsRow 0 95 1 vw ws.length (qa1 ws)
 arow:W.ownsRow 0 95 1 va as_.length (qa1 as_)
 works:∀p∈ws++as_,Blk W p.blk 105 p.cells
 sep:∀b,vw.ownBlock=some b->va.ownBlock≠some b
 nd:(ws++as_).Nodup
 inj:∀a∈ws++as_,∀b∈ws++as_,a.blk=b.blk->a=b
 len:ws.length+as_.length<=24
def BkT (bt:Nat)(vw va:Value)(y:Nat):Prop:=y=bt\/vw.ownBlock=some y\/va.ownBlock=some y
theorem qbl{α : Type}{l:List α}{x : α}(h:x∈l.take i++l.drop (i+1)):x∈l:=by
 rcases xri.1 h with h1|h1
 ·exact List.mem_of_mem_take h1
 ·exact List.mem_of_mem_drop h1
theorem qcf{α : Type}{l:List α}{x : α}(hi:l[i]?=some x):l.Perm (x::(l.take i++l.drop (i+1))):=by
 have h:=qeo hi
 conv=>lhs;rw[h]
 exact List.perm_middle
theorem qa7{size n:Nat}(h:W.ownsRow 0 e size v n xs):∃a cap,v=.slice a n cap/\n<=cap/\cap<=maxLen:=by
 rcases h.2 with ⟨rfl,h0⟩|⟨g,cap,aG,rfl,_,_,h1,h2,_⟩
 ·exact⟨none,0,by rw[h0],by omega,Nat.zero_le _⟩
 ·exact⟨_,cap,rfl,h1,h2⟩
theorem qr3{r:Value}(bG:Blk W bt 102 #[r,ai,vw,va])(yR:W.ownsRow 0 95 1 va as_.length (qa1 as_))(hl:as_.length<=100):
  ∃v' w',(∀ty,(Builtin.append_ #[98,98] ty #[va,.slice (some ⟨W.heap.size,0,none⟩) 1 1]).run prog (W.alloc (.cells #[nptr p.blk] 95))=.ok v' w')/\∃g cap,v'=.slice (some ⟨g,0,none⟩) (as_.length+1) cap/\as_.length+1<=cap/\cap<=maxLen/\w'.ownsRow 0 95 1 v' (as_.length+1) (qa1 (as_++[p]))/\Blk w' bt 102 #[r,ai,vw,va]/\Keep (fun b=>va.ownBlock=some b) W w'/\(va.ownBlock=some g\/W.heap.size<=g):=by
 have bh:Below W.heap.size W (W.alloc (.cells #[nptr p.blk] 95)):=by exact bel2
 have wJ:va.ownBlock≠some bt:=qag yR bG (by decide);have vc:Keep (fun b=>va.ownBlock=some b) W (W.alloc (.cells #[nptr p.blk] 95)):=Keep.new bh;obtain⟨v',w',hr,g,cap,rfl,R⟩:=qey un94 qxi (by omega) (W.alloc (.cells #[nptr p.blk] 95)) va as_.length (qa1 as_) (qae (T:=fun _=>False) yR (Keep.new bh) (fun _ _ e=>e)) W.heap.size 1 1 (by omega) [nptr p.blk] rfl (Blk.new W 95 _) (fun u hu=>by simp at hu;subst hu;rfl) (by unfold maxLen;omega) (by omega);have hp:qa1 (as_++[p])=qa1 as_++[nptr p.blk]:=by simp[qa1]
 refine⟨_,w',hr,g,cap,rfl,R.le,R.mx,by rw[hp];exact R.own,(bG.below bh bG.lt).keep R.keep wJ,vc.qbm R.keep (fun b _ e=>e),R.new.imp id (fun e=>by simp at e;omega)⟩
theorem qpy{r:Value}(h:BkAt w bt r ai vw va ws as_)(hi:ws[i]?=some p):
  Calls prog 213 #[.pointer (some ⟨bt,1,none⟩),nptr p.blk] w fun e w'=>e=.returned (.tuple #[])/\∃aH aO,BkAt w' bt r ai aH aO (ws.take i++ws.drop (i+1)) (as_++[p])/\Keep (BkT bt vw va) w w'/\(∀b,aH.ownBlock=some b\/aO.ownBlock=some b->vw.ownBlock=some b\/va.ownBlock=some b\/w.heap.size<=b):=by
 have cm:=xr2 hi;have ng:=h.works p (xr9 _ cm);have an:=h.at_.lt;have ay:=h.len;have lJ:ws.length<=100:=by omega
 have gh:=qc0 ⟨h.wrow,fun q hq=>h.works q (xr9 _ hq)⟩ lJ ng (fun a ha e=>h.inj a (xr9 _ ha) p (xr9 _ cm) e) (List.nodup_append.1 h.nd).1;have dG:vw.ownBlock≠some bt:=qag h.wrow h.at_ (by decide);have dK:va.ownBlock≠some bt:=qag h.arow h.at_ (by decide);have c2:=h.at_.cell 2;simp only[xq0,xq1,xq2]at c2;unfold nptr at gh ⊢
 go_enter func213,ntmps213
 go_wp2_with fail
 refine gh.mono ?_
 rintro e w1 (⟨aA,rfl,hB⟩|⟨i',v1,ez,rfl,dp,dA,bN⟩)
 ·exact absurd cm aA
 ·have mV:i'=i:=(List.getElem?_inj (xr0.1 ez).1 (List.nodup_append.1 h.nd).1).1 (ez.trans hi.symm);subst mV;have cK:=h.at_.keep dA dG;have f2:=cK.frozen 2;have k2:=cK.cell 2;have k3:=cK.cell 3;simp only[xq0,xq1,xq2]at k2 k3;have dw:Blk (w1.setCell ⟨bt,2,none⟩ v1) bt 102 #[r,ai,v1,va]:=by have:=cK.set 2 v1;simpa using this
  have fX:(w1.setCell ⟨bt,2,none⟩ v1).ownsRow 0 95 1 va as_.length (qa1 as_):=xrl (qae h.arow dA (fun g hg e=>h.sep g e hg)) (fun e=>dK e) _;have gi:(w1.setCell ⟨bt,2,none⟩ v1).ownsRow 0 95 1 v1 (ws.take i'++ws.drop (i'+1)).length (qa1 (ws.take i'++ws.drop (i'+1))):=xrl dp.row (fun e=>dG (by rw[<-bN];exact e)) _;have fJ:∀q∈ws++as_,Blk (w1.setCell ⟨bt,2,none⟩ v1) q.blk 105 q.cells:=fun q hq=>((h.works q hq).keep dA (qag h.wrow (h.works q hq) (by decide))).other _ _ (fun e=>by
   have h1:=h.works q hq;rw[show q.blk=bt from e]at h1
   have:=h1.symm.trans h.at_
   injection this with this;injection this with _ h2 _
   exact absurd h2 (by decide))
  have dJ:Keep (BkT bt vw va) w (w1.setCell ⟨bt,2,none⟩ v1):=(dA.mono (fun y e=>.inr (.inl e))).setCell (p:=⟨bt,2,none⟩) (.inl rfl) _;have cy:=qr3 (p:=p) dw fX (by omega);obtain⟨a1,c1,cQ,cL,eE⟩:=qa7 gi;rw[show(w1.setCell ⟨bt,2,none⟩ v1).heap.size=w1.heap.size by simp]at cy;have aJ:∀g' av w',w'.ownsRow 0 95 1 (.slice (some ⟨g',0,none⟩) (as_.length+1) av) (as_.length+1) (qa1 (as_++[p]))->Blk w' bt 102 #[r,ai,v1,va]->Keep (fun b=>va.ownBlock=some b) (w1.setCell ⟨bt,2,none⟩ v1) w'->(va.ownBlock=some g'\/w1.heap.size<=g')->∃aH aO,BkAt (w'.setCell ⟨bt,3,none⟩ (.slice (some ⟨g',0,none⟩) (as_.length+1) av)) bt r ai aH aO (ws.take i'++ws.drop (i'+1)) (as_++[p])/\Keep (BkT bt vw va) w (w'.setCell ⟨bt,3,none⟩ (.slice (some ⟨g',0,none⟩) (as_.length+1) av))/\(∀b,aH.ownBlock=some b\/aO.ownBlock=some b->vw.ownBlock=some b\/va.ownBlock=some b\/w.heap.size<=b):=by
   intro g' av w' aS bg mE dm;have aN:((ws.take i'++ws.drop (i'+1))++(as_++[p])).Perm (ws++as_):=by
    have h1:=(qcf hi).append_right as_
    refine List.Perm.trans ?_ h1.symm
    rw[<-List.append_assoc]
    exact List.perm_append_comm
   have af:∀q,q∈(ws.take i'++ws.drop (i'+1))++(as_++[p])->q∈ws++as_:=fun q hq=>aN.mem_iff.1 hq
   have bY:g'≠bt:=fun e=>by
    rcases dm with e2|e2
    ·rw[e]at e2;exact dK e2
    ·have:=cK.lt;omega
   have pB:v1.ownBlock≠some bt:=by rw[bN];exact dG
   have hz:(w1.setCell ⟨bt,2,none⟩ v1).heap.size=w1.heap.size:=by simp
   refine⟨v1,.slice (some ⟨g',0,none⟩) (as_.length+1) av,⟨?_,?_,?_,?_,?_,?_,?_,?_⟩,?_,?_⟩
   ·have:=bg.set 3 (.slice (some ⟨g',0,none⟩) (as_.length+1) av)
    simpa using this
   ·exact xrl (qae gi mE (fun g hg e=>h.sep g (by rw[<-bN];exact hg) e)) (fun e=>pB e) _
   ·rw[show(as_++[p]).length=as_.length+1 by simp]
    exact xrl aS (by simp[Value.ownBlock];exact bY) _
   ·intro q hq;have h1:=fJ q (af q hq)
    exact(h1.keep mE (qag fX h1 (by decide))).other _ _ (fun e=>by
     have h2:=fJ q (af q hq);rw[show q.blk=bt from e]at h2
     have:=h2.symm.trans dw
     injection this with this;injection this with _ h3 _
     exact absurd h3 (by decide))
   ·intro b aa e
    simp[Value.ownBlock]at e
    subst e
    rcases dm with e2|e2
    ·exact h.sep _ (by rw[<-bN];exact aa) e2
    ·have:=qar gi aa;omega
   ·exact aN.nodup_iff.2 h.nd
   ·exact fun a ha b hb e=>h.inj a (af a ha) b (af b hb) e
   ·have:=aN.length_eq
    simp only[List.length_append]at this ⊢
    omega
   ·exact((dJ.qbm mE (fun b _ e=>.inr (.inr e)))).setCell (p:=⟨bt,3,none⟩) (.inl rfl) _
   ·rintro b (e|e)
    ·left;rw[<-bN];exact e
    ·simp[Value.ownBlock]at e
     subst e
     rcases dm with e2|e2
     ·exact .inr (.inl e2)
     ·exact .inr (.inr (Nat.le_trans dA.size e2))
  clear h dp gi fJ dJ;generalize as_.length=na at cy aJ;generalize qa1 (as_++[p])=pp at cy aJ;have su:∃n1,v1=.slice a1 n1 c1:=⟨_,cQ⟩;clear cQ cL eE;obtain⟨n1,rfl⟩:=su;clear gh;unfold nptr at cy
  go_wp2_with (at_builtin;refine qbc (by rfl) _ _ _ _ rfl _ _ rfl (by rfl) cy ?_;rintro v2 w2 ⟨g2,q2,rfl,fZ,jc,R2,ag,aY,dQ⟩;have f3:=ag.frozen 3;have ft:=ag.cell 3;simp only[xq0,xq1,xq2]at ft)
  go_end0
  exact⟨rfl,aJ _ _ _ R2 ag aY dQ⟩
theorem qup{r:Value}(bG:Blk W bt 102 #[r,ai,vw,va])(sC:W.ownsRow 0 95 1 vw ws.length (qa1 ws))(hl:ws.length<=100):
  Calls prog 232 #[vw,.int .i64 0,.slice (some ⟨W.heap.size,0,none⟩) 1 1] (W.alloc (.cells #[nptr p.blk] 95)) fun e w'=>∃a n cap,e=.returned (.slice a n cap)/\n=ws.length+1/\w'.ownsRow 0 95 1 (.slice a n cap) n (qa1 (p::ws))/\Blk w' bt 102 #[r,ai,vw,va]/\Keep (fun b=>vw.ownBlock=some b) W w'/\(∀b,(Value.slice a n cap).ownBlock=some b->vw.ownBlock=some b\/W.heap.size<=b):=by
 have bh:Below W.heap.size W (W.alloc (.cells #[nptr p.blk] 95)):=by exact bel2
 have wJ:vw.ownBlock≠some bt:=qag sC bG (by decide);have vc:Keep (fun b=>vw.ownBlock=some b) W (W.alloc (.cells #[nptr p.blk] 95)):=Keep.new bh;have an:vw.ownBlock≠some W.heap.size:=fun e=>by have:=qar sC e;omega
 have h:=qmq vw ws.length 0 W.heap.size (qa1 ws) (nptr p.blk) (W.alloc (.cells #[nptr p.blk] 95)) (by omega) (Nat.zero_le _) rfl (fun u hu=>by unfold qa1 at hu;obtain⟨q,_,rfl⟩:=xrq.1 hu;rfl) (qae (T:=fun _=>False) sC (Keep.new bh) (fun _ _ e=>e)) (Blk.new W 95 _) an
 refine h.mono ?_
 rintro e w' ⟨dh,rfl,hr,hK,hn⟩
 obtain⟨a,cap,rfl,h1,h2⟩:=qa7 hr
 refine⟨a,_,cap,rfl,rfl,by simpa [qa1] using hr,(bG.below bh bG.lt).keep hK wJ,vc.qbm hK (fun b _ e=>e),fun b hb=>?_⟩
 rcases hn with e|⟨g,e,e2⟩
 ·left;rw[<-e];exact hb
 ·rw[hb]at e;injection e with e;subst e;simp at e2;right;omega
theorem qqa{r:Value}(h:BkAt w bt r ai vw va ws as_)(hi:as_[i]?=some p):
  Calls prog 211 #[.pointer (some ⟨bt,1,none⟩),nptr p.blk] w fun e w'=>e=.returned (.tuple #[])/\∃aH aO,BkAt w' bt r ai aH aO (p::ws) (as_.take i++as_.drop (i+1))/\Keep (BkT bt vw va) w w'/\(∀b,aH.ownBlock=some b\/aO.ownBlock=some b->vw.ownBlock=some b\/va.ownBlock=some b\/w.heap.size<=b):=by
 have cm:=xr2 hi;have ng:=h.works p (xra _ cm);have an:=h.at_.lt;have ay:=h.len;have vD:as_.length<=100:=by omega
 have gh:=qc0 ⟨h.arow,fun q hq=>h.works q (xra _ hq)⟩ vD ng (fun a ha e=>h.inj a (xra _ ha) p (xra _ cm) e) (List.nodup_append.1 h.nd).2.1;have dG:vw.ownBlock≠some bt:=qag h.wrow h.at_ (by decide);have dK:va.ownBlock≠some bt:=qag h.arow h.at_ (by decide);have c3:=h.at_.cell 3;simp only[xq0,xq1,xq2]at c3;unfold nptr at gh ⊢
 go_enter func211,ntmps211
 go_wp2_with fail
 refine gh.mono ?_
 rintro e w1 (⟨aA,rfl,hB⟩|⟨i',v1,ez,rfl,dp,dA,bN⟩)
 ·exact absurd cm aA
 ·have mV:i'=i:=(List.getElem?_inj (xr0.1 ez).1 (List.nodup_append.1 h.nd).2.1).1 (ez.trans hi.symm);subst mV;have cK:=h.at_.keep dA dK;have f3:=cK.frozen 3;have k2:=cK.cell 2;have k3:=cK.cell 3;simp only[xq0,xq1,xq2]at k2 k3;have dw:Blk (w1.setCell ⟨bt,3,none⟩ v1) bt 102 #[r,ai,vw,v1]:=by have:=cK.set 3 v1;simpa using this
  have gi:(w1.setCell ⟨bt,3,none⟩ v1).ownsRow 0 95 1 vw ws.length (qa1 ws):=xrl (qae h.wrow dA (fun g hg e=>h.sep g hg e)) (fun e=>dG e) _;have fX:(w1.setCell ⟨bt,3,none⟩ v1).ownsRow 0 95 1 v1 (as_.take i'++as_.drop (i'+1)).length (qa1 (as_.take i'++as_.drop (i'+1))):=xrl dp.row (fun e=>dK (by rw[<-bN];exact e)) _;have fJ:∀q∈ws++as_,Blk (w1.setCell ⟨bt,3,none⟩ v1) q.blk 105 q.cells:=fun q hq=>((h.works q hq).keep dA (qag h.arow (h.works q hq) (by decide))).other _ _ (fun e=>by
   have h1:=h.works q hq;rw[show q.blk=bt from e]at h1
   have:=h1.symm.trans h.at_
   injection this with this;injection this with _ h2 _
   exact absurd h2 (by decide))
  have dJ:Keep (BkT bt vw va) w (w1.setCell ⟨bt,3,none⟩ v1):=(dA.mono (fun y e=>.inr (.inr e))).setCell (p:=⟨bt,3,none⟩) (.inl rfl) _;have cy:=qup (p:=p) dw gi (by omega);obtain⟨a1,c1,cQ,cL,eE⟩:=qa7 fX;rw[show(w1.setCell ⟨bt,3,none⟩ v1).heap.size=w1.heap.size by simp]at cy;have aJ:∀a n cap w',n=ws.length+1->w'.ownsRow 0 95 1 (.slice a n cap) n (qa1 (p::ws))->Blk w' bt 102 #[r,ai,vw,v1]->Keep (fun b=>vw.ownBlock=some b) (w1.setCell ⟨bt,3,none⟩ v1) w'->(∀b,(Value.slice a n cap).ownBlock=some b->vw.ownBlock=some b\/w1.heap.size<=b)->∃aH aO,BkAt (w'.setCell ⟨bt,2,none⟩ (.slice a n cap)) bt r ai aH aO (p::ws) (as_.take i'++as_.drop (i'+1))/\Keep (BkT bt vw va) w (w'.setCell ⟨bt,2,none⟩ (.slice a n cap))/\(∀b,aH.ownBlock=some b\/aO.ownBlock=some b->vw.ownBlock=some b\/va.ownBlock=some b\/w.heap.size<=b):=by
   intro a n cap w' ia aS bg mE dm;subst ia;have aN:((p::ws)++(as_.take i'++as_.drop (i'+1))).Perm (ws++as_):=by
    have h1:=(qcf hi).append_left ws
    refine List.Perm.trans ?_ h1.symm
    exact(List.perm_middle (a:=p) (l₁ := ws)).symm
   have af:∀q,q∈(p::ws)++(as_.take i'++as_.drop (i'+1))->q∈ws++as_:=fun q hq=>aN.mem_iff.1 hq
   have bY:(Value.slice a (ws.length+1) cap).ownBlock≠some bt:=fun e=>by
    rcases dm _ e with e2|e2
    ·exact dG e2
    ·have:=cK.lt;omega
   have pB:v1.ownBlock≠some bt:=by rw[bN];exact dK
   have hz:(w1.setCell ⟨bt,3,none⟩ v1).heap.size=w1.heap.size:=by simp
   refine⟨.slice a (ws.length+1) cap,v1,⟨?_,?_,?_,?_,?_,?_,?_,?_⟩,?_,?_⟩
   ·have:=bg.set 2 (.slice a (ws.length+1) cap)
    simpa using this
   ·exact xrl aS bY _
   ·exact xrl (qae fX mE (fun g hg e=>h.sep g e (by rw[<-bN];exact hg))) (fun e=>pB e) _
   ·intro q hq;have h1:=fJ q (af q hq)
    exact(h1.keep mE (qag gi h1 (by decide))).other _ _ (fun e=>by
     have h2:=fJ q (af q hq);rw[show q.blk=bt from e]at h2
     have:=h2.symm.trans dw
     injection this with this;injection this with _ h3 _
     exact absurd h3 (by decide))
   ·intro b aa e
    rcases dm _ aa with e2|e2
    ·exact h.sep _ e2 (by rw[<-bN];exact e)
    ·have:=qar fX e;omega
   ·exact aN.nodup_iff.2 h.nd
   ·exact fun a ha b hb e=>h.inj a (af a ha) b (af b hb) e
   ·have:=aN.length_eq
    simp only[List.length_append]at this ⊢
    omega
   ·exact((dJ.qbm mE (fun b _ e=>.inr (.inl e)))).setCell (p:=⟨bt,2,none⟩) (.inl rfl) _
   ·rintro b (e|e)
    ·rcases dm _ e with e2|e2
     ·exact .inl e2
     ·exact .inr (.inr (Nat.le_trans dA.size e2))
    ·exact .inr (.inl (by rw[<-bN];exact e))
  clear h dp fX fJ dJ;generalize qa1 (p::ws)=pp at cy aJ;have su:∃n1,v1=.slice a1 n1 c1:=⟨_,cQ⟩;clear cQ cL eE;obtain⟨n1,rfl⟩:=su;clear gh;unfold nptr at cy
  go_wp2_with fail
  refine cy.mono ?_
  rintro e w2 ⟨a2,n2,q2,rfl,dQ,R2,ag,aY,tN⟩
  have f2:=ag.frozen 2;have ft:=ag.cell 2;simp only[xq0,xq1,xq2]at ft;have hp:=aJ _ _ _ _ dQ R2 ag aY tN;clear aJ dQ
  go_wp2_with fail
  go_end0
  exact⟨rfl,hp⟩
def qgd (l:List Pw)(num:Int):Option Pw:=l.find? fun p=>p.x.num == num
def optP:Option Pw->Value
 |none=>.pointer none
 |some p=>nptr p.blk
theorem quw{k:Nat}{q:Pw}(hk:l[k]?=some q)(hq:(q.x.num == num)=true)(aA:∀j y,j<k->l[j]?=some y->(y.x.num == num)=false):qgd l num=some q:=by
 unfold qgd;rw[List.find?_eq_some_iff_getElem];obtain⟨an,he⟩:=xr0.1 hk
 refine⟨hq,k,an,he,fun j hj=>?_⟩
 simpa using aA j _ hj (xr1 (by omega))
theorem qqc(aA:∀j y,j<l.length->l[j]?=some y->(y.x.num == num)=false):qgd l num=none:=by
 unfold qgd;rw[List.find?_eq_none];intro y hy;obtain⟨j,hj⟩:=xre hy
 have:=aA j y (xr0.1 hj).1 hj
 simpa using this
theorem qj9(h:WRow w v l)(hl:l.length<=100)(num:Int):
  Calls prog 77 #[v,.int .i64 num] w fun e w'=>e=.returned (optP (qgd l num))/\w'=w:=by
 obtain⟨a0,cx,hv,dk,h_⟩:=h.form;have bG:=fun i q (hi:l[i]?=some q)=>h.at_ hi
 have dL:=fun q (hq:q∈l)=>(h.works q hq).cell 0
 obtain⟨n,hn⟩:∃n,n=l.length:=⟨_,rfl⟩;rw[<-hn]at hv bG hl dk;have HN:Hid (n=l.length):=hn;clear hn;subst hv
 go_enter func77,ntmps77
 go_wp2
 go_loop [9] (fun i=>∃k:Nat,k<=n/\i=.int .i64 k/\∀j q,j<k->l[j]?=some q->(q.x.num == num)=false) (fun i=>n-(intOf i).toNat)
 case atStart=>exact⟨0,Nat.zero_le _,rfl,fun j q hj=>by omega⟩
 case round =>
  obtain⟨k,hk,rfl,aA⟩:=hrel;have mo:Hid (∀j q,j<k->l[j]?=some q->(q.x.num == num)=false):=aA;clear aA
  by_cases an:k<n
  ·obtain⟨q,hq⟩:∃q,l[k]?=some q:=⟨_,xr1 (by rw[<-HN.out];exact an)⟩;obtain⟨g,cap,he,bK,cL,eT,hc⟩:=bG k q hq;injection he with e1 _ e3;subst e1 e3;have ib:=xr2 hq;have hw:=dL q ib;unfold Pw.cells at hw;simp only[List.getElem?_toArray,List.getElem?_cons_zero]at hw;have HQ:Hid (l[k]?=some q):=hq;have jH:(k:Int)<n:=by omega
   have eV:(0:Int)<=k:=by omega
   unfold nptr at hc;clear hq bG dL
   by_cases jq:q.x.num=num
   ·have HF:Hid (qgd l num=some q):=quw HQ.out (by simp[jq]) mo.out
    go_wp2
    go_ret
    exact⟨by rw[HF.out];rfl,rfl⟩
   ·have HB:Hid ((q.x.num == num)=false):=by simp[Hid,jq]
    go_wp2
    go_round
    case rel =>
     refine⟨k+1,by omega,by go_num,fun j y hj hy=>?_⟩
     rcases Nat.lt_or_ge j k with h1|h1
     ·exact mo.out j y h1 hy
     ·obtain rfl:j=k:=by omega
      rw[HQ.out]at hy;cases hy
      exact HB.out
    case measure=>simp[intOf];omega
  ·have HF:Hid (qgd l num=none):=qqc (fun j y hj hy=>mo.out j y (by have:=HN.out;omega) hy)
   go_wp2
   go_ret
   exact⟨by rw[HF.out];rfl,rfl⟩
theorem qhl{x:Pw}:(binOp .neq 95 (.pointer (some ⟨x.blk,0,none⟩)) (.pointer none)).run prog W=.ok (.bool true) W:=by
 kernel_rfl
theorem qet:(binOp .neq 95 (.pointer none) (.pointer none)).run prog W=.ok (.bool false) W:=by
 kernel_rfl
def qgr (ws as_:List Pw)(num:Int):Value×Bool :=
 match qgd as_ num with
 |some p=>(nptr p.blk,true)
 |none=>(optP (qgd ws num),false)
theorem qmg{r:Value}(h:BkAt w bt r ai vw va ws as_)(num:Int):
  Calls prog 46 #[.pointer (some ⟨bt,1,none⟩),.int .i64 num] w fun e w'=>e=.returned (.tuple #[(qgr ws as_ num).1,.bool (qgr ws as_ num).2])/\w'=w:=by
 have ay:=h.len;have ha:=qj9 ⟨h.arow,fun q hq=>h.works q (xra _ hq)⟩ (by omega) num;have hw:=qj9 ⟨h.wrow,fun q hq=>h.works q (xr9 _ hq)⟩ (by omega) num;have c2:=h.at_.cell 2;have c3:=h.at_.cell 3;simp only[xq0,xq1,xq2]at c2 c3;have dF:=fun W x=>qhl (W:=W) (x:=x)
 have ia:=fun W=>qet (W:=W)
 unfold qgr
 go_enter func46,ntmps46
 cases hf:qgd as_ num with
 |some p =>
  rw[hf]at ha;simp only[optP,nptr]at ha ⊢;clear hf hw
  go_wp2_with fail
  refine ha.mono ?_
  rintro e w1 ⟨rfl,rfl⟩
  go_wp2_with fail
  exact xrn (v:=.tuple #[.pointer (some ⟨p.blk,0,none⟩),.bool true]) (by simp[results,results46,go_sem]) rfl ⟨rfl,rfl⟩
 |none =>
  rw[hf]at ha;simp only[optP]at ha
  simp only
  generalize optP (qgd ws num)=o at hw ⊢;clear hf
  go_wp2_with fail
  refine ha.mono ?_
  rintro e w1 ⟨rfl,rfl⟩
  go_wp2_with fail
  refine hw.mono ?_
  rintro e w2 ⟨rfl,rfl⟩
  go_wp2_with fail
  exact xrn (v:=.tuple #[o,.bool false]) (by simp[results,results46,go_sem]) rfl ⟨rfl,rfl⟩
theorem qp5{r:Value}(h:BkAt w bt r ai vw va ws as_):
  Calls prog 148 #[.pointer (some ⟨bt,1,none⟩)] w fun e w'=>e=.returned (.int .i64 (ws.length+as_.length:Nat))/\∃m,w'=w.drewN m:=by
 have ay:=h.len;obtain⟨a1,q1,h1,l1,x1⟩:=qa7 h.wrow;obtain⟨a2,q2,h2,l2,x2⟩:=qa7 h.arow;have c2:=h.at_.cell 2;have c3:=h.at_.cell 3;simp only[xq0,xq1,xq2]at c2 c3;rw[h1]at c2;rw[h2]at c3;clear h1 h2 h;generalize ws.length=n1 at *;generalize as_.length=n2 at *
 go_enter func148,ntmps148
 go_wp2_with fail
 go_quiet (fail)
 go_wp2_with fail
 go_ret
 exact⟨by simp,_,rfl⟩
end Go.Proofs.YtphclnolomgjoaaGreatDoor
