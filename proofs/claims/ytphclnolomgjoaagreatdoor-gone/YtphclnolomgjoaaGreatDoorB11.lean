import Derived.Test.YtphclnolomgjoaaGreatDoorB10
set_option linter.unusedVariables false
set_option linter.unusedSimpArgs false
set_option maxRecDepth 100000
set_option maxHeartbeats 4000000
namespace Go.Proofs.YtphclnolomgjoaaGreatDoor
open Tryz
open Go.RowKit
variable {bt i k:Nat}{W w:World}{e:TypeId}{ai v va vw:Value}{xs:List Value}{as_ l ws:List Pw}{p:Pw}{num:Int}
theorem qpe:(prog.info? 95).map (fun i=>(i.zero,i.size,i.bytes))=some (some (.pointer none),1,8):=by kernel_rfl
theorem qii:(prog.info? 95).map (·.size)=some 1:=by kernel_rfl
theorem qmp(sl:Value)(n vb:Nat)(xs:List Value)(v:Value)(w:World)(hn:n<=1000)(cR:v.oneCell'=true)(aG:w.ownsRow 0 95 1 sl n xs)(cU:Blk w vb 95 #[v]):
  Calls prog 232 #[sl,.int .i64 n,.slice (some ⟨vb,0,none⟩) 1 1] w fun e w' =>
   ∃dj,e=.returned dj/\w'.ownsRow 0 95 1 dj (n+1) (xs++[v])/\w.grownBy w' sl.ownBlock/\(dj.ownBlock=sl.ownBlock\/∃g,dj.ownBlock=some g/\w.heap.size<=g):=by
 obtain⟨i0,hi,fM,dz,fq⟩:=info_parts qpe;have jf:=cU.cell 0;simp only[List.getElem?_toArray,List.getElem?_cons_zero]at jf;have c_:∀j u,[v][j]?=some u->w.cell? ((⟨vb,0,none⟩:Addr).add j)=some u:=fun j u hj=>by
  cases j with
  |zero=>simp at hj;subst hj;exact jf
  |succ j=>simp at hj
 have key:∃v' w',(∀ty,(Builtin.append_ #[98,98] ty #[sl,.slice (some ⟨vb,0,none⟩) 1 1]).run prog w=.ok v' w')/\w'.ownsRow 0 95 1 v' (n+1) (xs++[v])/\w.grownBy w' sl.ownBlock/\(v'.ownBlock=sl.ownBlock\/∃g,v'.ownBlock=some g/\w.heap.size<=g):=by
  have cn:∀ {v':Value} {w':World},w'.ownsRow w.heap.size 95 1 v' (n+1) (xs++[v])->w'.ownsRow 0 95 1 v' (n+1) (xs++[v])/\∃g,v'.ownBlock=some g/\w.heap.size<=g:=fun {v' w'} h=>by
   obtain⟨h1,h2⟩:=h
   rcases h2 with ⟨_,h0⟩|⟨g,cap,aH,rfl,hb,rest⟩
   ·omega
   ·exact⟨⟨h1,.inr ⟨g,cap,aH,rfl,Nat.zero_le _,rest⟩⟩,g,rfl,hb⟩
  rcases aG.2 with ⟨rfl,rfl⟩|⟨g,cap,aH,rfl,_,hg,lu,iT,cv,ht⟩
  ·have hx:xs=[]:=List.eq_nil_of_length_eq_zero (by simpa using aG.1);subst hx;obtain⟨v',w',hr,ho,dB,_⟩:=run_append_own (P:=prog) w w.heap.size 98 0 95 i0 _ 1 8 underlying98 hi fM dz fq rfl (by decide) (.slice none 0 0) 0 [] (xrk w _ 95 1) ⟨vb,0,none⟩ 1 1 [v] rfl c_ (by simp[cR]) (by unfold maxLen;omega) (by omega) (Nat.le_refl _);have gR:=cn (by simpa using ho)
   exact⟨v',w',fun ty=>hr,gR.1,dB,.inr gR.2⟩
  ·by_cases bo:n+1<=cap
   ·have hr:=fun ty=>run_append_room (P:=prog) w 98 ty 95 i0 underlying98 hi g n cap aH hg ⟨vb,0,none⟩ 1 1 [v] (by rw[dz];rfl) c_ (by simp[cR]) bo (by rw[dz];simp;omega)
    rw[dz]at hr;simp only[Nat.mul_one]at hr ht cv
    refine⟨_,_,hr,⟨by simp[aG.1],.inr ⟨g,cap,_,rfl,Nat.zero_le _,setRow_heap w g aH _ 95 _ hg,bo,iT,?_,?_⟩⟩,⟨rfl,rfl,rfl,by simp,fun k _ hk=>setRow_other w g k _ (fun e=>hk (by simp[Value.ownBlock,e]))⟩,.inl rfl⟩
    ·simp[cv];omega
    ·have:xs.length=n:=by simpa using aG.1
     rw[Nat.mul_one,List.toList_toArray,ht,List.take_append_of_le_length (by simp;omega),xrd (by simp;omega)]
   ·obtain⟨v',w',hr,ho,dB⟩:=run_append_arg_grows (P:=prog) w 98 0 95 i0 _ 1 8 underlying98 hi fM dz fq rfl (by decide) ⟨g,0,none⟩ n cap xs aG.1 (aG.cells (g:=g) rfl) ⟨vb,0,none⟩ 1 1 [v] rfl c_ (by omega) (by unfold maxLen;omega) (by omega);have gR:=cn ho
    exact⟨v',w',fun ty=>hr,gR.1,⟨dB.os,dB.tape,dB.output,dB.size,fun k hk _=>dB.block k hk (by simp)⟩,.inr gR.2⟩
 obtain⟨v',w',lF,ho,dB,gT⟩:=key;obtain⟨ao,cap,dh,dn⟩:∃ao cap,sl=.slice ao n cap/\n<=cap/\cap<=maxLen:=by
  rcases aG.2 with ⟨rfl,rfl⟩|⟨g,cap,aH,rfl,_,_,h1,h2,_⟩
  ·exact⟨none,0,rfl,Nat.le_refl _,Nat.zero_le _⟩
  ·exact⟨_,_,rfl,h1,h2⟩
 obtain⟨dn,eX⟩:=dn;unfold maxLen at eX;subst dh;have nh:ao=none->n=0/\cap=0:=fun e=>by
  subst e
  rcases aG.2 with ⟨h,rfl⟩|⟨g,av,aH,h,_⟩
  ·injection h with _ _ h3;exact⟨rfl,h3⟩
  ·cases h
 clear aG c_
 go_enter func232,ntmps232
 cases ao with
 |none =>
  obtain⟨rfl,rfl⟩:=nh rfl
  go_wp2_with (at_builtin;refine Lib.wpList_append_run _ rfl _ _ _ _ rfl _ _ rfl rfl _ _ (lF _) ?_)
  all_goals (go_ret;exact⟨_,rfl,ho,dB,gT⟩)
 |some a =>
  go_wp2_with (at_builtin;refine Lib.wpList_append_run _ rfl _ _ _ _ rfl _ _ rfl rfl _ _ (lF _) ?_)
  all_goals (go_ret;exact⟨_,rfl,ho,dB,gT⟩)
theorem qjt(g n c i vb:Nat)(aH:Array Value)(v:Value)(w:World)(hi:i<n)(bo:n+1<=c)(hc:c<=maxLen)(hg:w.heap[g]?=some (.cells aH 95 (0,0)))(cv:aH.size=c)
  (cR:v.oneCell'=true) (h1:∀u∈aH.toList.take n,u.oneCell'=true) (cU:Blk w vb 95 #[v]) (aW:vb≠g) :
  Calls prog 232 #[.slice (some ⟨g,0,none⟩) n c,.int .i64 i,.slice (some ⟨vb,0,none⟩) 1 1] w fun e w' =>
   e=.returned (.slice (some ⟨g,0,none⟩) (n+1) c)/\(∃R:Array Value,w'.heap[g]?=some (.cells R 95 (0,0))/\R.size=c/\R.toList.take (n+1)=(aH.toList.take n).take i++v::(aH.toList.take n).drop i)/\Keep (fun b=>b=g) w w':=by
 unfold maxLen at hc;have fq:¬((i:Int)=(n:Int)):=by omega
 have fp:w.shape? vb=some (95,1):=by unfold World.shape?;rw[show w.heap[vb]?=_ from cU];rfl
 have ph:w.shape? g=some (95,c):=by unfold World.shape?;rw[hg];simp[cv]
 have mj:∀lb cb,(callFunc 241 #[.slice (some ⟨vb,0,none⟩) 1 1,.slice (some ⟨g,i+1,none⟩) lb cb]).run prog w=.ok (.value (.bool false)) w:=fun lb cb=>by
  rw[run_callFunc_extern func241 (by kernel_rfl) (by kernel_rfl) (by kernel_rfl) (e:=Extern.SlicesOverlaps.overlaps #[98,98] #[4]) (by kernel_rfl),
   Lib.run_overlaps_apart w 98 4 95 underlying98 1 sizeOf97 ⟨vb,0,none⟩ ⟨g,i+1,none⟩ 1 1 lb cb aW 95 95 1 c fp ph (by omega) (cU.frozen 0) (cU.frozen 1)]
  rfl
 have cell:∀j u,aH[j]?=some u->w.cell? ⟨g,j,none⟩=some u:=fun j u h=>by unfold World.cell?;simp only[hg];simpa using h
 obtain⟨cs,cE⟩:∃cs,cs=(aH.toList.take n).drop i:=⟨_,rfl⟩;have bm:cs.length=n-i:=by rw[cE];simp;omega
 have b_:∀ty dc sc,(Builtin.copy_ #[98,98] ty #[.slice (some ⟨g,i+1,none⟩) (n-i) dc,.slice (some ⟨g,i,none⟩) (n+1-i) sc]).run prog w.drew=.ok (goInt cs.length) (w.drew.setRow g (aH.toList.take (i+1)++cs++aH.toList.drop (i+1+cs.length)).toArray):=fun ty dc sc =>
  run_copy_row prog w.drew 98 98 ty 95 g (i+1) (n-i) dc ⟨g,i,none⟩ (n+1-i) sc aH 95 cs underlying98 qii hg (by rw[bm];simp only[Nat.min_def];split<;>omega)
   (fun j u hj=>by
    rw[Addr.add_lit]
    refine cell _ _ ?_
    rw[cE,List.getElem?_drop,List.getElem?_take]at hj
    split at hj
    ·simpa using hj
    ·cases hj) (by rw[bm,cv];omega) (fun u hu=>h1 u (by rw[cE]at hu;exact List.mem_of_mem_drop hu))
 obtain⟨R1,eI⟩:∃R1,R1=(aH.toList.take (i+1)++cs++aH.toList.drop (i+1+cs.length)).toArray:=⟨_,rfl⟩;rw[<-eI]at b_;have kG:R1.size=c:=by rw[eI];simp[bm,cv];omega
 have me:(w.drew.setRow g R1).heap[g]?=some (.cells R1 95 (0,0)):=setRow_heap w.drew g aH R1 95 (0,0) hg;have jf:w.cell? ⟨vb,0,none⟩=some v:=by have:=cU.cell 0;simpa using this
 have cO:∀(W:World),W.heap[g]?=some (.cells R1 95 (0,0))->W.cell? ⟨vb,0,none⟩=some v->∀ty dc,(Builtin.copy_ #[98,98] ty #[.slice (some ⟨g,i,none⟩) (n+1-i) dc,.slice (some ⟨vb,0,none⟩) 1 1]).run prog W=.ok (goInt 1) (W.setRow g (R1.toList.take i++[v]++R1.toList.drop (i+1)).toArray):=fun W kJ ou ty dc =>
  run_copy_row prog W 98 98 ty 95 g i (n+1-i) dc ⟨vb,0,none⟩ 1 1 R1 95 [v] underlying98 qii kJ (by simp only[Nat.min_def,List.length_singleton];split<;>omega)
   (fun j u hj=>by cases j with|zero=>(simp at hj;subst hj;exact ou)|succ j=>simp at hj) (by rw[kG];simp;omega) (by simp[cR])
 have hE:∀j u,w.cell? ⟨vb,j,none⟩=some u->(w.drew.setRow g R1).cell? ⟨vb,j,none⟩=some u:=fun j u h=>by rw[cell_setRow_other _ _ _ _ aW];exact h
 have ck:IntKind.i64.wrap ((i:Int)+1)=(i:Int)+1:=by rw[IntKind.wrap_i64];omega
 have bD:i<=n:=by omega
 have pZ:((i:Int)+1).toNat=i+1:=by omega
 have aa:(0:Int)<=(i:Int)+1:=by omega
 have ag:¬(c=i+1):=by omega
 have aM:(i:Int)<=(n:Int)+1:=by omega
 have bf:¬(c=i):=by omega
 have ur:Hid (cs=(aH.toList.take n).drop i):=cE;have uA:Hid (R1=(aH.toList.take (i+1)++cs++aH.toList.drop (i+1+cs.length)).toArray):=eI;have lT:Hid (cs.length=n-i):=bm;clear cE eI bm
 go_enter func232,ntmps232
 go_wp2_with (simp only[mj])
 go_region_law (refine qh5 rfl _ _ 98 98 rfl _ _ (by simp[Act.eval,Act.put]) (by simp[Act.eval,Act.put]) (b_ _ _ _) ?_)
 go_wp2_with (at_builtin;refine qf8 _ rfl _ _ 98 98 rfl _ _ rfl rfl (cO _ me (hE _ _ jf) _ _) ?_)
 go_ret
 refine⟨rfl,⟨(R1.toList.take i++v::R1.toList.drop (i+1)).toArray,setRow_heap _ g R1 _ 95 (0,0) me,by simp[kG];omega,?_⟩,?_⟩
 ·have e1:R1.toList=aH.toList.take (i+1)++cs++aH.toList.drop (n+1):=by rw[uA.out,lT.out,show i+1+(n-i)=n+1 by omega]
  have e2:R1.toList.take i=aH.toList.take i:=by rw[e1,List.append_assoc,List.take_append_of_le_length (by simp;omega),List.take_take,Nat.min_eq_left (by omega)]
  have e3:R1.toList.drop (i+1)=cs++aH.toList.drop (n+1):=by rw[e1,List.append_assoc,List.drop_append_of_le_length (by simp;omega),List.drop_of_length_le (by simp;omega)];rfl
  have e4:(aH.toList.take n).take i=aH.toList.take i:=by rw[List.take_take,Nat.min_eq_left (by omega)]
  rw[List.toList_toArray,e2,e3,e4,<- ur.out];have a9:(aH.toList.take i).length=i:=by simp;omega
  rw[show aH.toList.take i++v::(cs++aH.toList.drop (n+1))=(aH.toList.take i++v::cs)++aH.toList.drop (n+1) by simp];rw[List.take_append_of_le_length (by simp[a9,lT.out];omega),xrd (by simp[a9,lT.out];omega)]
 ·exact⟨rfl,rfl,rfl,by simp,fun k hk hn=>by rw[setRow_other _ _ _ _ hn,setRow_other _ _ _ _ hn];rfl⟩
theorem qlf(g n c i vb:Nat)(aH:Array Value)(v:Value)(w:World)(hi:i<n)(dH:n<=1000)(lu:n<=c)(bo:c<n+1)(hg:w.heap[g]?=some (.cells aH 95 (0,0)))(cv:aH.size=c)
  (cR:v.oneCell'=true) (h1:∀u∈aH.toList.take n,u.oneCell'=true) (cU:Blk w vb 95 #[v]) :
  Calls prog 232 #[.slice (some ⟨g,0,none⟩) n c,.int .i64 i,.slice (some ⟨vb,0,none⟩) 1 1] w fun e w' =>
   ∃G,n+1<=G/\G<=maxLen/\e=.returned (.slice (some ⟨w.heap.size,0,none⟩) (n+1) G)/\(∃R:Array Value,w'.heap[w.heap.size]?=some (.cells R 95 (0,0))/\R.size=G/\R.toList.take (n+1)=(aH.toList.take n).take i++v::(aH.toList.take n).drop i)/\Below w.heap.size w w':=by
 obtain⟨i0,mU,fM,qc,sL⟩:=info_parts qpe;obtain⟨xs,jZ⟩:∃xs,xs=aH.toList.take n:=⟨_,rfl⟩;rw[<-jZ]at h1;have ie:xs.length=n:=by rw[jZ];simp;omega
 have fq:¬((i:Int)=(n:Int)):=by omega
 have lQ:(c:Int)<(n:Int)+1:=by omega
 have pN:g<w.heap.size:=(xrc.1 hg).1;have cV:vb<w.heap.size:=cU.lt;have cell:∀j u,xs[j]?=some u->w.cell? ⟨g,j,none⟩=some u:=fun j u h=>by
  unfold World.cell?;simp only[hg];rw[jZ,List.getElem?_take]at h
  split at h
  ·simpa using h
  ·cases h
 have jf:w.cell? ⟨vb,0,none⟩=some v:=by have:=cU.cell 0;simpa using this
 have lk:(n:Int)+1-(i:Int)=((n+1-i:Nat):Int):=by omega
 have oK:i+(n+1-i)=n+1:=by omega
 have fG:(Builtin.firstCells i0.size i (.slice (some ⟨g,0,none⟩) i c)).run prog w.drew=.ok (xs.take i).toArray w.drew:=by
  rw[qc]
  exact run_firstCells_some w.drew 1 i ⟨g,0,none⟩ i c (xs.take i) (by rw[List.length_take];omega) (fun j u hj=>by
   rw[Addr.add_lit,Nat.zero_add];rw[List.getElem?_take]at hj
   split at hj
   ·exact cell j u hj
   ·cases hj)
 obtain⟨G,hG⟩:∃G,G=grownCap w (n+1) c 95:=⟨_,rfl⟩;obtain⟨dM,gH⟩:∃dM:Array Value,dM=(xs.take i).toArray++Builtin.zeroCells (Value.pointer none).cells (n+1-i)++Builtin.zeroCells (Value.pointer none).cells (G-(n+1)):=⟨_,rfl⟩;have rZ:∀ty,(Builtin.append_ #[98,3] ty #[.slice (some ⟨g,0,none⟩) i c,.int .i64 ((n:Int)+1-(i:Int))]).run prog w =
   .ok (.slice (some ⟨w.heap.size,0,none⟩) (n+1) G) (w.drew.alloc (.cells dM 95)):=fun ty=>by
  have h:=Lib.run_append_grow_zeros w 98 3 ty 95 i0 _ .i64 .i64 underlying98 underlying3 mU fM (some ⟨g,0,none⟩) i c (xs.take i) fG (n+1-i) (by omega) (by omega) (by omega) (by omega) (by rw[sL];omega) (by rw[sL,oK];exact growslice_fits bo (by omega));rw[oK,<- hG,<- gH]at h;rw[lk]
  exact h
 have vc:n+1<=G:=by rw[hG];exact grownCap_ge w _ _ _
 have kD:G<=maxLen:=by rw[hG];exact grownCap_le_maxLen w (n+1) c 95 (by unfold maxLen;omega)
 have om:dM.size=G:=by
  rw[gH];simp[Builtin.zeroCells,Value.cells];omega
 have j8:dM.toList.take i=xs.take i:=by
  rw[gH];simp only[Array.toList_append,List.append_assoc,List.toList_toArray];rw[List.take_append_of_le_length (by simp;omega),xrd (by simp;omega)]
 obtain⟨W1,dt⟩:∃W1,W1=w.drew.alloc (.cells dM 95):=⟨_,rfl⟩;rw[<-dt]at rZ;have xm:W1.heap.size=w.heap.size+1:=by rw[dt];simp
 have hN:W1.heap[w.heap.size]?=some (.cells dM 95 (0,0)):=by rw[dt];exact heap_alloc_new w.drew _
 have gD:∀k,k<w.heap.size->W1.heap[k]?=w.heap[k]?:=fun k hk=>by rw[dt];exact Below.heap_alloc w.drew _ k hk
 have kP:Below w.heap.size w W1:=by rw[dt];exact(Below.refl _ w).drew.alloc (Nat.le_refl _) _
 have b_:∀(W:World),W.heap[w.heap.size]?=some (.cells dM 95 (0,0))->W.cell? ⟨vb,0,none⟩=some v->∀ty dc,(Builtin.copy_ #[98,98] ty #[.slice (some ⟨w.heap.size,i,none⟩) (n+1-i) dc,.slice (some ⟨vb,0,none⟩) 1 1]).run prog W=.ok (goInt 1) (W.setRow w.heap.size (dM.toList.take i++[v]++dM.toList.drop (i+1)).toArray):=fun W kJ ou ty dc =>
  run_copy_row prog W 98 98 ty 95 w.heap.size i (n+1-i) dc ⟨vb,0,none⟩ 1 1 dM 95 [v] underlying98 qii kJ (by simp only[Nat.min_def,List.length_singleton];split<;>omega)
   (fun j u hj=>by cases j with|zero=>(simp at hj;subst hj;exact ou)|succ j=>simp at hj) (by rw[om];simp;omega) (by simp[cR])
 obtain⟨R2,cX⟩:∃R2,R2=(dM.toList.take i++[v]++dM.toList.drop (i+1)).toArray:=⟨_,rfl⟩;rw[<-cX]at b_;have iQ:R2.size=G:=by rw[cX];simp[om];omega
 obtain⟨W2,du⟩:∃W2,W2=W1.setRow w.heap.size R2:=⟨_,rfl⟩;obtain⟨cs,cE⟩:∃cs,cs=xs.drop i:=⟨_,rfl⟩;have bm:cs.length=n-i:=by rw[cE];simp;omega
 have cO:∀(W:World),W.heap[w.heap.size]?=some (.cells R2 95 (0,0))->(∀j,W.cell? ⟨g,j,none⟩=w.cell? ⟨g,j,none⟩)->∀ty dc sc,(Builtin.copy_ #[98,98] ty #[.slice (some ⟨w.heap.size,i+1,none⟩) (n-i) dc,.slice (some ⟨g,i,none⟩) (n-i) sc]).run prog W=.ok (goInt cs.length) (W.setRow w.heap.size (R2.toList.take (i+1)++cs++R2.toList.drop (i+1+cs.length)).toArray):=fun W kJ vB ty dc sc =>
  run_copy_row prog W 98 98 ty 95 w.heap.size (i+1) (n-i) dc ⟨g,i,none⟩ (n-i) sc R2 95 cs underlying98 qii kJ (by rw[bm];simp)
   (fun j u hj=>by
    rw[Addr.add_lit,vB];rw[cE,List.getElem?_drop]at hj
    exact cell _ _ hj) (by rw[bm,iQ];omega) (fun u hu=>h1 u (by rw[cE]at hu;exact List.mem_of_mem_drop hu))
 obtain⟨R3,kH⟩:∃R3,R3=(R2.toList.take (i+1)++cs++R2.toList.drop (i+1+cs.length)).toArray:=⟨_,rfl⟩;rw[<-kH]at cO;have eR:(W1.setRow w.heap.size R2).heap[w.heap.size]?=some (.cells R2 95 (0,0)):=setRow_heap W1 _ dM R2 95 (0,0) hN;have qV:∀j,W1.cell? ⟨g,j,none⟩=w.cell? ⟨g,j,none⟩:=fun j=>World.cell?_of_block (gD g pN)
 have oA:∀j,(W1.setRow w.heap.size R2).cell? ⟨g,j,none⟩=w.cell? ⟨g,j,none⟩:=fun j=>by rw[cell_setRow_other _ _ _ _ (by simp;omega)];exact qV j
 have vX:W1.cell? ⟨vb,0,none⟩=some v:=(World.cell?_of_block (gD vb cV)).trans jf;have aF:R3.size=G/\R3.toList.take (n+1)=xs.take i++v::xs.drop i:=by
  refine⟨by rw[kH];simp[bm,iQ];omega,?_⟩
  have ep:(xs.take i).length=i:=by simp;omega
  have e1:R2.toList=xs.take i++v::dM.toList.drop (i+1):=by rw[cX,j8];simp
  have e2:R2.toList.take (i+1)=xs.take i++[v]:=by
   rw[e1,List.take_append,ep,show i+1-i=1 by omega,xrd (by omega)];simp
  rw[kH,List.toList_toArray,e2,cE];rw[show xs.take i++[v]++xs.drop i=xs.take i++v::xs.drop i by simp];rw[List.take_append_of_le_length (by simp;omega),xrd (by simp;omega)]
 have eX:=kD;unfold maxLen at eX;have AU:¬(G=i):=by omega
 have u_:¬(G=i+1):=by omega
 have BB:¬(c=i):=by omega
 have ck:IntKind.i64.wrap ((i:Int)+1)=(i:Int)+1:=by rw[IntKind.wrap_i64];omega
 have aa:(0:Int)<=(i:Int)+1:=by omega
 have bD:i<=n:=by omega
 have pZ:((i:Int)+1).toNat=i+1:=by omega
 have aM:(i:Int)<=(n:Int):=by omega
 have uE:Hid (xs=aH.toList.take n):=jZ;have Am:Hid (W1=w.drew.alloc (.cells dM 95)):=dt;have dY:Hid (R3.size=G/\R3.toList.take (n+1)=xs.take i++v::xs.drop i):=aF;have u7:Hid (∀k,k<w.heap.size->W1.heap[k]?=w.heap[k]?):=gD;have vV:=b_ W1 hN vX;have vW:=cO (W1.setRow w.heap.size R2).drew eR oA;clear lk oK fG gH hG om j8 cX kH du cE bm jZ ie iQ dt aF qV gD h1 cell
 go_enter func232,ntmps232
 go_wp2_with (at_builtin;refine Lib.wpList_append_run _ rfl _ _ _ _ rfl _ _ rfl rfl _ _ (rZ _) ?_)
 go_region
 go_wp2
 go_ret
 refine⟨G,vc,kD,rfl,⟨R3,setRow_heap (W1.setRow w.heap.size R2).drew _ R2 _ 95 (0,0) eR,dY.out.1,by rw[<-uE.out];exact dY.out.2⟩,?_⟩
 refine kP.trans ⟨rfl,rfl,rfl,by simp,fun k hk=>?_⟩
 rw[setRow_other _ _ _ _ (by omega)]
 exact setRow_other _ _ _ _ (by omega)
theorem qmo(sl:Value)(n i vb:Nat)(xs:List Value)(v:Value)(w:World)(hn:n<=1000)(hi:i<=n)(cR:v.oneCell'=true)(h1:∀u∈xs,u.oneCell'=true)(aG:w.ownsRow 0 95 1 sl n xs)(cU:Blk w vb 95 #[v])(aW:sl.ownBlock≠some vb):
  Calls prog 232 #[sl,.int .i64 i,.slice (some ⟨vb,0,none⟩) 1 1] w fun e w' =>
   ∃dj,e=.returned dj/\w'.ownsRow 0 95 1 dj (n+1) (xs.take i++v::xs.drop i)/\Keep (fun b=>sl.ownBlock=some b) w w'/\(dj.ownBlock=sl.ownBlock\/∃g,dj.ownBlock=some g/\w.heap.size<=g):=by
 have ie:xs.length=n:=by have:=aG.1;omega
 rcases Nat.lt_or_ge i n with ak|oI
 ·rcases aG.2 with ⟨rfl,rfl⟩|⟨g,cap,aH,rfl,_,hg,lu,iT,cv,ht⟩
  ·omega
  ·simp only[Nat.mul_one]at cv ht;have qx:∀u∈aH.toList.take n,u.oneCell'=true:=by rw[ht];exact h1
   by_cases bo:n+1<=cap
   ·refine(qjt g n cap i vb aH v w ak bo iT hg cv cR qx cU (fun e=>aW (by rw[e];rfl))).mono ?_
    rintro e w' ⟨rfl,⟨R,hR,vo,j8⟩,hk⟩
    refine⟨_,rfl,⟨by simp;omega,.inr ⟨g,cap,R,rfl,Nat.zero_le _,hR,bo,iT,by omega,by rw[Nat.mul_one,j8,ht]⟩⟩,hk.mono (fun b hb=>by rw[hb];rfl),.inl rfl⟩
   ·refine(qlf g n cap i vb aH v w ak hn lu (by omega) hg cv cR qx cU).mono ?_
    rintro e w' ⟨G,uX,uY,rfl,⟨R,hR,vo,j8⟩,hb⟩
    refine⟨_,rfl,⟨by simp;omega,.inr ⟨w.heap.size,G,R,rfl,Nat.zero_le _,hR,uX,uY,by omega,by rw[Nat.mul_one,j8,ht]⟩⟩,Keep.new hb,.inr ⟨w.heap.size,rfl,Nat.le_refl _⟩⟩
 ·obtain rfl:i=n:=by omega
  refine(qmp sl i vb xs v w hn cR aG cU).mono ?_
  rintro e w' ⟨dj,rfl,eA,dB,gT⟩
  refine⟨dj,rfl,?_,(Keep.refl _ _).grown dB (fun k h=>h),gT⟩
  rw[xrd (by omega),List.drop_of_length_le (by omega)];exact eA
theorem qen{α : Type}{l:List α}{x : α}(hi:l[i]?=some x):l=l.take i++x::l.drop (i+1):=by
 obtain⟨hl,rfl⟩:=xr0.1 hi
 simp
structure BkAt (W:World) (bt:Nat) (r ai vw va:Value) (ws as_:List Pw):Prop where
 at_:Blk W bt 102 #[r,ai,vw,va]
 wrow:W.ownsRow 0 95 1 vw ws.length (qa0 ws)
 arow:W.ownsRow 0 95 1 va as_.length (qa0 as_)
 works:∀p∈ws++as_,Blk W p.blk 105 p.cells
 sep:∀b,vw.ownBlock=some b->va.ownBlock≠some b
 nd:(ws++as_).Nodup
 inj:∀a∈ws++as_,∀b∈ws++as_,a.blk=b.blk->a=b
 len:ws.length+as_.length<=24
def BkT (bt:Nat)(vw va:Value)(y:Nat):Prop:=y=bt\/vw.ownBlock=some y\/va.ownBlock=some y
theorem qbl{α : Type}{l:List α}{x : α}(h:x∈l.take i++l.drop (i+1)):x∈l:=by
 rcases xri.1 h with h1|h1
 ·exact List.mem_of_mem_take h1
 ·exact List.mem_of_mem_drop h1
theorem qce{α : Type}{l:List α}{x : α}(hi:l[i]?=some x):l.Perm (x::(l.take i++l.drop (i+1))):=by
 have h:=qen hi
 conv=>lhs;rw[h]
 exact List.perm_middle
theorem qa6{size n:Nat}(h:W.ownsRow 0 e size v n xs):∃a cap,v=.slice a n cap/\n<=cap/\cap<=maxLen:=by
 rcases h.2 with ⟨rfl,h0⟩|⟨g,cap,aH,rfl,_,_,h1,h2,_⟩
 ·exact⟨none,0,by rw[h0],by omega,Nat.zero_le _⟩
 ·exact⟨_,cap,rfl,h1,h2⟩
theorem qr9{r:Value}(bJ:Blk W bt 102 #[r,ai,vw,va])(yW:W.ownsRow 0 95 1 va as_.length (qa0 as_))(hl:as_.length<=100):
  ∃v' w',(∀ty,(Builtin.append_ #[98,98] ty #[va,.slice (some ⟨W.heap.size,0,none⟩) 1 1]).run prog (W.alloc (.cells #[nptr p.blk] 95))=.ok v' w')/\∃g cap,v'=.slice (some ⟨g,0,none⟩) (as_.length+1) cap/\as_.length+1<=cap/\cap<=maxLen/\w'.ownsRow 0 95 1 v' (as_.length+1) (qa0 (as_++[p]))/\Blk w' bt 102 #[r,ai,vw,va]/\Keep (fun b=>va.ownBlock=some b) W w'/\(va.ownBlock=some g\/W.heap.size<=g):=by
 have bj:Below W.heap.size W (W.alloc (.cells #[nptr p.blk] 95)):=by exact bel2
 have wQ:va.ownBlock≠some bt:=qah yW bJ (by decide);have vf:Keep (fun b=>va.ownBlock=some b) W (W.alloc (.cells #[nptr p.blk] 95)):=Keep.new bj;obtain⟨v',w',hr,g,cap,rfl,R⟩:=qey un94 qxo (by omega) (W.alloc (.cells #[nptr p.blk] 95)) va as_.length (qa0 as_) (qaf (T:=fun _=>False) yW (Keep.new bj) (fun _ _ e=>e)) W.heap.size 1 1 (by omega) [nptr p.blk] rfl (Blk.new W 95 _) (fun u hu=>by simp at hu;subst hu;rfl) (by unfold maxLen;omega) (by omega);have hp:qa0 (as_++[p])=qa0 as_++[nptr p.blk]:=by simp[qa0]
 refine⟨_,w',hr,g,cap,rfl,R.le,R.mx,by rw[hp];exact R.own,(bJ.below bj bJ.lt).keep R.keep wQ,vf.qbm R.keep (fun b _ e=>e),R.new.imp id (fun e=>by simp at e;omega)⟩
theorem qp2{r:Value}(h:BkAt w bt r ai vw va ws as_)(hi:ws[i]?=some p):
  Calls prog 213 #[.pointer (some ⟨bt,1,none⟩),nptr p.blk] w fun e w'=>e=.returned (.tuple #[])/\∃aI aO,BkAt w' bt r ai aI aO (ws.take i++ws.drop (i+1)) (as_++[p])/\Keep (BkT bt vw va) w w'/\(∀b,aI.ownBlock=some b\/aO.ownBlock=some b->vw.ownBlock=some b\/va.ownBlock=some b\/w.heap.size<=b):=by
 have cI:=xr2 hi;have nt:=h.works p (xr9 _ cI);have ak:=h.at_.lt;have a9:=h.len;have lO:ws.length<=100:=by omega
 have gk:=qcy ⟨h.wrow,fun q hq=>h.works q (xr9 _ hq)⟩ lO nt (fun a ha e=>h.inj a (xr9 _ ha) p (xr9 _ cI) e) (List.nodup_append.1 h.nd).1;have dJ:vw.ownBlock≠some bt:=qah h.wrow h.at_ (by decide);have dO:va.ownBlock≠some bt:=qah h.arow h.at_ (by decide);have c2:=h.at_.cell 2;simp only[xq0,xq1,xq2]at c2;unfold nptr at gk ⊢
 go_enter func213,ntmps213
 go_wp2_with fail
 refine gk.mono ?_
 rintro e w1 (⟨ay,rfl,hB⟩|⟨i',v1,fD,rfl,dt,dD,bO⟩)
 ·exact absurd cI ay
 ·have mX:i'=i:=(List.getElem?_inj (xr0.1 fD).1 (List.nodup_append.1 h.nd).1).1 (fD.trans hi.symm);subst mX;have cM:=h.at_.keep dD dJ;have f2:=cM.frozen 2;have k2:=cM.cell 2;have k3:=cM.cell 3;simp only[xq0,xq1,xq2]at k2 k3;have dA:Blk (w1.setCell ⟨bt,2,none⟩ v1) bt 102 #[r,ai,v1,va]:=by have:=cM.set 2 v1;simpa using this
  have fW:(w1.setCell ⟨bt,2,none⟩ v1).ownsRow 0 95 1 va as_.length (qa0 as_):=xrl (qaf h.arow dD (fun g hg e=>h.sep g e hg)) (fun e=>dO e) _;have gl:(w1.setCell ⟨bt,2,none⟩ v1).ownsRow 0 95 1 v1 (ws.take i'++ws.drop (i'+1)).length (qa0 (ws.take i'++ws.drop (i'+1))):=xrl dt.row (fun e=>dJ (by rw[<-bO];exact e)) _;have fL:∀q∈ws++as_,Blk (w1.setCell ⟨bt,2,none⟩ v1) q.blk 105 q.cells:=fun q hq=>((h.works q hq).keep dD (qah h.wrow (h.works q hq) (by decide))).other _ _ (fun e=>by
   have h1:=h.works q hq;rw[show q.blk=bt from e]at h1
   have:=h1.symm.trans h.at_
   injection this with this;injection this with _ h2 _
   exact absurd h2 (by decide))
  have dN:Keep (BkT bt vw va) w (w1.setCell ⟨bt,2,none⟩ v1):=(dD.mono (fun y e=>.inr (.inl e))).setCell (p:=⟨bt,2,none⟩) (.inl rfl) _;have cB:=qr9 (p:=p) dA fW (by omega);obtain⟨a1,c1,cR,cS,eE⟩:=qa6 gl;rw[show(w1.setCell ⟨bt,2,none⟩ v1).heap.size=w1.heap.size by simp]at cB;have aK:∀g' av w',w'.ownsRow 0 95 1 (.slice (some ⟨g',0,none⟩) (as_.length+1) av) (as_.length+1) (qa0 (as_++[p]))->Blk w' bt 102 #[r,ai,v1,va]->Keep (fun b=>va.ownBlock=some b) (w1.setCell ⟨bt,2,none⟩ v1) w'->(va.ownBlock=some g'\/w1.heap.size<=g')->∃aI aO,BkAt (w'.setCell ⟨bt,3,none⟩ (.slice (some ⟨g',0,none⟩) (as_.length+1) av)) bt r ai aI aO (ws.take i'++ws.drop (i'+1)) (as_++[p])/\Keep (BkT bt vw va) w (w'.setCell ⟨bt,3,none⟩ (.slice (some ⟨g',0,none⟩) (as_.length+1) av))/\(∀b,aI.ownBlock=some b\/aO.ownBlock=some b->vw.ownBlock=some b\/va.ownBlock=some b\/w.heap.size<=b):=by
   intro g' av w' aS bh og dp;have aN:((ws.take i'++ws.drop (i'+1))++(as_++[p])).Perm (ws++as_):=by
    have h1:=(qce hi).append_right as_
    refine List.Perm.trans ?_ h1.symm
    rw[<-List.append_assoc]
    exact List.perm_append_comm
   have af:∀q,q∈(ws.take i'++ws.drop (i'+1))++(as_++[p])->q∈ws++as_:=fun q hq=>aN.mem_iff.1 hq
   have cd:g'≠bt:=fun e=>by
    rcases dp with e2|e2
    ·rw[e]at e2;exact dO e2
    ·have:=cM.lt;omega
   have p6:v1.ownBlock≠some bt:=by rw[bO];exact dJ
   have hz:(w1.setCell ⟨bt,2,none⟩ v1).heap.size=w1.heap.size:=by simp
   refine⟨v1,.slice (some ⟨g',0,none⟩) (as_.length+1) av,⟨?_,?_,?_,?_,?_,?_,?_,?_⟩,?_,?_⟩
   ·have:=bh.set 3 (.slice (some ⟨g',0,none⟩) (as_.length+1) av)
    simpa using this
   ·exact xrl (qaf gl og (fun g hg e=>h.sep g (by rw[<-bO];exact hg) e)) (fun e=>p6 e) _
   ·rw[show(as_++[p]).length=as_.length+1 by simp]
    exact xrl aS (by simp[Value.ownBlock];exact cd) _
   ·intro q hq;have h1:=fL q (af q hq)
    exact(h1.keep og (qah fW h1 (by decide))).other _ _ (fun e=>by
     have h2:=fL q (af q hq);rw[show q.blk=bt from e]at h2
     have:=h2.symm.trans dA
     injection this with this;injection this with _ h3 _
     exact absurd h3 (by decide))
   ·intro b aa e
    simp[Value.ownBlock]at e
    subst e
    rcases dp with e2|e2
    ·exact h.sep _ (by rw[<-bO];exact aa) e2
    ·have:=qap gl aa;omega
   ·exact aN.nodup_iff.2 h.nd
   ·exact fun a ha b hb e=>h.inj a (af a ha) b (af b hb) e
   ·have:=aN.length_eq
    simp only[List.length_append]at this ⊢
    omega
   ·exact((dN.qbm og (fun b _ e=>.inr (.inr e)))).setCell (p:=⟨bt,3,none⟩) (.inl rfl) _
   ·rintro b (e|e)
    ·left;rw[<-bO];exact e
    ·simp[Value.ownBlock]at e
     subst e
     rcases dp with e2|e2
     ·exact .inr (.inl e2)
     ·exact .inr (.inr (Nat.le_trans dD.size e2))
  clear h dt gl fL dN;generalize as_.length=na at cB aK;generalize qa0 (as_++[p])=pp at cB aK;have sq:∃n1,v1=.slice a1 n1 c1:=⟨_,cR⟩;clear cR cS eE;obtain⟨n1,rfl⟩:=sq;clear gk;unfold nptr at cB
  go_wp2_with (at_builtin;refine qbd (by rfl) _ _ _ _ rfl _ _ rfl (by rfl) cB ?_;rintro v2 w2 ⟨g2,q2,rfl,fZ,jb,R2,ag,aY,dR⟩;have f3:=ag.frozen 3;have fw:=ag.cell 3;simp only[xq0,xq1,xq2]at fw)
  go_end0
  exact⟨rfl,aK _ _ _ R2 ag aY dR⟩
theorem quz{r:Value}(bJ:Blk W bt 102 #[r,ai,vw,va])(sB:W.ownsRow 0 95 1 vw ws.length (qa0 ws))(hl:ws.length<=100):
  Calls prog 232 #[vw,.int .i64 0,.slice (some ⟨W.heap.size,0,none⟩) 1 1] (W.alloc (.cells #[nptr p.blk] 95)) fun e w'=>∃a n cap,e=.returned (.slice a n cap)/\n=ws.length+1/\w'.ownsRow 0 95 1 (.slice a n cap) n (qa0 (p::ws))/\Blk w' bt 102 #[r,ai,vw,va]/\Keep (fun b=>vw.ownBlock=some b) W w'/\(∀b,(Value.slice a n cap).ownBlock=some b->vw.ownBlock=some b\/W.heap.size<=b):=by
 have bj:Below W.heap.size W (W.alloc (.cells #[nptr p.blk] 95)):=by exact bel2
 have wQ:vw.ownBlock≠some bt:=qah sB bJ (by decide);have vf:Keep (fun b=>vw.ownBlock=some b) W (W.alloc (.cells #[nptr p.blk] 95)):=Keep.new bj;have ak:vw.ownBlock≠some W.heap.size:=fun e=>by have:=qap sB e;omega
 have h:=qmo vw ws.length 0 W.heap.size (qa0 ws) (nptr p.blk) (W.alloc (.cells #[nptr p.blk] 95)) (by omega) (Nat.zero_le _) rfl (fun u hu=>by unfold qa0 at hu;obtain⟨q,_,rfl⟩:=xrq.1 hu;rfl) (qaf (T:=fun _=>False) sB (Keep.new bj) (fun _ _ e=>e)) (Blk.new W 95 _) ak
 refine h.mono ?_
 rintro e w' ⟨dj,rfl,hr,hK,hn⟩
 obtain⟨a,cap,rfl,h1,h2⟩:=qa6 hr
 refine⟨a,_,cap,rfl,rfl,by simpa [qa0] using hr,(bJ.below bj bJ.lt).keep hK wQ,vf.qbm hK (fun b _ e=>e),fun b hb=>?_⟩
 rcases hn with e|⟨g,e,e2⟩
 ·left;rw[<-e];exact hb
 ·rw[hb]at e;injection e with e;subst e;simp at e2;right;omega
theorem qqg{r:Value}(h:BkAt w bt r ai vw va ws as_)(hi:as_[i]?=some p):
  Calls prog 211 #[.pointer (some ⟨bt,1,none⟩),nptr p.blk] w fun e w'=>e=.returned (.tuple #[])/\∃aI aO,BkAt w' bt r ai aI aO (p::ws) (as_.take i++as_.drop (i+1))/\Keep (BkT bt vw va) w w'/\(∀b,aI.ownBlock=some b\/aO.ownBlock=some b->vw.ownBlock=some b\/va.ownBlock=some b\/w.heap.size<=b):=by
 have cI:=xr2 hi;have nt:=h.works p (xra _ cI);have ak:=h.at_.lt;have a9:=h.len;have vG:as_.length<=100:=by omega
 have gk:=qcy ⟨h.arow,fun q hq=>h.works q (xra _ hq)⟩ vG nt (fun a ha e=>h.inj a (xra _ ha) p (xra _ cI) e) (List.nodup_append.1 h.nd).2.1;have dJ:vw.ownBlock≠some bt:=qah h.wrow h.at_ (by decide);have dO:va.ownBlock≠some bt:=qah h.arow h.at_ (by decide);have c3:=h.at_.cell 3;simp only[xq0,xq1,xq2]at c3;unfold nptr at gk ⊢
 go_enter func211,ntmps211
 go_wp2_with fail
 refine gk.mono ?_
 rintro e w1 (⟨ay,rfl,hB⟩|⟨i',v1,fD,rfl,dt,dD,bO⟩)
 ·exact absurd cI ay
 ·have mX:i'=i:=(List.getElem?_inj (xr0.1 fD).1 (List.nodup_append.1 h.nd).2.1).1 (fD.trans hi.symm);subst mX;have cM:=h.at_.keep dD dO;have f3:=cM.frozen 3;have k2:=cM.cell 2;have k3:=cM.cell 3;simp only[xq0,xq1,xq2]at k2 k3;have dA:Blk (w1.setCell ⟨bt,3,none⟩ v1) bt 102 #[r,ai,vw,v1]:=by have:=cM.set 3 v1;simpa using this
  have gl:(w1.setCell ⟨bt,3,none⟩ v1).ownsRow 0 95 1 vw ws.length (qa0 ws):=xrl (qaf h.wrow dD (fun g hg e=>h.sep g hg e)) (fun e=>dJ e) _;have fW:(w1.setCell ⟨bt,3,none⟩ v1).ownsRow 0 95 1 v1 (as_.take i'++as_.drop (i'+1)).length (qa0 (as_.take i'++as_.drop (i'+1))):=xrl dt.row (fun e=>dO (by rw[<-bO];exact e)) _;have fL:∀q∈ws++as_,Blk (w1.setCell ⟨bt,3,none⟩ v1) q.blk 105 q.cells:=fun q hq=>((h.works q hq).keep dD (qah h.arow (h.works q hq) (by decide))).other _ _ (fun e=>by
   have h1:=h.works q hq;rw[show q.blk=bt from e]at h1
   have:=h1.symm.trans h.at_
   injection this with this;injection this with _ h2 _
   exact absurd h2 (by decide))
  have dN:Keep (BkT bt vw va) w (w1.setCell ⟨bt,3,none⟩ v1):=(dD.mono (fun y e=>.inr (.inr e))).setCell (p:=⟨bt,3,none⟩) (.inl rfl) _;have cB:=quz (p:=p) dA gl (by omega);obtain⟨a1,c1,cR,cS,eE⟩:=qa6 fW;rw[show(w1.setCell ⟨bt,3,none⟩ v1).heap.size=w1.heap.size by simp]at cB;have aK:∀a n cap w',n=ws.length+1->w'.ownsRow 0 95 1 (.slice a n cap) n (qa0 (p::ws))->Blk w' bt 102 #[r,ai,vw,v1]->Keep (fun b=>vw.ownBlock=some b) (w1.setCell ⟨bt,3,none⟩ v1) w'->(∀b,(Value.slice a n cap).ownBlock=some b->vw.ownBlock=some b\/w1.heap.size<=b)->∃aI aO,BkAt (w'.setCell ⟨bt,2,none⟩ (.slice a n cap)) bt r ai aI aO (p::ws) (as_.take i'++as_.drop (i'+1))/\Keep (BkT bt vw va) w (w'.setCell ⟨bt,2,none⟩ (.slice a n cap))/\(∀b,aI.ownBlock=some b\/aO.ownBlock=some b->vw.ownBlock=some b\/va.ownBlock=some b\/w.heap.size<=b):=by
   intro a n cap w' gu aS bh og dp;subst gu;have aN:((p::ws)++(as_.take i'++as_.drop (i'+1))).Perm (ws++as_):=by
    have h1:=(qce hi).append_left ws
    refine List.Perm.trans ?_ h1.symm
    exact(List.perm_middle (a:=p) (l₁ := ws)).symm
   have af:∀q,q∈(p::ws)++(as_.take i'++as_.drop (i'+1))->q∈ws++as_:=fun q hq=>aN.mem_iff.1 hq
   have cd:(Value.slice a (ws.length+1) cap).ownBlock≠some bt:=fun e=>by
    rcases dp _ e with e2|e2
    ·exact dJ e2
    ·have:=cM.lt;omega
   have p6:v1.ownBlock≠some bt:=by rw[bO];exact dO
   have hz:(w1.setCell ⟨bt,3,none⟩ v1).heap.size=w1.heap.size:=by simp
   refine⟨.slice a (ws.length+1) cap,v1,⟨?_,?_,?_,?_,?_,?_,?_,?_⟩,?_,?_⟩
   ·have:=bh.set 2 (.slice a (ws.length+1) cap)
    simpa using this
   ·exact xrl aS cd _
   ·exact xrl (qaf fW og (fun g hg e=>h.sep g e (by rw[<-bO];exact hg))) (fun e=>p6 e) _
   ·intro q hq;have h1:=fL q (af q hq)
    exact(h1.keep og (qah gl h1 (by decide))).other _ _ (fun e=>by
     have h2:=fL q (af q hq);rw[show q.blk=bt from e]at h2
     have:=h2.symm.trans dA
     injection this with this;injection this with _ h3 _
     exact absurd h3 (by decide))
   ·intro b aa e
    rcases dp _ aa with e2|e2
    ·exact h.sep _ e2 (by rw[<-bO];exact e)
    ·have:=qap fW e;omega
   ·exact aN.nodup_iff.2 h.nd
   ·exact fun a ha b hb e=>h.inj a (af a ha) b (af b hb) e
   ·have:=aN.length_eq
    simp only[List.length_append]at this ⊢
    omega
   ·exact((dN.qbm og (fun b _ e=>.inr (.inl e)))).setCell (p:=⟨bt,2,none⟩) (.inl rfl) _
   ·rintro b (e|e)
    ·rcases dp _ e with e2|e2
     ·exact .inl e2
     ·exact .inr (.inr (Nat.le_trans dD.size e2))
    ·exact .inr (.inl (by rw[<-bO];exact e))
  clear h dt fW fL dN;generalize qa0 (p::ws)=pp at cB aK;have sq:∃n1,v1=.slice a1 n1 c1:=⟨_,cR⟩;clear cR cS eE;obtain⟨n1,rfl⟩:=sq;clear gk;unfold nptr at cB
  go_wp2_with fail
  refine cB.mono ?_
  rintro e w2 ⟨a2,n2,q2,rfl,dR,R2,ag,aY,Cf⟩
  have f2:=ag.frozen 2;have fw:=ag.cell 2;simp only[xq0,xq1,xq2]at fw;have hp:=aK _ _ _ _ dR R2 ag aY Cf;clear aK dR
  go_wp2_with fail
  go_end0
  exact⟨rfl,hp⟩
def qgd (l:List Pw)(num:Int):Option Pw:=l.find? fun p=>p.x.num == num
def optP:Option Pw->Value
 |none=>.pointer none
 |some p=>nptr p.blk
theorem qu5{q:Pw}(hk:l[k]?=some q)(hq:(q.x.num == num)=true)(ay:∀j y,j<k->l[j]?=some y->(y.x.num == num)=false):qgd l num=some q:=by
 unfold qgd;rw[List.find?_eq_some_iff_getElem];obtain⟨ak,he⟩:=xr0.1 hk
 refine⟨hq,k,ak,he,fun j hj=>?_⟩
 simpa using ay j _ hj (xr1 (by omega))
theorem qqi(ay:∀j y,j<l.length->l[j]?=some y->(y.x.num == num)=false):qgd l num=none:=by
 unfold qgd;rw[List.find?_eq_none];intro y hy;obtain⟨j,hj⟩:=xre hy
 have:=ay j y (xr0.1 hj).1 hj
 simpa using this
theorem qj7(h:WRow w v l)(hl:l.length<=100)(num:Int):
  Calls prog 77 #[v,.int .i64 num] w fun e w'=>e=.returned (optP (qgd l num))/\w'=w:=by
 obtain⟨a0,cy,hv,dn,ia⟩:=h.form;have bJ:=fun i q (hi:l[i]?=some q)=>h.at_ hi
 have ef:=fun q (hq:q∈l)=>(h.works q hq).cell 0
 obtain⟨n,hn⟩:∃n,n=l.length:=⟨_,rfl⟩;rw[<-hn]at hv bJ hl dn;have HN:Hid (n=l.length):=hn;clear hn;subst hv
 go_enter func77,ntmps77
 go_wp2
 go_loop [9] (fun i=>∃k:Nat,k<=n/\i=.int .i64 k/\∀j q,j<k->l[j]?=some q->(q.x.num == num)=false) (fun i=>n-(intOf i).toNat)
 case atStart=>exact⟨0,Nat.zero_le _,rfl,fun j q hj=>by omega⟩
 case round =>
  obtain⟨k,hk,rfl,ay⟩:=hrel;have my:Hid (∀j q,j<k->l[j]?=some q->(q.x.num == num)=false):=ay;clear ay
  by_cases ak:k<n
  ·obtain⟨q,hq⟩:∃q,l[k]?=some q:=⟨_,xr1 (by rw[<-HN.out];exact ak)⟩;obtain⟨g,cap,he,bK,cS,fl,hc⟩:=bJ k q hq;injection he with e1 _ e3;subst e1 e3;have ib:=xr2 hq;have hw:=ef q ib;unfold Pw.cells at hw;simp only[List.getElem?_toArray,List.getElem?_cons_zero]at hw;have HQ:Hid (l[k]?=some q):=hq;have ja:(k:Int)<n:=by omega
   have eM:(0:Int)<=k:=by omega
   unfold nptr at hc;clear hq bJ ef
   by_cases jo:q.x.num=num
   ·have HF:Hid (qgd l num=some q):=qu5 HQ.out (by simp[jo]) my.out
    go_wp2
    go_ret
    exact⟨by rw[HF.out];rfl,rfl⟩
   ·have HB:Hid ((q.x.num == num)=false):=by simp[Hid,jo]
    go_wp2
    go_round
    case rel =>
     refine⟨k+1,by omega,by go_num,fun j y hj hy=>?_⟩
     rcases Nat.lt_or_ge j k with h1|h1
     ·exact my.out j y h1 hy
     ·obtain rfl:j=k:=by omega
      rw[HQ.out]at hy;cases hy
      exact HB.out
    case measure=>simp[intOf];omega
  ·have HF:Hid (qgd l num=none):=qqi (fun j y hj hy=>my.out j y (by have:=HN.out;omega) hy)
   go_wp2
   go_ret
   exact⟨by rw[HF.out];rfl,rfl⟩
theorem qhh{x:Pw}:(binOp .neq 95 (.pointer (some ⟨x.blk,0,none⟩)) (.pointer none)).run prog W=.ok (.bool true) W:=by
 kernel_rfl
theorem qet:(binOp .neq 95 (.pointer none) (.pointer none)).run prog W=.ok (.bool false) W:=by
 kernel_rfl
def qgr (ws as_:List Pw)(num:Int):Value×Bool :=
 match qgd as_ num with
 |some p=>(nptr p.blk,true)
 |none=>(optP (qgd ws num),false)
theorem qmf{r:Value}(h:BkAt w bt r ai vw va ws as_)(num:Int):
  Calls prog 46 #[.pointer (some ⟨bt,1,none⟩),.int .i64 num] w fun e w'=>e=.returned (.tuple #[(qgr ws as_ num).1,.bool (qgr ws as_ num).2])/\w'=w:=by
 have a9:=h.len;have ha:=qj7 ⟨h.arow,fun q hq=>h.works q (xra _ hq)⟩ (by omega) num;have hw:=qj7 ⟨h.wrow,fun q hq=>h.works q (xr9 _ hq)⟩ (by omega) num;have c2:=h.at_.cell 2;have c3:=h.at_.cell 3;simp only[xq0,xq1,xq2]at c2 c3;have dH:=fun W x=>qhh (W:=W) (x:=x)
 have gu:=fun W=>qet (W:=W)
 unfold qgr
 go_enter func46,ntmps46
 cases hf:qgd as_ num with
 |some p =>
  rw[hf]at ha;simp only[optP,nptr]at ha ⊢;clear hf hw
  go_wp2_with fail
  refine ha.mono ?_
  rintro e w1 ⟨rfl,rfl⟩
  go_wp2_with fail
  exact xrn (v:=.tuple #[.pointer (some ⟨p.blk,0,none⟩),.bool true]) (by simp[results,results46,go_sem]) rfl ⟨rfl,rfl⟩
 |none =>
  rw[hf]at ha;simp only[optP]at ha
  simp only
  generalize optP (qgd ws num)=o at hw ⊢;clear hf
  go_wp2_with fail
  refine ha.mono ?_
  rintro e w1 ⟨rfl,rfl⟩
  go_wp2_with fail
  refine hw.mono ?_
  rintro e w2 ⟨rfl,rfl⟩
  go_wp2_with fail
  exact xrn (v:=.tuple #[o,.bool false]) (by simp[results,results46,go_sem]) rfl ⟨rfl,rfl⟩
theorem qp9{r:Value}(h:BkAt w bt r ai vw va ws as_):
  Calls prog 148 #[.pointer (some ⟨bt,1,none⟩)] w fun e w'=>e=.returned (.int .i64 (ws.length+as_.length:Nat))/\∃m,w'=w.drewN m:=by
 have a9:=h.len;obtain⟨a1,q1,h1,l1,x1⟩:=qa6 h.wrow;obtain⟨a2,q2,h2,l2,x2⟩:=qa6 h.arow;have c2:=h.at_.cell 2;have c3:=h.at_.cell 3;simp only[xq0,xq1,xq2]at c2 c3;rw[h1]at c2;rw[h2]at c3;clear h1 h2 h;generalize ws.length=n1 at *;generalize as_.length=n2 at *
 go_enter func148,ntmps148
 go_wp2_with fail
 go_quiet (fail)
 go_wp2_with fail
 go_ret
 exact⟨by simp,_,rfl⟩
end Go.Proofs.YtphclnolomgjoaaGreatDoor
