import Derived.Test.YtphclnolomgjoaaGreatDoorE09
import Derived.Sort.CutIn
import Derived.Stop.RegionWithIn
import Derived.OrdersIn
set_option linter.unusedVariables false
set_option linter.unusedSimpArgs false
set_option maxRecDepth 100000
set_option maxHeartbeats 4000000
namespace Go.Proofs.YtphclnolomgjoaaGreatDoor
open Tryz
section
open Go.RowKit
variable {bt i n size:Nat}{W w:World}{e:TypeId}{r v va vw:Value}{xs:List Value}{l ws zh:List Pw}{p:Pw}{zm:Int}
theorem iT:(prog.info? 95).map (fun i=>(i.zero,i.size,i.bytes))=some (some (.pointer none),1,8):=k_
theorem bN:(prog.info? 95).map (·.size)=some 1:=k_
theorem m8(sl:Value)(n i:Nat)(xs:List Value)(v:Value)(w:World)(U:n<=1000)(G:v.oneCell'=true)(d:w.ownsRow 0 95 1 sl n xs)(M:zg w i 95 #[v]):
  Calls prog 232 #[sl,vI n,vS i 1 1] w fun e w' =>
   ∃s,e=vR s/\w'.ownsRow 0 95 1 s (n+1) (xs++[v])/\w.grownBy w' sl.ownBlock/\(s.ownBlock=sl.ownBlock\/∃g,s.ownBlock=some g/\w.heap.size<=g):=by
 obtain⟨i0,y,I,o,E⟩:=info_parts iT;have K:=M.cell 0;simp only[List.getElem?_toArray,List.getElem?_cons_zero]at K;have r:∀j u,[v][j]?=some u->w.cell? (((vA i 0):Addr).add j)=some u:=fun j u z=>by
  cases j with
  |zero=>simp at z;subst z;exact K
  |succ j=>simp at z
 have zb:∃b w',(∀q,(Builtin.append_ #[98,98] q #[sl,vS i 1 1]).run prog w=.ok b w')/\w'.ownsRow 0 95 1 b (n+1) (xs++[v])/\w.grownBy w' sl.ownBlock/\(b.ownBlock=sl.ownBlock\/∃g,b.ownBlock=some g/\w.heap.size<=g):=by
  have C:∀ {b:Value} {w':World},w'.ownsRow w.heap.size 95 1 b (n+1) (xs++[v])->w'.ownsRow 0 95 1 b (n+1) (xs++[v])/\∃g,b.ownBlock=some g/\w.heap.size<=g:=fun {b w'} h=>by
   obtain⟨t,x⟩:=h
   rcases x with ⟨_,T⟩|⟨g,cap,l,rfl,hb,rest⟩
   ·omega
   ·exact⟨⟨t,.inr ⟨g,cap,l,rfl,Nat.zero_le _,rest⟩⟩,g,rfl,hb⟩
  rcases d.2 with ⟨rfl,rfl⟩|⟨g,cap,l,rfl,_,J,V,R,D,ht⟩
  ·have Q:xs=[]:=List.eq_nil_of_length_eq_zero (j_ d.1);subst Q;obtain⟨b,w',f,m,c,_⟩:=run_append_own (P:=prog) w w.heap.size 98 0 95 i0 _ 1 8 underlying98 y I o E rfl d_ v0_ 0 [] (Vx w _ 95 1) (vA i 0) 1 1 [v] rfl r (by simp[G]) (by unfold maxLen;omega) o_ (Nat.le_refl _);have p:=C (j_ m)
   exact⟨b,w',fun q=>f,p.1,c,.inr p.2⟩
  ·by_cases B:n+1<=cap
   ·have f:=fun q=>run_append_room (P:=prog) w 98 q 95 i0 underlying98 y g n cap l J (vA i 0) 1 1 [v] (by rw[o];rfl) r (by simp[G]) B (by rw[o];simp;omega)
    rw[o]at f;simp only[Nat.mul_one]at f ht D
    refine⟨_,_,f,⟨by simp[d.1],.inr ⟨g,cap,_,rfl,Nat.zero_le _,setRow_heap w g l _ 95 _ J,B,R,?_,?_⟩⟩,⟨rfl,rfl,rfl,s_,fun k _ A=>setRow_other w g k _ (fun e=>A (by simp[Value.ownBlock,e]))⟩,.inl rfl⟩
    ·simp[D];omega
    ·have:xs.length=n:=by simpa using d.1
     rw[Nat.mul_one,List.toList_toArray,ht,List.take_append_of_le_length t_,Vl t_]
   ·obtain⟨b,w',f,m,c⟩:=run_append_arg_grows (P:=prog) w 98 0 95 i0 _ 1 8 underlying98 y I o E rfl d_ (vA g 0) n cap xs d.1 (d.cells (g:=g) rfl) (vA i 0) 1 1 [v] rfl r o_ (by unfold maxLen;omega) o_;have p:=C m
    exact⟨b,w',fun q=>f,p.1,⟨c.os,c.tape,c.output,c.size,fun k A _=>c.block k A s_⟩,.inr p.2⟩
 obtain⟨b,w',L,m,c,H⟩:=zb;obtain⟨ao,cap,O,F⟩:∃ao cap,sl=.slice ao n cap/\n<=cap/\cap<=maxLen:=by
  rcases d.2 with ⟨rfl,rfl⟩|⟨g,cap,l,rfl,_,_,t,x,_⟩
  ·exact⟨none,0,rfl,Nat.le_refl _,Nat.zero_le _⟩
  ·exact⟨_,_,rfl,t,x⟩
 obtain⟨F,N⟩:=F;unfold maxLen at N;subst O;have S:ao=none->n=0/\cap=0:=fun e=>by
  subst e
  rcases d.2 with ⟨h,rfl⟩|⟨g,cap',l,h,_⟩
  ·injection h with _ _ h3;exact⟨rfl,h3⟩
  ·cases h
 clear d r
 go_enter func232,ntmps232
 cases ao with
 |none =>
  obtain⟨rfl,rfl⟩:=S rfl
  go_wp2_with (at_builtin;refine Lib.wpList_append_run _ rfl _ _ _ _ rfl _ _ rfl rfl _ _ (L _) ?_)
  all_goals (go_ret;exact⟨_,rfl,m,c,H⟩)
 |some a =>
  go_wp2_with (at_builtin;refine Lib.wpList_append_run _ rfl _ _ _ _ rfl _ _ rfl rfl _ _ (L _) ?_)
  all_goals (go_ret;exact⟨_,rfl,m,c,H⟩)
theorem mB(g n c i l:Nat)(a:Array Value)(v:Value)(w:World)(la:i<n)(ha:n+1<=c)(U:c<=maxLen)(s:w.heap[g]?=some (.cells a 95 (0,0)))(y:a.size=c)
  (L:v.oneCell'=true) (S:∀u∈a.toList.take n,u.oneCell'=true) (r:zg w l 95 #[v]) (B:l≠g) :
  Calls prog 232 #[vS g n c,vI i,vS l 1 1] w fun e w' =>
   e=vR (vS g (n+1) c)/\(∃R:Array Value,w'.heap[g]?=some (.cells R 95 (0,0))/\R.size=c/\R.toList.take (n+1)=(a.toList.take n).take i++v::(a.toList.take n).drop i)/\zd (fun b=>b=g) w w':=by
 unfold maxLen at U;have ka:¬((i:Int)=(n:Int)):=o_;have P:w.shape? l=some (95,1):=by unfold World.shape?;rw[show w.heap[l]?=_ from r];rfl
 have J:w.shape? g=some (95,c):=by unfold World.shape?;rw[s];simp[y]
 have Z:∀lb x,(callFunc 241 #[vS l 1 1,.slice (some (vA g (i+1))) lb x]).run prog w=.ok (.value (.bool false)) w:=fun lb x=>by
  rw[run_callFunc_extern func241 k_ k_ k_ (e:=Extern.SlicesOverlaps.overlaps #[98,98] #[4]) k_,
   Lib.run_overlaps_apart w 98 4 95 underlying98 1 sizeOf97 (vA l 0) (vA g (i+1)) 1 1 lb x B 95 95 1 c P J o_ (r.frozen 0) (r.frozen 1)]
  rfl
 have cell:∀j u,a[j]?=some u->w.cell? (vA g j)=some u:=fun j u h=>by unfold World.cell?;simp only[s];simpa using h
 obtain⟨f,q⟩:∃f,f=(a.toList.take n).drop i:=⟨_,rfl⟩;have p:f.length=n-i:=by rw[q];simp;omega
 have E:∀o dc z,(Builtin.copy_ #[98,98] o #[.slice (some (vA g (i+1))) (n-i) dc,.slice (some (vA g i)) (n+1-i) z]).run prog w.drew=.ok (goInt f.length) (w.drew.setRow g (a.toList.take (i+1)++f++a.toList.drop (i+1+f.length)).toArray):=fun o dc z =>
  run_copy_row prog w.drew 98 98 o 95 g (i+1) (n-i) dc (vA g i) (n+1-i) z a 95 f underlying98 bN s (by rw[p];simp only[Nat.min_def];split<;>omega)
   (fun j u m=>by
    rw[Addr.add_lit]
    refine cell _ _ ?_
    rw[q,List.getElem?_drop,List.getElem?_take]at m
    split at m
    ·simpa using m
    ·cases m) (by rw[p,y];omega) (fun u G=>S u (by rw[q]at G;exact List.mem_of_mem_drop G))
 obtain⟨d,t⟩:∃d,d=(a.toList.take (i+1)++f++a.toList.drop (i+1+f.length)).toArray:=⟨_,rfl⟩;rw[<-t]at E;have I:d.size=c:=by rw[t];simp[p,y];omega
 have H:(w.drew.setRow g d).heap[g]?=some (.cells d 95 (0,0)):=setRow_heap w.drew g a d 95 (0,0) s;have V:w.cell? (vA l 0)=some v:=by have:=r.cell 0;simpa using this
 have Q:∀(W:World),W.heap[g]?=some (.cells d 95 (0,0))->W.cell? (vA l 0)=some v->∀o dc,(Builtin.copy_ #[98,98] o #[.slice (some (vA g i)) (n+1-i) dc,vS l 1 1]).run prog W=.ok (goInt 1) (W.setRow g (d.toList.take i++[v]++d.toList.drop (i+1)).toArray):=fun W X aa o dc =>
  run_copy_row prog W 98 98 o 95 g i (n+1-i) dc (vA l 0) 1 1 d 95 [v] underlying98 bN X (by simp only[Nat.min_def,List.length_singleton];split<;>omega)
   (fun j u m=>by cases j with|zero=>(simp at m;subst m;exact aa)|succ j=>simp at m) (by rw[I];simp;omega) (by simp[L])
 have T:∀j u,w.cell? (vA l j)=some u->(w.drew.setRow g d).cell? (vA l j)=some u:=fun j u h=>by rw[cell_setRow_other _ _ _ _ B];exact h
 have ia:IntKind.i64.wrap ((i:Int)+1)=(i:Int)+1:=by rw[IntKind.wrap_i64];omega
 have ja:i<=n:=o_;have ba:((i:Int)+1).toNat=i+1:=o_;have da:(0:Int)<=(i:Int)+1:=o_;have ea:¬(c=i+1):=o_;have ga:(i:Int)<=(n:Int)+1:=o_;have ca:¬(c=i):=o_;have K:Hid (f=(a.toList.take n).drop i):=q;have Y:Hid (d=(a.toList.take (i+1)++f++a.toList.drop (i+1+f.length)).toArray):=t;have A:Hid (f.length=n-i):=p;clear q t p
 go_enter func232,ntmps232
 go_wp2_with (simp only[Z])
 go_region_law (refine gj rfl _ _ 98 98 rfl _ _ (by simp[Act.eval,Act.put]) (by simp[Act.eval,Act.put]) (E _ _ _) ?_)
 go_wp2_with (at_builtin;refine fH _ rfl _ _ 98 98 rfl _ _ rfl rfl (Q _ H (T _ _ V) _ _) ?_)
 go_ret
 refine⟨rfl,⟨(d.toList.take i++v::d.toList.drop (i+1)).toArray,setRow_heap _ g d _ 95 (0,0) H,by simp[I];omega,?_⟩,?_⟩
 ·have D:d.toList=a.toList.take (i+1)++f++a.toList.drop (n+1):=by rw[Y.out,A.out,show i+1+(n-i)=n+1 by omega]
  have M:d.toList.take i=a.toList.take i:=by rw[D,List.append_assoc,List.take_append_of_le_length t_,List.take_take,Nat.min_eq_left o_]
  have N:d.toList.drop (i+1)=f++a.toList.drop (n+1):=by rw[D,List.append_assoc,List.drop_append_of_le_length t_,List.drop_of_length_le t_];rfl
  have O:(a.toList.take n).take i=a.toList.take i:=by rw[List.take_take,Nat.min_eq_left o_]
  rw[List.toList_toArray,M,N,O,<- K.out];have C:(a.toList.take i).length=i:=by simp;omega
  rw[show a.toList.take i++v::(f++a.toList.drop (n+1))=(a.toList.take i++v::f)++a.toList.drop (n+1) by simp];rw[List.take_append_of_le_length (by simp[C,A.out];omega),Vl (by simp[C,A.out];omega)]
 ·exact⟨rfl,rfl,rfl,s_,fun k ma F=>by rw[setRow_other _ _ _ _ F,setRow_other _ _ _ _ F];rfl⟩
theorem mQ(g n c i o:Nat)(q:Array Value)(v:Value)(w:World)(Ua:i<n)(Ra:n<=1000)(Va:n<=c)(ia:c<n+1)(X:w.heap[g]?=some (.cells q 95 (0,0)))(Sa:q.size=c)
  (ja:v.oneCell'=true) (D:∀u∈q.toList.take n,u.oneCell'=true) (Q:zg w o 95 #[v]) :
  Calls prog 232 #[vS g n c,vI i,vS o 1 1] w fun e w' =>
   ∃G,n+1<=G/\G<=maxLen/\e=vR (vS w.heap.size (n+1) G)/\(∃R:Array Value,w'.heap[w.heap.size]?=some (.cells R 95 (0,0))/\R.size=G/\R.toList.take (n+1)=(q.toList.take n).take i++v::(q.toList.take n).drop i)/\Bw w w':=by
 obtain⟨i0,ua,oa,Aa,M⟩:=info_parts iT;obtain⟨xs,t⟩:∃xs,xs=q.toList.take n:=⟨_,rfl⟩;rw[<-t]at D;have qa:xs.length=n:=by rw[t];simp;omega
 have Ta:¬((i:Int)=(n:Int)):=o_;have Wa:(c:Int)<(n:Int)+1:=o_;have Ca:g<w.heap.size:=(Vz.1 X).1;have ta:o<w.heap.size:=Q.lt;have cell:∀j u,xs[j]?=some u->w.cell? (vA g j)=some u:=fun j u h=>by
  unfold World.cell?;simp only[X];rw[t,List.getElem?_take]at h
  split at h
  ·simpa using h
  ·cases h
 have ra:w.cell? (vA o 0)=some v:=by have:=Q.cell 0;simpa using this
 have ba:(n:Int)+1-(i:Int)=((n+1-i:Nat):Int):=o_;have J:i+(n+1-i)=n+1:=o_;have aa:(Builtin.firstCells i0.size i (vS g i c)).run prog w.drew=.ok (xs.take i).toArray w.drew:=by
  rw[Aa]
  exact run_firstCells_some w.drew 1 i (vA g 0) i c (xs.take i) (by rw[List.length_take];omega) (fun j u f=>by
   rw[Addr.add_lit,Nat.zero_add];rw[List.getElem?_take]at f
   split at f
   ·exact cell j u f
   ·cases f)
 obtain⟨G,z⟩:∃G,G=grownCap w (n+1) c 95:=⟨_,rfl⟩;obtain⟨d,C⟩:∃d:Array Value,d=(xs.take i).toArray++Builtin.zeroCells (Value.pointer none).cells (n+1-i)++Builtin.zeroCells (Value.pointer none).cells (G-(n+1)):=⟨_,rfl⟩;have L:∀l,(Builtin.append_ #[98,3] l #[vS g i c,vI ((n:Int)+1-(i:Int))]).run prog w =
   .ok (vS w.heap.size (n+1) G) (w.drew.alloc (.cells d 95)):=fun l=>by
  have h:=Lib.run_append_grow_zeros w 98 3 l 95 i0 _ .i64 .i64 underlying98 underlying3 ua oa (some (vA g 0)) i c (xs.take i) aa (n+1-i) o_ o_ o_ o_ (by rw[M];omega) (by rw[M,J];exact growslice_fits ia o_);rw[J,<- z,<- C]at h;rw[ba]
  exact h
 have ea:n+1<=G:=by rw[z];exact grownCap_ge w _ _ _
 have da:G<=maxLen:=by rw[z];exact grownCap_le_maxLen w (n+1) c 95 (by unfold maxLen;omega)
 have I:d.size=G:=by
  rw[C];simp[Builtin.zeroCells,Value.cells];omega
 have ca:d.toList.take i=xs.take i:=by
  rw[C];simp only[Array.toList_append,List.append_assoc,List.toList_toArray];rw[List.take_append_of_le_length t_,Vl t_]
 obtain⟨b,r⟩:∃b,b=w.drew.alloc (.cells d 95):=⟨_,rfl⟩;rw[<-r]at L;have Fa:b.heap.size=w.heap.size+1:=by rw[r];simp
 have V:b.heap[w.heap.size]?=some (.cells d 95 (0,0)):=by rw[r];exact heap_alloc_new w.drew _
 have A:∀k,k<w.heap.size->b.heap[k]?=w.heap[k]?:=fun k Y=>by rw[r];exact Below.heap_alloc w.drew _ k Y
 have sa:Bw w b:=by rw[r];exact(Below.refl _ w).drew.alloc (Nat.le_refl _) _
 have S:∀(W:World),W.heap[w.heap.size]?=some (.cells d 95 (0,0))->W.cell? (vA o 0)=some v->∀l dc,(Builtin.copy_ #[98,98] l #[.slice (some (vA w.heap.size i)) (n+1-i) dc,vS o 1 1]).run prog W=.ok (goInt 1) (W.setRow w.heap.size (d.toList.take i++[v]++d.toList.drop (i+1)).toArray):=fun W F Da l dc =>
  run_copy_row prog W 98 98 l 95 w.heap.size i (n+1-i) dc (vA o 0) 1 1 d 95 [v] underlying98 bN F (by simp only[Nat.min_def,List.length_singleton];split<;>omega)
   (fun j u f=>by cases j with|zero=>(simp at f;subst f;exact Da)|succ j=>simp at f) (by rw[I];simp;omega) (by simp[ja])
 obtain⟨a,y⟩:∃a,a=(d.toList.take i++[v]++d.toList.drop (i+1)).toArray:=⟨_,rfl⟩;rw[<-y]at S;have E:a.size=G:=by rw[y];simp[I];omega
 obtain⟨N,pa⟩:∃N,N=b.setRow w.heap.size a:=⟨_,rfl⟩;obtain⟨m,s⟩:∃m,m=xs.drop i:=⟨_,rfl⟩;have x:m.length=n-i:=by rw[s];simp;omega
 have U:∀(W:World),W.heap[w.heap.size]?=some (.cells a 95 (0,0))->(∀j,W.cell? (vA g j)=w.cell? (vA g j))->∀l dc H,(Builtin.copy_ #[98,98] l #[.slice (some (vA w.heap.size (i+1))) (n-i) dc,.slice (some (vA g i)) (n-i) H]).run prog W=.ok (goInt m.length) (W.setRow w.heap.size (a.toList.take (i+1)++m++a.toList.drop (i+1+m.length)).toArray):=fun W F ga l dc H =>
  run_copy_row prog W 98 98 l 95 w.heap.size (i+1) (n-i) dc (vA g i) (n-i) H a 95 m underlying98 bN F (by rw[x];simp)
   (fun j u f=>by
    rw[Addr.add_lit,ga];rw[s,List.getElem?_drop]at f
    exact cell _ _ f) (by rw[x,E];omega) (fun u Z=>D u (by rw[s]at Z;exact List.mem_of_mem_drop Z))
 obtain⟨p,B⟩:∃p,p=(a.toList.take (i+1)++m++a.toList.drop (i+1+m.length)).toArray:=⟨_,rfl⟩;rw[<-B]at U;have T:(b.setRow w.heap.size a).heap[w.heap.size]?=some (.cells a 95 (0,0)):=setRow_heap b _ d a 95 (0,0) V;have K:∀j,b.cell? (vA g j)=w.cell? (vA g j):=fun j=>World.cell?_of_block (A g Ca)
 have Ea:∀j,(b.setRow w.heap.size a).cell? (vA g j)=w.cell? (vA g j):=fun j=>by rw[cell_setRow_other _ _ _ _ t_];exact K j
 have ha:b.cell? (vA o 0)=some v:=(World.cell?_of_block (A o ta)).trans ra;have O:p.size=G/\p.toList.take (n+1)=xs.take i++v::xs.drop i:=by
  refine⟨by rw[B];simp[x,E];omega,?_⟩
  have ma:(xs.take i).length=i:=by simp;omega
  have ka:a.toList=xs.take i++v::d.toList.drop (i+1):=by rw[y,ca];simp
  have la:a.toList.take (i+1)=xs.take i++[v]:=by
   rw[ka,List.take_append,ma,show i+1-i=1 by omega,Vl o_];simp
  rw[B,List.toList_toArray,la,s];rw[show xs.take i++[v]++xs.drop i=xs.take i++v::xs.drop i by simp];rw[List.take_append_of_le_length t_,Vl t_]
 have na:=da;unfold maxLen at na;have Ma:¬(G=i):=o_;have Ia:¬(G=i+1):=o_;have Xa:¬(c=i):=o_;have Pa:IntKind.i64.wrap ((i:Int)+1)=(i:Int)+1:=by rw[IntKind.wrap_i64];omega
 have Na:(0:Int)<=(i:Int)+1:=o_;have Qa:i<=n:=o_;have Ga:((i:Int)+1).toNat=i+1:=o_;have Oa:(i:Int)<=(n:Int):=o_;have Ba:Hid (xs=q.toList.take n):=t;have Ja:Hid (b=w.drew.alloc (.cells d 95)):=r;have P:Hid (p.size=G/\p.toList.take (n+1)=xs.take i++v::xs.drop i):=O;have Ha:Hid (∀k,k<w.heap.size->b.heap[k]?=w.heap[k]?):=A;have Ka:=S b V ha;have La:=U (b.setRow w.heap.size a).drew T Ea;clear ba J aa C z I ca y B pa s x t qa E r O K A D cell
 go_enter func232,ntmps232
 go_wp2_with (at_builtin;refine Lib.wpList_append_run _ rfl _ _ _ _ rfl _ _ rfl rfl _ _ (L _) ?_)
 go_region
 go_wp2
 go_ret
 refine⟨G,ea,da,rfl,⟨p,setRow_heap (b.setRow w.heap.size a).drew _ a _ 95 (0,0) T,P.out.1,by rw[<-Ba.out];exact P.out.2⟩,?_⟩
 refine sa.trans ⟨rfl,rfl,rfl,s_,fun k Y=>?_⟩
 rw[setRow_other _ _ _ _ o_]
 exact setRow_other _ _ _ _ o_
theorem mZ(sl:Value)(n i c:Nat)(xs:List Value)(v:Value)(w:World)(x:n<=1000)(K:i<=n)(l:v.oneCell'=true)(E:∀u∈xs,u.oneCell'=true)(f:w.ownsRow 0 95 1 sl n xs)(m:zg w c 95 #[v])(A:sl.ownBlock≠some c):
  Calls prog 232 #[sl,vI i,vS c 1 1] w fun e w' =>
   ∃a,e=vR a/\w'.ownsRow 0 95 1 a (n+1) (xs.take i++v::xs.drop i)/\zd (fun b=>sl.ownBlock=some b) w w'/\(a.ownBlock=sl.ownBlock\/∃g,a.ownBlock=some g/\w.heap.size<=g):=by
 have M:xs.length=n:=by have:=f.1;omega
 rcases Nat.lt_or_ge i n with r|L
 ·rcases f.2 with ⟨rfl,rfl⟩|⟨g,cap,d,rfl,_,t,I,y,j,ht⟩
  ·omega
  ·simp only[Nat.mul_one]at j ht;have q:∀u∈d.toList.take n,u.oneCell'=true:=by rw[ht];exact E
   by_cases s:n+1<=cap
   ·refine(mB g n cap i c d v w r s y t j l q m (fun e=>A (by rw[e];rfl))).mono ?_
    rintro e w' ⟨rfl,⟨R,o,z,p⟩,F⟩
    refine⟨_,rfl,⟨by simp;omega,.inr ⟨g,cap,R,rfl,Nat.zero_le _,o,s,y,o_,by rw[Nat.mul_one,p,ht]⟩⟩,F.mono (fun b hb=>by rw[hb];rfl),.inl rfl⟩
   ·refine(mQ g n cap i c d v w r x I o_ t j l q m).mono ?_
    rintro e w' ⟨G,J,H,rfl,⟨R,o,z,p⟩,hb⟩
    refine⟨_,rfl,⟨by simp;omega,.inr ⟨w.heap.size,G,R,rfl,Nat.zero_le _,o,J,H,o_,by rw[Nat.mul_one,p,ht]⟩⟩,zd.new hb,.inr ⟨w.heap.size,rfl,Nat.le_refl _⟩⟩
 ·obtain rfl:i=n:=o_
  refine(m8 sl i c xs v w x l f m).mono ?_
  rintro e w' ⟨a,rfl,D,C,B⟩
  refine⟨a,rfl,?_,(zd.refl _ _).grown C (fun k h=>h),B⟩
  rw[Vl o_,List.drop_of_length_le o_];exact D
theorem Zv{α : Type}{l:List α}{x : α}(a:l[i]?=some x):l=l.take i++x::l.drop (i+1):=by
 obtain⟨b,rfl⟩:=Uy.1 a
 simp
structure xh (W:World) (bt:Nat) (r zw vw va:Value) (ws zh:List Pw):Prop where
 zl:zg W bt 102 #[r,zw,vw,va]
 yc:W.ownsRow 0 95 1 vw ws.length (UN ws)
 yr:W.ownsRow 0 95 1 va zh.length (UN zh)
 zu:∀p∈ws++zh,zg W p.ze 105 p.cells
 sep:∀b,vw.ownBlock=some b->va.ownBlock≠some b
 nd:(ws++zh).Nodup
 inj:∀a∈ws++zh,∀b∈ws++zh,a.ze=b.ze->a=b
 len:ws.length+zh.length<=24
def wz (bt:Nat)(vw va:Value)(y:Nat):Prop:=y=bt\/vw.ownBlock=some y\/va.ownBlock=some y
theorem XI{α : Type}{l:List α}{x : α}(h:x∈l.take i++l.drop (i+1)):x∈l:=by
 rcases UU.1 h with a|a
 ·exact List.mem_of_mem_take a
 ·exact List.mem_of_mem_drop a
theorem YW{α : Type}{l:List α}{x : α}(a:l[i]?=some x):l.Perm (x::(l.take i++l.drop (i+1))):=by
 have h:=Zv a
 conv=>lhs;rw[h]
 exact List.perm_middle
theorem Wr(h:W.ownsRow 0 e size v n xs):∃a cap,v=.slice a n cap/\n<=cap/\cap<=maxLen:=by
 rcases h.2 with ⟨rfl,b⟩|⟨g,cap,f,rfl,_,_,c,d,_⟩
 ·exact⟨none,0,by rw[b],o_,Nat.zero_le _⟩
 ·exact⟨_,cap,rfl,c,d⟩
theorem qm{zw:Value}(d:zg W bt 102 #[r,zw,vw,va])(f:W.ownsRow 0 95 1 va zh.length (UN zh))(m:zh.length<=100):
  ∃a w',(∀j,(Builtin.append_ #[98,98] j #[va,vS W.heap.size 1 1]).run prog (W.alloc (.cells #[zi p.ze] 95))=.ok a w')/\∃g cap,a=vS g (zh.length+1) cap/\zh.length+1<=cap/\cap<=maxLen/\w'.ownsRow 0 95 1 a (zh.length+1) (UN (zh++[p]))/\zg w' bt 102 #[r,zw,vw,va]/\zd (fun b=>va.ownBlock=some b) W w'/\(va.ownBlock=some g\/W.heap.size<=g):=by
 have c:Bw W (W.alloc (.cells #[zi p.ze] 95)):=cl;have l:va.ownBlock≠some bt:=UY f d d_;have k:zd (fun b=>va.ownBlock=some b) W (W.alloc (.cells #[zi p.ze] 95)):=zd.new c;obtain⟨a,w',i,g,cap,rfl,R⟩:=Wv un94 cx o_ (W.alloc (.cells #[zi p.ze] 95)) va zh.length (UN zh) (s8 (T:=fun _=>False) f (zd.new c) (fun _ _ e=>e)) W.heap.size 1 1 o_ [zi p.ze] rfl (zg.new W 95 _) (fun u h=>by simp at h;subst h;rfl) (by unfold maxLen;omega) o_;have hp:UN (zh++[p])=UN zh++[zi p.ze]:=by simp[UN]
 refine⟨_,w',i,g,cap,rfl,R.le,R.mx,by rw[hp];exact R.own,(d.below c d.lt).zf R.zf l,k.Vf R.zf (fun b _ e=>e),R.new.imp id (fun e=>by simp at e;omega)⟩
theorem o0{zw:Value}(h:xh w bt r zw vw va ws zh)(H:ws[i]?=some p):
  Calls prog 213 #[.pointer (some (vA bt 1)),zi p.ze] w fun e w'=>e=vT #[]/\∃l m,xh w' bt r zw l m (ws.take i++ws.drop (i+1)) (zh++[p])/\zd (wz bt vw va) w w'/\(∀b,l.ownBlock=some b\/m.ownBlock=some b->vw.ownBlock=some b\/va.ownBlock=some b\/w.heap.size<=b):=by
 have D:=Uq H;have ka:=h.zu p (UM _ D);have la:=h.zl.lt;have ma:=h.len;have ja:ws.length<=100:=o_;have J:=Zq ⟨h.yc,fun q hq=>h.zu q (UM _ hq)⟩ ja ka (fun a F e=>h.inj a (UM _ F) p (UM _ D) e) (List.nodup_append.1 h.nd).1;have E:vw.ownBlock≠some bt:=UY h.yc h.zl d_;have Q:va.ownBlock≠some bt:=UY h.yr h.zl d_;have c2:=h.zl.cell 2;simp only[s7]at c2;unfold zi at J ⊢
 go_enter func213,ntmps213
 go_wp2_with fail
 refine J.mono ?_
 rintro e f (⟨W,rfl,pa⟩|⟨d,c,S,rfl,O,t,s⟩)
 ·exact absurd D W
 ·have ia:d=i:=(List.getElem?_inj (Uy.1 S).1 (List.nodup_append.1 h.nd).1).1 (S.trans H.symm);subst ia;have n:=h.zl.zf t E;have na:=n.frozen 2;have ga:=n.cell 2;have ha:=n.cell 3;simp only[s7]at ga ha;have M:zg (f.setCell (vA bt 2) c) bt 102 #[r,zw,c,va]:=by have:=n.set 2 c;simpa using this
  have R:(f.setCell (vA bt 2) c).ownsRow 0 95 1 va zh.length (UN zh):=UQ (s8 h.yr t (fun g G e=>h.sep g e G)) (fun e=>Q e) _;have x:(f.setCell (vA bt 2) c).ownsRow 0 95 1 c (ws.take d++ws.drop (d+1)).length (UN (ws.take d++ws.drop (d+1))):=UQ O.row (fun e=>E (by rw[<-s];exact e)) _;have I:∀q∈ws++zh,zg (f.setCell (vA bt 2) c) q.ze 105 q.cells:=fun q hq=>((h.zu q hq).zf t (UY h.yc (h.zu q hq) d_)).other _ _ (fun e=>by
   have k:=h.zu q hq;rw[show q.ze=bt from e]at k
   have:=k.symm.trans h.zl
   injection this with this;injection this with _ v _
   exact absurd v d_)
  have P:zd (wz bt vw va) w (f.setCell (vA bt 2) c):=(t.mono (fun y e=>.inr (.inl e))).setCell (p:=vA bt 2) (.inl rfl) _;have o:=qm (p:=p) M R o_;obtain⟨a1,c1,N,ba,da⟩:=Wr x;rw[show(f.setCell (vA bt 2) c).heap.size=f.heap.size by simp]at o;have z:∀g' cap' w',w'.ownsRow 0 95 1 (vS g' (zh.length+1) cap') (zh.length+1) (UN (zh++[p]))->zg w' bt 102 #[r,zw,c,va]->zd (fun b=>va.ownBlock=some b) (f.setCell (vA bt 2) c) w'->(va.ownBlock=some g'\/f.heap.size<=g')->∃l m,xh (w'.setCell (vA bt 3) (vS g' (zh.length+1) cap')) bt r zw l m (ws.take d++ws.drop (d+1)) (zh++[p])/\zd (wz bt vw va) w (w'.setCell (vA bt 3) (vS g' (zh.length+1) cap'))/\(∀b,l.ownBlock=some b\/m.ownBlock=some b->vw.ownBlock=some b\/va.ownBlock=some b\/w.heap.size<=b):=by
   intro g' cap' w' Y X K C;have B:((ws.take d++ws.drop (d+1))++(zh++[p])).Perm (ws++zh):=by
    have k:=(YW H).append_right zh
    refine List.Perm.trans ?_ k.symm
    rw[<-List.append_assoc]
    exact List.perm_append_comm
   have u:∀q,q∈(ws.take d++ws.drop (d+1))++(zh++[p])->q∈ws++zh:=fun q hq=>B.mem_iff.1 hq
   have ca:g'≠bt:=fun e=>by
    rcases C with j|j
    ·rw[e]at j;exact Q j
    ·have:=n.lt;omega
   have T:c.ownBlock≠some bt:=by rw[s];exact E
   have qa:(f.setCell (vA bt 2) c).heap.size=f.heap.size:=s_
   refine⟨c,vS g' (zh.length+1) cap',⟨?_,?_,?_,?_,?_,?_,?_,?_⟩,?_,?_⟩
   ·have:=X.set 3 (vS g' (zh.length+1) cap')
    simpa using this
   ·exact UQ (s8 x K (fun g G e=>h.sep g (by rw[<-s];exact G) e)) (fun e=>T e) _
   ·rw[show(zh++[p]).length=zh.length+1 by simp]
    exact UQ Y (by simp[Value.ownBlock];exact ca) _
   ·intro q hq;have k:=I q (u q hq)
    exact(k.zf K (UY R k d_)).other _ _ (fun e=>by
     have v:=I q (u q hq);rw[show q.ze=bt from e]at v
     have:=v.symm.trans M
     injection this with this;injection this with _ h3 _
     exact absurd h3 d_)
   ·intro b L e
    simp[Value.ownBlock]at e
    subst e
    rcases C with j|j
    ·exact h.sep _ (by rw[<-s];exact L) j
    ·have:=UI x L;omega
   ·exact B.nodup_iff.2 h.nd
   ·exact fun a F b hb e=>h.inj a (u a F) b (u b hb) e
   ·have:=B.length_eq
    simp only[List.length_append]at this ⊢
    omega
   ·exact((P.Vf K (fun b _ e=>.inr (.inr e)))).setCell (p:=vA bt 3) (.inl rfl) _
   ·rintro b (e|e)
    ·left;rw[<-s];exact e
    ·simp[Value.ownBlock]at e
     subst e
     rcases C with j|j
     ·exact .inr (.inl j)
     ·exact .inr (.inr (Nat.le_trans t.size j))
  clear h O x I P;generalize zh.length=ta at o z;generalize UN (zh++[p])=ua at o z;have U:∃n1,c=.slice a1 n1 c1:=⟨_,N⟩;clear N ba da;obtain⟨n1,rfl⟩:=U;clear J;unfold zi at o
  go_wp2_with (at_builtin;refine Vk r_ _ _ _ _ rfl _ _ rfl r_ o ?_;rintro Aa Ba ⟨g2,q2,rfl,ra,sa,V,A,Z,aa⟩;have oa:=A.frozen 3;have ea:=A.cell 3;simp only[s7]at ea)
  go_end0
  exact⟨rfl,z _ _ _ V A Z aa⟩
theorem rS{zw:Value}(f:zg W bt 102 #[r,zw,vw,va])(c:W.ownsRow 0 95 1 vw ws.length (UN ws))(y:ws.length<=100):
  Calls prog 232 #[vw,vI 0,vS W.heap.size 1 1] (W.alloc (.cells #[zi p.ze] 95)) fun e w'=>∃a n cap,e=vR (.slice a n cap)/\n=ws.length+1/\w'.ownsRow 0 95 1 (.slice a n cap) n (UN (p::ws))/\zg w' bt 102 #[r,zw,vw,va]/\zd (fun b=>vw.ownBlock=some b) W w'/\(∀b,(Value.slice a n cap).ownBlock=some b->vw.ownBlock=some b\/W.heap.size<=b):=by
 have d:Bw W (W.alloc (.cells #[zi p.ze] 95)):=cl;have t:vw.ownBlock≠some bt:=UY c f d_;have s:zd (fun b=>vw.ownBlock=some b) W (W.alloc (.cells #[zi p.ze] 95)):=zd.new d;have l:vw.ownBlock≠some W.heap.size:=fun e=>by have:=UI c e;omega
 have h:=mZ vw ws.length 0 W.heap.size (UN ws) (zi p.ze) (W.alloc (.cells #[zi p.ze] 95)) o_ (Nat.zero_le _) rfl (fun u k=>by unfold UN at k;obtain⟨q,_,rfl⟩:=UC.1 k;rfl) (s8 (T:=fun _=>False) c (zd.new d) (fun _ _ e=>e)) (zg.new W 95 _) l
 refine h.mono ?_
 rintro e w' ⟨v,rfl,j,i,o⟩
 obtain⟨a,cap,rfl,w,x⟩:=Wr j
 refine⟨a,_,cap,rfl,rfl,by simpa [UN] using j,(f.below d f.lt).zf i t,s.Vf i (fun b _ e=>e),fun b hb=>?_⟩
 rcases o with e|⟨g,e,m⟩
 ·left;rw[<-e];exact hb
 ·rw[hb]at e;injection e with e;subst e;simp at m;right;omega
theorem pq{zw:Value}(h:xh w bt r zw vw va ws zh)(I:zh[i]?=some p):
  Calls prog 211 #[.pointer (some (vA bt 1)),zi p.ze] w fun e w'=>e=vT #[]/\∃l m,xh w' bt r zw l m (p::ws) (zh.take i++zh.drop (i+1))/\zd (wz bt vw va) w w'/\(∀b,l.ownBlock=some b\/m.ownBlock=some b->vw.ownBlock=some b\/va.ownBlock=some b\/w.heap.size<=b):=by
 have E:=Uq I;have oa:=h.zu p (U8 _ E);have pa:=h.zl.lt;have qa:=h.len;have X:zh.length<=100:=o_;have K:=Zq ⟨h.yr,fun q hq=>h.zu q (U8 _ hq)⟩ X oa (fun a G e=>h.inj a (U8 _ G) p (U8 _ E) e) (List.nodup_append.1 h.nd).2.1;have R:vw.ownBlock≠some bt:=UY h.yc h.zl d_;have F:va.ownBlock≠some bt:=UY h.yr h.zl d_;have ea:=h.zl.cell 3;simp only[s7]at ea;unfold zi at K ⊢
 go_enter func211,ntmps211
 go_wp2_with fail
 refine K.mono ?_
 rintro e f (⟨Z,rfl,ta⟩|⟨d,c,T,rfl,P,t,s⟩)
 ·exact absurd E Z
 ·have na:d=i:=(List.getElem?_inj (Uy.1 T).1 (List.nodup_append.1 h.nd).2.1).1 (T.trans I.symm);subst na;have o:=h.zl.zf t F;have sa:=o.frozen 3;have la:=o.cell 2;have ma:=o.cell 3;simp only[s7]at la ma;have M:zg (f.setCell (vA bt 3) c) bt 102 #[r,zw,vw,c]:=by have:=o.set 3 c;simpa using this
  have S:(f.setCell (vA bt 3) c).ownsRow 0 95 1 vw ws.length (UN ws):=UQ (s8 h.yc t (fun g H e=>h.sep g H e)) (fun e=>R e) _;have z:(f.setCell (vA bt 3) c).ownsRow 0 95 1 c (zh.take d++zh.drop (d+1)).length (UN (zh.take d++zh.drop (d+1))):=UQ P.row (fun e=>F (by rw[<-s];exact e)) _;have J:∀q∈ws++zh,zg (f.setCell (vA bt 3) c) q.ze 105 q.cells:=fun q hq=>((h.zu q hq).zf t (UY h.yr (h.zu q hq) d_)).other _ _ (fun e=>by
   have k:=h.zu q hq;rw[show q.ze=bt from e]at k
   have:=k.symm.trans h.zl
   injection this with this;injection this with _ x _
   exact absurd x d_)
  have Q:zd (wz bt vw va) w (f.setCell (vA bt 3) c):=(t.mono (fun y e=>.inr (.inr e))).setCell (p:=vA bt 3) (.inl rfl) _;have v:=rS (p:=p) M S o_;obtain⟨a1,c1,O,ga,ia⟩:=Wr z;rw[show(f.setCell (vA bt 3) c).heap.size=f.heap.size by simp]at v;have A:∀a n cap w',n=ws.length+1->w'.ownsRow 0 95 1 (.slice a n cap) n (UN (p::ws))->zg w' bt 102 #[r,zw,vw,c]->zd (fun b=>vw.ownBlock=some b) (f.setCell (vA bt 3) c) w'->(∀b,(Value.slice a n cap).ownBlock=some b->vw.ownBlock=some b\/f.heap.size<=b)->∃l m,xh (w'.setCell (vA bt 2) (.slice a n cap)) bt r zw l m (p::ws) (zh.take d++zh.drop (d+1))/\zd (wz bt vw va) w (w'.setCell (vA bt 2) (.slice a n cap))/\(∀b,l.ownBlock=some b\/m.ownBlock=some b->vw.ownBlock=some b\/va.ownBlock=some b\/w.heap.size<=b):=by
   intro a n cap w' ka ca aa L D;subst ka;have C:((p::ws)++(zh.take d++zh.drop (d+1))).Perm (ws++zh):=by
    have k:=(YW I).append_left ws
    refine List.Perm.trans ?_ k.symm
    exact(List.perm_middle (a:=p) (l₁ := ws)).symm
   have u:∀q,q∈(p::ws)++(zh.take d++zh.drop (d+1))->q∈ws++zh:=fun q hq=>C.mem_iff.1 hq
   have ha:(Value.slice a (ws.length+1) cap).ownBlock≠some bt:=fun e=>by
    rcases D _ e with j|j
    ·exact R j
    ·have:=o.lt;omega
   have U:c.ownBlock≠some bt:=by rw[s];exact F
   have ua:(f.setCell (vA bt 3) c).heap.size=f.heap.size:=s_
   refine⟨.slice a (ws.length+1) cap,c,⟨?_,?_,?_,?_,?_,?_,?_,?_⟩,?_,?_⟩
   ·have:=aa.set 2 (.slice a (ws.length+1) cap)
    simpa using this
   ·exact UQ ca ha _
   ·exact UQ (s8 z L (fun g H e=>h.sep g e (by rw[<-s];exact H))) (fun e=>U e) _
   ·intro q hq;have k:=J q (u q hq)
    exact(k.zf L (UY S k d_)).other _ _ (fun e=>by
     have x:=J q (u q hq);rw[show q.ze=bt from e]at x
     have:=x.symm.trans M
     injection this with this;injection this with _ h3 _
     exact absurd h3 d_)
   ·intro b ba e
    rcases D _ ba with j|j
    ·exact h.sep _ j (by rw[<-s];exact e)
    ·have:=UI z e;omega
   ·exact C.nodup_iff.2 h.nd
   ·exact fun a G b hb e=>h.inj a (u a G) b (u b hb) e
   ·have:=C.length_eq
    simp only[List.length_append]at this ⊢
    omega
   ·exact((Q.Vf L (fun b _ e=>.inr (.inl e)))).setCell (p:=vA bt 2) (.inl rfl) _
   ·rintro b (e|e)
    ·rcases D _ e with j|j
     ·exact .inl j
     ·exact .inr (.inr (Nat.le_trans t.size j))
    ·exact .inr (.inl (by rw[<-s];exact e))
  clear h P z J Q;generalize UN (p::ws)=Aa at v A;have W:∃n1,c=.slice a1 n1 c1:=⟨_,O⟩;clear O ga ia;obtain⟨n1,rfl⟩:=W;clear K;unfold zi at v
  go_wp2_with fail
  refine v.mono ?_
  rintro e Ba ⟨a2,n2,q2,rfl,N,Y,B,da,V⟩
  have ra:=B.frozen 2;have ja:=B.cell 2;simp only[s7]at ja;have hp:=A _ _ _ _ N Y B da V;clear A N
  go_wp2_with fail
  go_end0
  exact⟨rfl,hp⟩
def V1 (l:List Pw)(zm:Int):Option Pw:=l.find? fun p=>p.x.zm == zm
def xd:Option Pw->Value
 |none=>.pointer none
 |some p=>zi p.ze
theorem sD{k:Nat}{q:Pw}(e:l[k]?=some q)(hq:(q.x.zm == zm)=true)(a:∀j y,j<k->l[j]?=some y->(y.x.zm == zm)=false):V1 l zm=some q:=by
 unfold V1;rw[List.find?_eq_some_iff_getElem];obtain⟨b,c⟩:=Uy.1 e
 refine⟨hq,k,b,c,fun j d=>?_⟩
 simpa using a j _ d (Ur o_)
theorem px(b:∀j y,j<l.length->l[j]?=some y->(y.x.zm == zm)=false):V1 l zm=none:=by
 unfold V1;rw[List.find?_eq_none];intro y c;obtain⟨j,a⟩:=Vh c
 have:=b j y (Uy.1 a).1 a
 simpa using this
theorem g6(h:wh w v l)(J:l.length<=100)(zm:Int):
  Calls prog 77 #[v,vI zm] w fun e w'=>e=vR (xd (V1 l zm))/\w'=w:=by
 obtain⟨a0,N,u,D,Q⟩:=h.form;have c:=fun i q (I:l[i]?=some q)=>h.zl I
 have r:=fun q (hq:q∈l)=>(h.zu q hq).cell 0
 obtain⟨n,d⟩:∃n,n=l.length:=⟨_,rfl⟩;rw[<-d]at u c J D;have m:Hid (n=l.length):=d;clear d;subst u
 go_enter func77,ntmps77
 go_wp2
 go_loop [9] (fun i=>∃k:Nat,k<=n/\i=vI k/\∀j q,j<k->l[j]?=some q->(q.x.zm == zm)=false) (fun i=>n-(intOf i).toNat)
 case atStart=>exact⟨0,Nat.zero_le _,rfl,fun j q t=>by omega⟩
 case round =>
  obtain⟨k,P,rfl,p⟩:=hrel;have f:Hid (∀j q,j<k->l[j]?=some q->(q.x.zm == zm)=false):=p;clear p
  by_cases C:k<n
  ·obtain⟨q,hq⟩:∃q,l[k]?=some q:=⟨_,Ur (by rw[<-m.out];exact C)⟩;obtain⟨g,cap,H,L,M,R,G⟩:=c k q hq;injection H with E _ F;subst E F;have K:=Uq hq;have z:=r q K;unfold Pw.cells at z;simp only[List.getElem?_toArray,List.getElem?_cons_zero]at z;have o:Hid (l[k]?=some q):=hq;have S:(k:Int)<n:=o_;have O:(0:Int)<=k:=o_;unfold zi at G;clear hq c r
   by_cases A:q.x.zm=zm
   ·have b:Hid (V1 l zm=some q):=sD o.out (by simp[A]) f.out
    go_wp2
    go_ret
    exact⟨by rw[b.out];rfl,rfl⟩
   ·have B:Hid ((q.x.zm == zm)=false):=by simp[Hid,A]
    go_wp2
    go_round
    case rel =>
     refine⟨k+1,o_,by go_num,fun j y t a=>?_⟩
     rcases Nat.lt_or_ge j k with s|s
     ·exact f.out j y s a
     ·obtain rfl:j=k:=o_;rw[o.out]at a;cases a
      exact B.out
    case measure=>simp[intOf];omega
  ·have b:Hid (V1 l zm=none):=px (fun j y t a=>f.out j y (h_ m.out) a)
   go_wp2
   go_ret
   exact⟨by rw[b.out];rfl,rfl⟩
theorem ZD{x:Pw}:(binOp .neq 95 (vP x.ze) (.pointer none)).run prog W=.ok (.bool true) W:=by
 kernel_rfl
theorem ZV:(binOp .neq 95 (.pointer none) (.pointer none)).run prog W=.ok (.bool false) W:=by
 kernel_rfl
def tp (ws zh:List Pw)(zm:Int):Value×Bool :=
 match V1 zh zm with
 |some p=>(zi p.ze,true)
 |none=>(xd (V1 ws zm),false)
theorem bm{zw:Value}(h:xh w bt r zw vw va ws zh)(zm:Int):
  Calls prog 46 #[.pointer (some (vA bt 1)),vI zm] w fun e w'=>e=vT #[(tp ws zh zm).1,.bool (tp ws zh zm).2]/\w'=w:=by
 have g:=h.len;have a:=g6 ⟨h.yr,fun q hq=>h.zu q (U8 _ hq)⟩ o_ zm;have c:=g6 ⟨h.yc,fun q hq=>h.zu q (UM _ hq)⟩ o_ zm;have c2:=h.zl.cell 2;have d:=h.zl.cell 3;simp only[s7]at c2 d;have i:=fun W x=>ZD (W:=W) (x:=x)
 have j:=fun W=>ZV (W:=W)
 unfold tp
 go_enter func46,ntmps46
 cases b:V1 zh zm with
 |some p =>
  rw[b]at a;simp only[xd,zi]at a ⊢;clear b c
  go_wp2_with fail
  refine a.mono ?_
  rintro e f ⟨rfl,rfl⟩
  go_wp2_with fail
  exact Us (v:=.tuple #[vP p.ze,.bool true]) (by simp[results,results46,go_sem]) rfl ⟨rfl,rfl⟩
 |none =>
  rw[b]at a;simp only[xd]at a
  simp only
  generalize xd (V1 ws zm)=o at c ⊢;clear b
  go_wp2_with fail
  refine a.mono ?_
  rintro e f ⟨rfl,rfl⟩
  go_wp2_with fail
  refine c.mono ?_
  rintro e k ⟨rfl,rfl⟩
  go_wp2_with fail
  exact Us (v:=.tuple #[o,.bool false]) (by simp[results,results46,go_sem]) rfl ⟨rfl,rfl⟩
theorem ph{zw:Value}(h:xh w bt r zw vw va ws zh):
  Calls prog 148 #[.pointer (some (vA bt 1))] w fun e w'=>e=vR (vI (ws.length+zh.length:Nat))/\∃m,w'=w.drewN m:=by
 have d:=h.len;obtain⟨a1,f,b,l1,g⟩:=Wr h.yc;obtain⟨a2,q2,c,l2,i⟩:=Wr h.yr;have c2:=h.zl.cell 2;have a:=h.zl.cell 3;simp only[s7]at c2 a;rw[b]at c2;rw[c]at a;clear b c h;generalize ws.length=n1 at *;generalize zh.length=n2 at *
 go_enter func148,ntmps148
 go_wp2_with fail
 go_quiet (fail)
 go_wp2_with fail
 go_ret
 exact⟨s_,_,rfl⟩
end
section
open Go.RowKit Go.Shelf
variable {P:Program}{lb:Array Value}{S T:Nat->Prop}{w d:World}{b bt c gf i id j n:Nat}{l ws:List Pw}{p:Pw}{va vw:Value}
def SeqM {α : Type}(P:Program)(g:Nat)(lb:Array Value)(f : α -> Array Value)(S:Nat->Prop)(c:Nat)(T:Nat->Prop)(xs:List α)(w:World):Prop :=
 ∀(n l:Nat) (J d:List α -> World->Prop) (W:World),Bw w W->w.heap.size<=l->l<W.heap.size ->
  (∀s A B,J s A->zd (fun b=>S b\/(W.heap.size<=b/\b<W.heap.size+c)) A B->J s B)->(∀s A B,d s A->zd (fun b=>S b\/(W.heap.size<=b/\b<W.heap.size+c)) A B->d s B) ->
  (∀m pre x a,J pre a->W.heap.size+c<=a.heap.size->pre++[x] <+: xs->YieldAt Fence.wide m P l (f x) a fun e W' =>
   (e=vR (.bool true)/\J (pre++[x]) W'/\zd (fun b=>T b\/b=l\/W.heap.size+c<=b) a W')\/(e=vR (.bool false)/\d (pre++[x]) W'/\zd (fun b=>T b\/b=l\/W.heap.size+c<=b) a W')) ->
  J [] W ->
  CallsIn Fence.wide n P g (#[.func (.yield l) #[] #[]]++lb) W fun e W'=>(∃v,e=vR v)/\(J xs W'\/(∃pre,pre <+: xs/\d pre W'))
theorem eo{α : Type}{g:Nat}{enc : α -> Value}{xs:List α} 
  (t:∀B l,w.heap.size<=B->w.heap.size<=l->SeqK P g lb enc S (fun b=>T b\/b=l\/B<=b) xs w):SeqM P g lb (fun x=>#[enc x]) S 0 T xs w:=by
 intro n l J j W f i v q u r p
 refine(t W.heap.size l f.size i n l (fun s A=>J s A/\W.heap.size<=A.heap.size) j W f i (fun s A B h k=>⟨q s A B h.1 (k.mono fun b h=>.inl h),Nat.le_trans h.2 k.size⟩) (fun s A B h k=>u s A B h (k.mono fun b h=>.inl h)) ?_ ⟨p,Nat.le_refl _⟩).mono ?_
 ·intro m pre x o d hp
  refine(r m pre x o d.1 d.2 hp).mono ?_
  rintro e W' (⟨a,c,h3⟩|⟨a,c,h3⟩)
  ·exact .inl ⟨a,⟨c,Nat.le_trans d.2 h3.size⟩,h3⟩
  ·exact .inr ⟨a,c⟩
 ·rintro e W' ⟨a,c⟩
  exact⟨a,c.imp (fun h=>h.1) id⟩
theorem Y6{α : Type}{g:Operand}{ps:Array Tmp}{assign body:Code}{Q:Exit->Act->World->Prop}{a:Act} 
  (Ia:a.eval g=.func (.func gf) #[] lb) (Ca:∀args w,(callFunc gf args).run P w=.ok (.enter gf args) w)
  {V : α -> Array Value} {xs:List α} (qa:SeqM P gf lb V S c T xs d) (Z:Bw d w) (Ka:∀x,(V x).size=ps.size)
  (Ha:∀b,S b->b<w.heap.size) (ia:∀b,T b->b<w.heap.size)
  (I:List α -> World->Prop) (M:Code->List α -> World->Prop)
  (hI:∀s A B,I s A->zd (fun b=>S b\/(w.heap.size<=b/\b<w.heap.size+2+c)) A B->I s B) (hIx:∀ea s A B,M ea s A->zd (fun b=>S b\/(w.heap.size<=b/\b<w.heap.size+2+c)) A B->M ea s B)
  (Ea:I [] w) (ca : α -> Act)
  (Ja:∀(l:Nat) (x : α) (W:World) (K:Act->World->Prop),K (ca x) W ->
   assign.wpIn (Fence.wide.inRound l) n P (Exit.then K (fun _ _ _=>False)) {tmps:=(ps.zip (V x)).foldl (fun t (p,v)=>t.setIfInBounds p v) a.tmps,defers:=[]} W)
  (Ma:∀(l:Nat) (pre:List α) (x : α) (W:World),I pre W->w.heap.size+2+c<=W.heap.size->pre++[x] <+: xs->body.wpIn (Fence.wide.inRound l) n P (eT (fun b=>T b\/w.heap.size+2+c<=b) I M (pre++[x]) W) (ca x) W)
  (Da:∀(W:World),I xs W->W.heap[w.heap.size]?=some (.deferred (some []))->Q .normal {a with defers:={target:=.collected w.heap.size,args:=#[]}::a.defers} W)
  (La:∀(c:Code) (pre:List α) (W:World),pre <+: xs->M c pre W->W.heap[w.heap.size]?=some (.deferred (some []))->c.wpIn Fence.wide n P Q {a with defers:={target:=.collected w.heap.size,args:=#[]}::a.defers} W) :
  (Code.rangeFunc g ps assign body).wpIn Fence.wide n P Q a w:=by
 have ta:∀m,Fence.wide.depth.isSome=true->1<=m:=fun m h=>by simp[Fence.wide]at h
 refine wpIn_rangeFunc fun fn _=>?_
 obtain⟨j,D⟩:∃j:LoopState->Option Code->Loop,j=fun st Na=>{state:=st,pending:=Na,fn,tmps:=a.tmps,params:=ps,assign,body,defers:=w.heap.size}:=⟨_,rfl⟩
 obtain⟨f,R⟩:∃f,(w.alloc (.deferred (some []))).alloc (.loop (j .ready none))=f:=⟨_,rfl⟩;have Oa:f.heap[w.heap.size+1]?=some (.loop (j .ready none)):=by
  rw[<-R];have:=World.alloc_heap_new (w.alloc (.deferred (some []))) (.loop (j .ready none));rwa[Vv]at this
 have Ba:f.heap[w.heap.size]?=some (.deferred (some [])):=by
  rw[<-R];exact(Below.heap_alloc _ _ _ s_).trans (World.alloc_heap_new w _)
 have sa:f.heap.size=w.heap.size+2:=by rw[<-R];simp
 have ga:Bw w f:=by rw[<-R];exact((Below.refl _ w).alloc (Nat.le_refl _) _).alloc s_ _
 have oa:I [] f:=hI _ _ _ Ea (zd.new ga);have ra:Bw d f:=Z.trans (ga.mono Z.size);have X:∀ {A B:World} {k:Nat} {o:Obj},zd (fun b=>S b\/(f.heap.size<=b/\b<f.heap.size+c)) A B->w.heap.size<=k->k<w.heap.size+2->A.heap[k]?=some o->B.heap[k]?=some o:=fun {A B k o} i Ta ba ja=>by
  rw[i.block k (Vz.1 ja).1 (fun y=>by
   rcases y with y|y
   ·have:=Ha k y;omega
   ·omega)];exact ja
 have aa:∀b,S b\/(f.heap.size<=b/\b<f.heap.size+c)->S b\/(w.heap.size<=b/\b<w.heap.size+2+c):=fun b h=>h.imp id (fun h=>by omega)
 refine⟨w.heap.size+1,[{target:=.collected w.heap.size,args:=#[]}],f,{target:=.fn (.func gf) lb,args:=#[.func (.yield (w.heap.size+1)) #[] #[]]},f,gf,
  #[.func (.yield (w.heap.size+1)) #[] #[]]++lb,f,?_,?_,?_,?_,ta _,?_⟩
 ·rw[<-R,D];exact run_enterLoop_outer _ _ _ _ _
 ·simp only[resolve,Ia];simp[go_sem]
 ·intro Ua _;trivial
 ·simp[invoke,go_sem,Ca]
 refine(qa (n-1) (w.heap.size+1)
  (fun pre W=>I pre W/\W.heap[w.heap.size+1]?=some (.loop (j .ready none))/\W.heap[w.heap.size]?=some (.deferred (some [])))
  (fun pre W=>∃c,M c pre W/\W.heap[w.heap.size+1]?=some (.loop (j .done (some c)))/\W.heap[w.heap.size]?=some (.deferred (some [])))
  f ra (h_ Z.size) o_
  (fun s A B y i=>⟨hI s A B y.1 (i.mono aa),X i o_ o_ y.2.1,X i o_ o_ y.2.2⟩)
  (fun s A B y i=>by
   obtain⟨c,Fa,Ga,h3⟩:=y
   exact⟨c,hIx c s A B Fa (i.mono aa),X i o_ o_ Ga,X i o_ o_ h3⟩)
  ?_ ⟨oa,Oa,Ba⟩).mono ?_
 ·rintro m pre x W ⟨U,F,i⟩ pa Y
  rw[sa]at pa;have ba:w.heap.size+1<W.heap.size:=(Vz.1 F).1;have ka:=run_yield (P:=P) (args:=(V x)) F (by rw[D];exact Ka x);rw[D]at ka
  refine⟨fn,_,assign,body,ka,?_⟩
  obtain⟨u,O⟩:∃u,W.putObj (w.heap.size+1) (.loop {j .ready none with state:=.busy})=u:=⟨_,rfl⟩;have na:zd (fun b=>T b\/b=w.heap.size+1\/f.heap.size+c<=b) W u:=by rw[<-O];exact(zd.refl _ _).putObj (.inr (.inl rfl)) _
  have Qa:zd (fun b=>S b\/(w.heap.size<=b/\b<w.heap.size+2+c)) W u:=by rw[<-O];exact(zd.refl _ _).putObj (.inr o_) _
  have la:u.heap[w.heap.size+1]?=some (.loop {j .ready none with state:=.busy}):=by rw[<-O];exact World.putObj_heap_same ba
  have da:u.heap[w.heap.size]?=some (.deferred (some [])):=by rw[<-O];exact(World.putObj_heap_other o_).trans i
  have ha:RoundIn Fence.wide n P (w.heap.size+1) fn ((ps.zip (V x)).foldl (fun t (p,v)=>t.setIfInBounds p v) a.tmps) assign body W fun e W' =>
    (e=vR (.bool true)/\(I (pre++[x]) W'/\W'.heap[w.heap.size+1]?=some (.loop (j .ready none))/\W'.heap[w.heap.size]?=some (.deferred (some [])))/\zd (fun b=>T b\/b=w.heap.size+1\/f.heap.size+c<=b) W W') \/
    (e=vR (.bool false)/\(∃c,M c (pre++[x]) W'/\W'.heap[w.heap.size+1]?=some (.loop (j .done (some c)))/\W'.heap[w.heap.size]?=some (.deferred (some [])))/\zd (fun b=>T b\/b=w.heap.size+1\/f.heap.size+c<=b) W W'):=by
   refine roundIn_of_wpIn trivial (Ja _ x W _ ⟨u,by rw[<-O];exact run_beginRound F (by rw[D]),?_⟩)
   have Aa:w.heap.size+2+c<=u.heap.size:=by rw[<-O];simp;omega
   refine wpIn_mono (Ma _ pre x u (hI _ _ _ U Qa) Aa Y) ?_
   have fin:∀(N:Option Code) (q:World),zd (fun b=>T b\/w.heap.size+2+c<=b) u q ->
     ∃z,(Instr.endRound (w.heap.size+1) N).run P q=.ok (.bool N.isNone) z/\zd (fun b=>S b\/(w.heap.size<=b/\b<w.heap.size+2+c)) q z/\zd (fun b=>T b\/b=w.heap.size+1\/f.heap.size+c<=b) W z /\
     z.heap[w.heap.size+1]?=some (.loop (j (if N.isNone then .ready else .done) N))/\z.heap[w.heap.size]?=some (.deferred (some [])):=fun N q r=>by
    have ma:q.heap[w.heap.size+1]?=some (.loop {j .ready none with state:=.busy}):=by
     rw[r.block _ (Vz.1 la).1 (fun ht=>by
      rcases ht with ht|ht
      ·have:=ia _ ht;omega
      ·omega)];exact la
    have Pa:q.heap[w.heap.size]?=some (.deferred (some [])):=by
     rw[r.block _ (Vz.1 da).1 (fun ht=>by
      rcases ht with ht|ht
      ·have:=ia _ ht;omega
      ·omega)];exact da
    have C:=run_endRound (P:=P) N ma
    refine⟨_,C,(zd.refl _ _).putObj (.inr o_) _,(na.trans (r.mono fun b h=>h.imp id (fun h=>.inr o_))).putObj (.inr (.inl rfl)) _,?_,(World.putObj_heap_other o_).trans Pa⟩
    rw[World.putObj_heap_same (Vz.1 ma).1,D]
   rintro e Sa q hp
   cases e with
   |normal =>
    obtain⟨r,G⟩:=hp;obtain⟨z,C,H,L,E,J⟩:=fin none q r
    exact⟨_,_,C,.inl ⟨rfl,⟨hI _ _ _ G H,E,J⟩,L⟩⟩
   |ret =>
    obtain⟨r,G⟩:=hp;obtain⟨z,C,H,L,E,J⟩:=fin (some .ret) q r
    exact⟨_,_,C,.inr ⟨rfl,⟨.ret,hIx _ _ _ _ G H,E,J⟩,L⟩⟩
   |exit id =>
    obtain⟨r,G⟩:=hp;obtain⟨z,C,H,L,E,J⟩:=fin (some (.exit id)) q r
    exact⟨_,_,C,.inr ⟨rfl,⟨.exit id,hIx _ _ _ _ G H,E,J⟩,L⟩⟩
   |goto t =>
    obtain⟨r,G⟩:=hp;obtain⟨z,C,H,L,E,J⟩:=fin (some (.goto t)) q r
    exact⟨_,_,C,.inr ⟨rfl,⟨.goto t,hIx _ _ _ _ G H,E,J⟩,L⟩⟩
   |panic ch=>exact hp.elim
   |outgrown=>exact hp.elim
  exact⟨ha.1,fun c ua _=>ha.2 c ua (room_wide _)⟩
 ·rintro e Ra ⟨⟨v,rfl⟩,(⟨U,F,i⟩|⟨pre,Y,c,U,F,i⟩)⟩
  ·exact⟨none,_,by have:=run_endLoop (P:=P) F (by rw[D];simp);rw[D]at this;exact this,
    Da _ (hI _ _ _ U ((zd.refl _ _).putObj (.inr o_) _)) ((World.putObj_heap_other o_).trans i)⟩
  ·exact⟨some c,_,by have:=run_endLoop (P:=P) F (by rw[D];simp);rw[D]at this;exact this,
    La c pre _ Y (hIx _ _ _ _ U ((zd.refl _ _).putObj (.inr o_) _)) ((World.putObj_heap_other o_).trans i)⟩
attribute [local go_sem] Oper.semAt_some
def U6 (l:List Pw)(b:Nat):List Pw:=l.filter fun p=>p.q == b
theorem gz(a:l[j]?=some p):U6 (l.take (j+1)) b=U6 (l.take j) b++(if p.q == b then [p] else []):=by
 obtain⟨c,rfl⟩:=Uy.1 a;unfold U6;rw[VT c,List.filter_append]
 simp[VW]
theorem p0(a:l[j]?=some p)(hb:(p.q == b)=true):U6 (l.take j) b++[p] <+: U6 l b:=by
 have h:=gz (b:=b) a;rw[if_pos hb]at h;rw[<-h];unfold U6
 exact List.IsPrefix.filter _ (List.take_prefix _ _)
theorem iZ{za:List zc}(la:∀n∈za,UA w n)(S:w.cell? (vA bt 2)=some vw)(u:wh w vw ws)(da:ws.length<=100)(ka:∀p∈ws,∃n∈za,n.ze=p.q){m:zc}(pa:m∈za):
  Calls prog 156 #[.pointer (some (vA bt 1)),zi m.ze] w fun e w'=>e=vR (.func (.func 198) #[] #[vP w.heap.size,vP (w.heap.size+1)])/\w'=(w.alloc (.cells #[.pointer (some (vA bt 1))] 132)).alloc (.cells #[zi m.ze] 97) /\
   ∀a:Nat->Prop,(∀n∈za,¬a n.ze/\∀g,n.sl.ownBlock=some g->¬a g)->¬a bt->(∀b,vw.ownBlock=some b->¬a b)->(∀p∈ws,¬a p.ze)->¬a w.heap.size->¬a (w.heap.size+1) ->
    SeqK prog 198 #[vP w.heap.size,vP (w.heap.size+1)] (fun p:Pw=>zi p.ze) (fun _=>False) a (U6 ws m.ze) w':=by
 have Ma:∀(fn:Fn) (first cap:Array Value) (w:World),(Instr.makeFunc fn first cap).run prog w=.ok (.func fn first cap) w:=fun _ _ _ _=>rfl
 have zb:∀a:Nat->Prop,(∀n∈za,¬a n.ze/\∀g,n.sl.ownBlock=some g->¬a g)->¬a bt->(∀b,vw.ownBlock=some b->¬a b)->(∀p∈ws,¬a p.ze)->¬a w.heap.size->¬a (w.heap.size+1) ->
   SeqK prog 198 #[vP w.heap.size,vP (w.heap.size+1)] (fun p:Pw=>zi p.ze) (fun _=>False) a (U6 ws m.ze) ((w.alloc (.cells #[.pointer (some (vA bt 1))] 132)).alloc (.cells #[zi m.ze] 97)):=by
  intro a ma Qa V aa Ia sa k l J ba W C Ja Q Na D P;have ea:∀k:Nat,Fence.wide.depth.isSome=true->1<=k:=fun k h=>by simp[Fence.wide]at h
  have r:Bw w W:=s5 (show Bw w ((w.alloc (.cells #[.pointer (some (vA bt 1))] 132)).alloc (.cells #[zi m.ze] 97)) by exact cl) C;have Ca:∀n∈za,UA W n:=fun n f=>(la n f).below r
  have Da:zz W w.heap.size 132 (.pointer (some (vA bt 1))):=((zz.new w 132 _).alloc _).below C t_;have Ea:zz W (w.heap.size+1) 97 (zi m.ze):=by
   have:=(zz.new (w.alloc (.cells #[.pointer (some (vA bt 1))] 132)) 97 (zi m.ze)).below C s_
   rwa[Vv]at this
  have ha:bt<w.heap.size:=by have:=VE w _ S;simpa using this
  have c2:W.cell? (vA bt 2)=some vw:=(r.cell (p:=vA bt 2) ha).trans S;have L:wh W vw ws:=⟨s8 (T:=fun _=>False) u.row (zd.new r) (fun _ _ e=>e),fun p hp=>(u.zu p hp).below r (u.zu p hp).lt⟩;have c1:=Da.cell;obtain⟨a0,cap,x,_,_⟩:=Wr u.row;obtain⟨n,f⟩:∃n,n=ws.length:=⟨_,rfl⟩;rw[<-f]at da x;rw[x]at c2;have I:Hid (n=ws.length):=f;have K:Hid (vw=.slice a0 n cap):=x;clear f x
  refine callsIn_of_wp func198 rfl trivial ?_ rfl
  simp only[ntmps198,zC,Nat.reduceAdd,Nat.reduceSub]
  gi_wp2
  gi_loopw [11] (fun i wr=>∃j:Nat,i=vI j/\j<=n/\J (U6 (ws.take j) m.ze) wr/\zd a W wr) (fun i _=>n-(intOf i).toNat)
  case atStart=>exact⟨0,rfl,Nat.zero_le _,by simpa [U6] using P,zd.refl _ _⟩
  case round =>
   obtain⟨j,rfl,v,d,c⟩:=hrel;have U:=Y3 ma Ca c
   by_cases ca:j<n
   ·obtain⟨p,hp⟩:∃p,ws[j]?=some p:=⟨_,Ur (by rw[<-I.out];exact ca)⟩;have O:p∈ws:=Uq hp;obtain⟨Ba,Aa,ra⟩:=ka p O;have A:wh wr vw ws:=⟨s8 L.row c (fun b hb=>V b hb),fun q hq=>(L.zu q hq).zf c (aa q hq)⟩;obtain⟨g,na⟩:∃g,a0=some (vA g 0):=by
     obtain⟨g,Ha,ia,_⟩:=VX A.row (Nat.lt_of_le_of_lt (Nat.zero_le _) (Uy.1 hp).1)
     have:=K.out;rw[ia]at this;injection this with ja;exact⟨g,ja.symm⟩
    subst na;have Ga:wr.cell? (vA g j)=some (vP p.ze):=by
     have:=A.row.cells (g:=g) (by rw[K.out];rfl) j (zi p.ze) (by unfold UN;rw[VB,hp];rfl)
     rwa[Addr.add_lit,Nat.zero_add]at this
    have Ka:wr.cell? (vA p.ze 1)=some (vP p.q):=(A.zu p O).cell 1;have La:wr.cell? (vA (w.heap.size+1) 0)=some (vP m.ze):=(Ea.zf c sa).cell;have o:∀W',Bw wr W'->(binOp .eql 97 (vP p.q) (vP m.ze)).run prog W'=.ok (.bool (p.q == m.ze)) W':=fun W' M=>by
     rw[<-ra];exact eB ((U Ba Aa).below M) ((U m pa).below M)
    have X:=o wr (Below.refl _ _);have Y:=o wr.drew cl;have H:=fun nq=>o (wr.drewN nq) (UT (Below.refl _ _) nq)
    have y:Hid (U6 (ws.take (j+1)) m.ze=U6 (ws.take j) m.ze++(if p.q == m.ze then [p] else [])):=gz hp;have z:Hid ((p.q == m.ze)=true->U6 (ws.take j) m.ze++[p] <+: U6 ws m.ze):=fun e=>p0 hp e
    have Oa:(j:Int)<n:=o_;have Pa:(0:Int)<=j:=o_;generalize ua:(p.q == m.ze)=ga at o X Y H y z;clear hp P ua o
    cases ga
    ·have Z:Hid (J (U6 (ws.take (j+1)) m.ze) wr):=by rw[y.out];simp only[Bool.false_eq_true,if_false,List.append_nil];exact d
     clear d D
     gi_upto_region 3 with fail
     refine wpIn_wide.2 ?_
     go_quiet (fail)
     gi_wp2_with fail
     go_roundw
     case rel=>exact⟨j+1,by go_num,o_,Q _ _ _ Z.out ((zd.refl _ _).drewN nq),c.drewN nq⟩
     case measure=>simp[intOf];omega
    ·have G:=z.out rfl;obtain⟨fn,tmps,assign,body,qa,R⟩:=D (k-1) _ p wr.drew (Q _ _ _ d (zd.refl _ _).drew) G;have N:=R.mono (R':=fun e W'=>∃t:Bool,e=vR (.bool t)/\((t=true/\J (U6 (ws.take j) m.ze++[p]) W'/\zd a wr W')\/(t=false/\ba (U6 (ws.take j) m.ze++[p]) W')))
      (fun e W' h=>h.elim (fun ⟨E,v,oa⟩=>⟨true,E,.inl ⟨rfl,v,(zd.refl _ _).drew.trans oa⟩⟩) (fun ⟨E,v⟩=>⟨false,E,.inr ⟨rfl,v⟩⟩))
     clear R D d z H;unfold zi at qa
     gi_upto_region 3 with fail
     gi_region_with (refine⟨ea _,?_⟩;refine N.mono ?_;clear N;rintro e Fa ⟨t,rfl,s⟩)
     all_goals gi_wp2_with fail
     all_goals rename_i ht
     ·have:t=false:=by simpa using ht
      subst this
      refine Us (results_none rfl _ _ _) rfl ?_
      exact⟨⟨_,rfl⟩,.inr ⟨_,G,(s.resolve_left s_).2⟩⟩
     ·have:t=true:=by simpa using ht
      subst this;obtain⟨_,F,B⟩:=s.resolve_right s_
      refine⟨⟨j+1,by go_num,o_,?_,c.trans B⟩,by simp[intOf];omega⟩
      rw[y.out,if_pos trivial];exact F
     ·have:t=false:=by simpa using ht
      subst this
      refine Us (results_none rfl _ _ _) rfl ?_
      exact⟨⟨_,rfl⟩,.inr ⟨_,G,(s.resolve_left s_).2⟩⟩
     ·have:t=true:=by simpa using ht
      subst this;obtain⟨_,F,B⟩:=s.resolve_right s_
      refine⟨⟨j+1,by go_num,o_,?_,c.trans B⟩,by simp[intOf];omega⟩
      rw[y.out,if_pos trivial];exact F
   ·gi_wp2
    go_end0
    have ta:ws.take j=ws:=Vl (by rw[<-I.out];omega);rw[ta]at d
    exact⟨⟨_,rfl⟩,.inl d⟩
 unfold zi at zb ⊢
 go_enter func156,ntmps156
 go_wp2
 go_ret
 exact⟨rfl,rfl,zb⟩
attribute [local go_sem] Oper.semAt_some
def Vn (ws:List Pw)(b:Nat):Option Pw:=ws.find? fun p=>p.q == b
theorem sM(ws:List Pw)(b:Nat):Vn ws b=(U6 ws b).head?:=by
 unfold Vn U6;rw[List.head?_filter]
theorem q7{za:List zc}(F:∀n∈za,UA w n)(y:w.cell? (vA bt 2)=some vw)(r:wh w vw ws)(M:ws.length<=100)(U:∀p∈ws,∃n∈za,n.ze=p.q){m:zc}(da:m∈za):
  Calls prog 174 #[.pointer (some (vA bt 1)),zi m.ze] w fun e w'=>e=vR (xd (Vn ws m.ze))/\Bw w w':=by
 have N:∀k:Nat,Fence.wide.depth.isSome=true->1<=k:=fun k h=>by simp[Fence.wide]at h
 have Q:bt<w.heap.size:=by have:=VE w _ y;simpa using this
 have z:∀W,Bw w W->_:=fun W v=>iZ (w:=W) (fun n ea=>(F n ea).below v) ((v.cell (p:=vA bt 2) Q).trans y) ⟨s8 (T:=fun _=>False) r.row (zd.new v) (fun _ _ e=>e),fun p hp=>(r.zu p hp).below v (r.zu p hp).lt⟩ M U da
 have J:=fun b (hb:vw.ownBlock=some b)=>UI r.row hb
 have R:=fun p (hp:p∈ws)=>(r.zu p hp).lt
 rw[sM];generalize aa:U6 ws m.ze=X at z ⊢;clear aa
 refine(UK (n:=3)).1 ?_
 refine callsIn_of_wp_marks func174 rfl trivial ?_ rfl
 unfold zi at z ⊢;simp only[ntmps174,zC,Nat.reduceAdd,Nat.reduceSub]
 gi_wp2_with ((first|refine⟨trivial,N _,?_⟩|refine⟨trivial,?_⟩);gi_at_call 156;refine(UK.2 (z _ Vy)).mono ?_;rintro e W ⟨rfl,rfl,u⟩)
 obtain⟨W,o⟩:∃W,W=(((w.alloc (.cells #[.pointer none] 95)).alloc (.cells #[.pointer (some (vA bt 1))] 132)).alloc (.cells #[vP m.ze] 97)):=⟨_,rfl⟩;have ja:W.heap.size=w.heap.size+3:=by rw[o];simp
 have H:(w.alloc (.cells #[.pointer none] 95)).heap.size=w.heap.size+1:=s_;have O:zz W w.heap.size 95 (.pointer none):=by rw[o];exact((zz.new w 95 _).alloc _).alloc _
 have P:Bw w W:=by rw[o];exact Vy
 rw[H]at u;simp only[<-o]at u ⊢;have hq:=u (fun b=>b=w.heap.size\/W.heap.size<=b) (fun k d=>⟨fun h=>by have:=(F k d).lt;omega,fun g ca h=>by have:=((F k d).row.lt g ca).2;omega⟩) o_ (fun b hb h=>by have:=J b hb;omega) (fun p hp h=>by have:=R p hp;omega) o_ o_;clear u z H o;have s:∀b,b<W.heap.size->¬(False\/W.heap.size<=b):=fun b hb h=>by rcases h with h|h;exact h;omega
 refine XQ (T:=fun b=>b=w.heap.size) (S:=fun _=>False) rfl (enters_of func198 k_ rfl) hq (Below.refl _ _) rfl (fun b h=>h.elim) (fun b h=>by omega)
  (fun pre A=>pre=[]/\zz A w.heap.size 95 (.pointer none)/\Bw w A)
  (fun c pre A=>c=.ret/\∃p,pre=[p]/\zz A w.heap.size 95 (vP p.ze)/\Bw w A)
  (fun pre A B f d=>⟨f.1,f.2.1.zf d (s _ o_),f.2.2.trans (d.ya f.2.2.size (fun b L=>s b o_))⟩)
  (fun c pre A B f d=>by
   obtain⟨V,p,Y,h3,I⟩:=f
   exact⟨V,p,Y,h3.zf d (s _ o_),I.trans (d.ya I.size (fun b L=>s b o_))⟩)
  ⟨rfl,O,P⟩
  (fun x=>{tmps:=#[.pointer (some (vA bt 1)),vP m.ze,undef,undef,vP w.heap.size,vP x.ze,.pointer (some (vA bt 1)),vP m.ze,
   .func (.func 198) #[] #[vP (w.heap.size+1),vP (w.heap.size+1+1)],vP x.ze,undef],defers:=[]}) ?assign ?body ?done ?stop
 case assign =>
  intro l x W K Z
  gi_wp2
  exact Z
 case body =>
  rintro l pre x ia ⟨i,a,j⟩ ka G
  have y:=a.cell;have ba:=a.frozen;have D:Hid (pre=[]):=i;clear i
  gi_wp2
  exact⟨(zd.refl (fun b=>b=w.heap.size) _).setCell (p:=vA w.heap.size 0) rfl _,rfl,x,by rw[D.out];rfl,a.set _,j.setCell s_ _⟩
 case done =>
  rintro A ⟨i,a,j⟩ E
  have y:=a.cell;have ba:=a.frozen;have D:Hid (X=[]):=i;clear i
  gi_wp2
  have ha:(A.setCell (vA w.heap.size 0) (.pointer none)).heap[W.heap.size]?=some (.deferred (some [])):=(Below.heap_setCell _ _ _ _ t_).trans E;have C:=((a.set (.pointer none)).put W.heap.size (.deferred none) o_).cell
  refine⟨s_,.inl ⟨_,_,rfl,run_takeDeferred ha,?_⟩⟩
  refine⟨.pointer none,by simp[results,results174,go_sem,C],?_,Wn (j.setCell s_ _) _ _ o_⟩
  rw[D.out];rfl
 case stop =>
  rintro c pre A G ⟨rfl,p,ga,a,j⟩ E
  gi_wp2
  have C:=(a.put W.heap.size (.deferred none) o_).cell
  refine⟨s_,.inl ⟨_,_,rfl,run_takeDeferred E,?_⟩⟩
  refine⟨vP p.ze,by simp[results,results174,go_sem,C],?_,Wn j _ _ o_⟩
  subst ga;obtain⟨t,rfl⟩:=G
  rfl
attribute [local go_sem] Oper.semAt_some
def Yo (l:List Pw):List (Pw×Nat):=l.zipIdx.reverse
theorem qk(l:List Pw):(Yo l).map Prod.fst=l.reverse:=by
 unfold Yo;rw[List.map_reverse];simp
theorem rQ(a:l[j]?=some p):(l.zipIdx.drop j).reverse=(l.zipIdx.drop (j+1)).reverse++[(p,j)]:=by
 obtain⟨b,rfl⟩:=Uy.1 a;rw[List.drop_eq_getElem_cons (j_ b)]
 simp
theorem ql(l:List Pw)(j:Nat):(l.zipIdx.drop j).reverse <+: Yo l:=by
 unfold Yo;rw[List.reverse_prefix]
 exact List.drop_suffix _ _
theorem rP(hA:wh w va l)(ar:l.length<=100):
  Calls prog 239 #[va] w fun e w'=>e=.returned (.func (.func 247) #[] #[.pointer (some ⟨w.heap.size,0,none⟩)])/\w'=w.alloc (.cells #[va] 98) /\
   ∀T:Nat->Prop,(∀b,va.ownBlock=some b->¬T b)->¬T w.heap.size ->
    SeqM prog 247 #[.pointer (some ⟨w.heap.size,0,none⟩)] (fun p:Pw×Nat=>#[.int .i64 p.2,zi p.1.ze]) (fun _=>False) 0 T (Yo l) w':=by
 have oW:∀(fn:Fn) (first cap:Array Value) (w:World),(Instr.makeFunc fn first cap).run prog w=.ok (.func fn first cap) w:=fun _ _ _ _=>rfl
 have zb:∀T:Nat->Prop,(∀b,va.ownBlock=some b->¬T b)->¬T w.heap.size ->
    SeqM prog 247 #[.pointer (some ⟨w.heap.size,0,none⟩)] (fun p:Pw×Nat=>#[.int .i64 p.2,zi p.1.ze]) (fun _=>False) 0 T (Yo l) (w.alloc (.cells #[va] 98)):=by
  intro T C6 gi k ll J Jx W fp hl Lv hJ pD hY h0;have bW:∀k:Nat,Fence.wide.depth.isSome=true->1<=k:=fun k h=>by simp[Fence.wide]at h
  have cL:Below w.heap.size w W:=s5 (show Below w.heap.size w (w.alloc (.cells #[va] 98)) by exact cl) fp;have x1:zz W w.heap.size 98 va:=(zz.new w 98 _).below fp (by simp);have pg:w.heap.size<W.heap.size:=x1.lt;have N2:W.ownsRow 0 95 1 va l.length (UN l):=s8 (T:=fun _=>False) hA.row (zd.new cL) (fun _ _ e=>e);have Hg:∀b,va.ownBlock=some b->¬(T b\/b=ll\/W.heap.size+0<=b):=fun b hb e=>by
   have:=UI hA.row hb
   simp at hl
   rcases e with e|e|e
   ·exact C6 b hb e
   ·omega
   ·omega
  have He:¬(T w.heap.size\/w.heap.size=ll\/W.heap.size+0<=w.heap.size):=fun e=>by
   simp at hl
   rcases e with e|e|e
   ·exact gi e
   ·omega
   ·omega
  have c1:=x1.cell;obtain⟨a0,cap,hv,cn,iL⟩:=Wr hA.row;obtain⟨n,hn⟩:∃n,n=l.length:=⟨_,rfl⟩;rw[<-hn]at ar hv cn;have HN:Hid (n=l.length):=hn;have HV:Hid (va=.slice a0 n cap):=hv;rw[hv]at c1;clear hn hv
  refine callsIn_of_wp func247 rfl trivial ?_ rfl
  simp only[ntmps247,List.size_toArray,List.length_cons,List.length_nil,Nat.reduceAdd,Nat.reduceSub,Array.replicate_succ,Array.replicate_zero,List.push_toArray,List.append_toArray,List.nil_append,List.cons_append]
  gi_wp2
  gi_loopg [3] n (fun q v wr=>∃j:Nat,v=.int .i64 ((j:Int)-1)/\j<=n/\j<=q/\J (l.zipIdx.drop j).reverse wr/\W.heap.size<=wr.heap.size/\zd (fun b=>T b\/b=ll\/W.heap.size+0<=b) W wr)
  case atStart=>exact⟨n,rfl,Nat.le_refl _,Nat.le_refl _,by rw[List.drop_of_length_le (by simp[HN.out])];exact h0,Nat.le_refl _,zd.refl _ _⟩
  case round =>
   obtain⟨j,rfl,hj,hq,lj,dp,kh⟩:=hrel
   by_cases oT:j=0
   ·subst oT
    gi_wp2
    go_end0
    exact⟨⟨_,rfl⟩,.inl (by simpa [Yo] using lj)⟩
   ·obtain⟨i,rfl⟩:∃i,j=i+1:=⟨j-1,by omega⟩;obtain⟨p,hp⟩:∃p,l[i]?=some p:=⟨_,Ur (by rw[<-HN.out];omega)⟩;have an:=s8 N2 kh Hg;obtain⟨g,hg⟩:∃g,a0=some ⟨g,0,none⟩:=by
     obtain⟨g,fe,dq,_⟩:=VX an (Nat.lt_of_le_of_lt (Nat.zero_le _) (Uy.1 hp).1)
     have:=HV.out;rw[dq]at this;injection this with e1;exact⟨g,e1.symm⟩
    subst hg;have cr:wr.cell? ⟨g,i,none⟩=some (.pointer (some ⟨p.ze,0,none⟩)):=by
     have:=an.cells (g:=g) (by rw[HV.out];rfl) i (zi p.ze) (by unfold UN;rw[VB,hp];rfl)
     rwa[Addr.add_lit,Nat.zero_add]at this
    have k1:wr.cell? ⟨w.heap.size,0,none⟩=some (.slice (some ⟨g,0,none⟩) n cap):=by rw[<-HV.out];exact(x1.zf kh He).cell
    have lM:Hid ((l.zipIdx.drop i).reverse=(l.zipIdx.drop (i+1)).reverse++[(p,i)]):=rQ hp;have qg:(l.zipIdx.drop (i+1)).reverse++[(p,i)] <+: Yo l:=by rw[<-lM.out];exact ql l i
    obtain⟨fn,tmps,assign,body,hy,hR⟩:=hY (k-1) _ (p,i) wr lj (by omega) qg;have qi:(i:Int)<n:=by omega
    have rz:(0:Int)<=i:=by omega
    have aG:((i+1:Nat):Int)-1=(i:Int):=by omega
    rw[aG];clear hY hp h0;unfold zi at hy
    gi_wp2_with (refine⟨bW _,?_⟩;refine hR.mono ?_;clear hR;rintro e W2 (⟨rfl,nD,bM⟩|⟨rfl,jL,bM⟩))
    ·gi_roundg i
     case measure=>omega
     case rel=>exact⟨i,by go_num,by omega,Nat.le_refl _,by rw[lM.out];exact nD,Nat.le_trans dp bM.size,kh.trans bM⟩
    ·refine Us (results_none rfl _ _ _) rfl ?_
     exact⟨⟨_,rfl⟩,.inr ⟨_,qg,jL⟩⟩
 obtain⟨a0,cap,hv,_,_⟩:=Wr hA.row;rw[hv]at zb ⊢;unfold zi at zb ⊢
 go_enter func239,ntmps239
 go_wp2
 go_ret
 exact⟨rfl,rfl,zb⟩
theorem pY(C:w.cell? (vA bt 3)=some va)(g:wh w va l)(ia:l.length<=100):
  Calls prog 230 #[.pointer (some (vA bt 1))] w fun e w'=>e=vR (.func (.func 238) #[] #[vP w.heap.size])/\w'=w.alloc (.cells #[.pointer (some (vA bt 1))] 132) /\
   ∀T:Nat->Prop,(∀b,T b->b<w.heap.size)->¬T bt->(∀b,va.ownBlock=some b->¬T b) ->
    SeqM prog 238 #[vP w.heap.size] (fun p:Pw=>#[zi p.ze]) (fun _=>False) 4 T l.reverse w':=by
 have Ga:∀(fn:Fn) (first cap:Array Value) (w:World),(Instr.makeFunc fn first cap).run prog w=.ok (.func fn first cap) w:=fun _ _ _ _=>rfl
 have zb:∀T:Nat->Prop,(∀b,T b->b<w.heap.size)->¬T bt->(∀b,va.ownBlock=some b->¬T b) ->
    SeqM prog 238 #[vP w.heap.size] (fun p:Pw=>#[zi p.ze]) (fun _=>False) 4 T l.reverse (w.alloc (.cells #[.pointer (some (vA bt 1))] 132)):=by
  intro T G Ia ca k a J H W P oa Aa z Z R la;have M:∀k:Nat,Fence.wide.depth.isSome=true->1<=k:=fun k h=>by simp[Fence.wide]at h
  have ja:Bw w W:=s5 (show Bw w (w.alloc (.cells #[.pointer (some (vA bt 1))] 132)) by exact cl) P;have aa:zz W w.heap.size 132 (.pointer (some (vA bt 1))):=(zz.new w 132 _).below P s_;have Ha:w.heap.size<W.heap.size:=aa.lt;have ka:bt<w.heap.size:=by have:=VE w _ C;simpa using this
  have Fa:w.heap.size+1<=a:=by simpa using oa
  have ga:=fun b (hb:va.ownBlock=some b)=>UI g.row hb
  have F:=fun W' (L:Bw w W')=>rP (w:=W') ⟨s8 (T:=fun _=>False) g.row (zd.new L) (fun _ _ e=>e),fun p hp=>(g.zu p hp).below L (g.zu p hp).lt⟩ ia
  have c1:=aa.cell;have N:W.cell? (vA bt 3)=some va:=(ja.cell (p:=vA bt 3) ka).trans C;have Da:¬(bt=W.heap.size):=o_;have Ca:¬(w.heap.size=W.heap.size):=o_;have r:=qk l;obtain⟨a0,cap,D,_,_⟩:=Wr g.row;have ta:Hid (va=.slice a0 l.length cap):=D;obtain⟨n,U⟩:∃n,n=l.length:=⟨_,rfl⟩;rw[<-U]at D;clear U;subst D;have da:(W.alloc (.cells #[.func (.yield a) #[] #[]] 232)).cell? (vA bt 3)=some (.slice a0 n cap):=(World.cell?_alloc_lt _ _ _ t_).trans N;have ba:(W.alloc (.cells #[.func (.yield a) #[] #[]] 232)).cell? (vA w.heap.size 0)=some (.pointer (some (vA bt 1))):=(World.cell?_alloc_lt _ _ _ t_).trans c1;clear C c1 N;generalize na:Yo l=X at F r;clear na
  refine callsIn_of_wp_marks func238 rfl trivial ?_ rfl
  simp only[ntmps238,zC,Nat.reduceAdd,Nat.reduceSub]
  gi_wp2_with ((first|refine⟨trivial,M _,?_⟩|refine⟨trivial,?_⟩);gi_at_call 239;refine(UK.2 (F _ Vy)).mono ?_;rintro e d ⟨rfl,rfl,o⟩)
  obtain⟨d,f⟩:∃d,d=(W.alloc (.cells #[.func (.yield a) #[] #[]] 232)).alloc (.cells #[.slice a0 n cap] 98):=⟨_,rfl⟩;have ua:d.heap.size=W.heap.size+2:=by rw[f];simp
  have sa:zz d W.heap.size 232 (.func (.yield a) #[] #[]):=by rw[f];exact(zz.new W 232 _).alloc _
  have ra:Bw W d:=by rw[f];exact cl
  rw[Vv]at o;simp only[<-f]at o ⊢;have hq:=o (fun b=>T b\/b=a) (fun b hb e=>by
   have:=ga b hb
   rcases e with e|e
   ·exact ca b hb e
   ·omega) (fun e=>by
   rcases e with e|e
   ·have:=G _ e;omega
   ·omega)
  clear o F f ba da;have I:∀b,False\/(d.heap.size<=b/\b<d.heap.size+2+0)->False\/(W.heap.size<=b/\b<W.heap.size+4):=fun b e=>e.imp id (fun e=>by omega)
  refine Y6 (T:=fun b=>T b\/b=a) (S:=fun _=>False) rfl (enters_of func247 k_ rfl) hq (Below.refl _ _) (fun _=>rfl) (fun b e=>e.elim) (fun b e=>by
    rcases e with e|e
    ·have:=G _ e;omega
    ·omega)
   (fun (pre:List (Pw×Nat)) A=>J (pre.map Prod.fst) A/\zz A W.heap.size 232 (.func (.yield a) #[] #[]))
   (fun c (pre:List (Pw×Nat)) A=>c=.ret/\H (pre.map Prod.fst) A)
   (fun pre A B j q=>⟨z _ _ _ j.1 (q.mono I),j.2.zf q (fun e=>by rcases e with e|e;exact e;omega)⟩)
   (fun c pre A B j q=>⟨j.1,Z _ _ _ j.2 (q.mono I)⟩)
   ⟨z _ _ _ la (zd.new ra),sa⟩
   (fun x=>{tmps:=#[.func (.yield a) #[] #[],vP w.heap.size,vP W.heap.size,undef,zi x.1.ze,.pointer (some (vA bt 1)),.pointer (some (vA bt 1)),.pointer (some (vA bt 3)),.slice a0 n cap,.func (.func 247) #[] #[vP (W.heap.size+1)],vI x.2,zi x.1.ze,undef,undef,undef,undef],defers:=[]}) ?assign ?body ?done ?stop
  case assign =>
   intro l x W K ma
   gi_wp2
   exact ma
  case body =>
   rintro l2 pre x s ⟨i,t⟩ Ea m
   have V:pre.map Prod.fst++[x.1] <+: l.reverse:=by
    rw[<-r]
    have:=m.map Prod.fst
    simpa using this
   obtain⟨fn,tmps,assign,body,qa,Q⟩:=R (k-1) _ x.1 s i o_ V;have Ja:=t.cell;have O:=Q.mono (R':=fun e W'=>(e=vR (.bool true)/\(J ((pre++[x]).map Prod.fst) W'/\zz W' W.heap.size 232 (.func (.yield a) #[] #[]))/\zd (fun b=>(T b\/b=a)\/d.heap.size+2+0<=b) s W')\/(e=vR (.bool false)/\H ((pre++[x]).map Prod.fst) W'/\zd (fun b=>(T b\/b=a)\/d.heap.size+2+0<=b) s W')) (fun e W' h=>by
    have Y:∀b,(T b\/b=a\/W.heap.size+4<=b)->((T b\/b=a)\/d.heap.size+2+0<=b):=fun b e=>by
     rcases e with e|e|e
     ·exact .inl (.inl e)
     ·exact .inl (.inr e)
     ·exact .inr o_
    rcases h with ⟨u,v,h3⟩|⟨u,v,h3⟩
    ·refine .inl ⟨u,⟨by simpa using v,t.zf h3 (fun e=>?_)⟩,h3.mono Y⟩
     rcases e with e|e|e
     ·have:=G _ e;omega
     ·omega
     ·omega
    ·exact .inr ⟨u,by simpa using v,h3.mono Y⟩)
   clear Q R hq m V i;unfold zi at qa ⊢
   gi_wp2_with (refine⟨M _,?_⟩;refine O.mono ?_;clear O;rintro e Ba (⟨rfl,ea,E⟩|⟨rfl,ha,E⟩))
   ·exact⟨E,ea⟩
   ·exact⟨E,rfl,ha⟩
  case done =>
   rintro A ⟨i,t⟩ y
   gi_wp2
   refine⟨s_,.inl ⟨_,_,rfl,run_takeDeferred y,?_⟩⟩
   rw[r]at i
   exact⟨.tuple #[],by simp[results,results238,go_sem],⟨_,rfl⟩,.inl (z _ _ _ i ((zd.refl _ _).putObj (.inr o_) _))⟩
  case stop =>
   rintro c pre A m ⟨rfl,pa⟩ y
   gi_wp2
   refine⟨s_,.inl ⟨_,_,rfl,run_takeDeferred y,?_⟩⟩
   refine⟨.tuple #[],by simp[results,results238,go_sem],⟨_,rfl⟩,.inr ⟨pre.map Prod.fst,?_,Z _ _ _ pa ((zd.refl _ _).putObj (.inr o_) _)⟩⟩
   rw[<-r]
   exact m.map _
 unfold zi at zb ⊢
 go_enter func230,ntmps230
 go_wp2
 go_ret
 exact⟨rfl,rfl,zb⟩
def cn (N:Act->World->Prop)(e:Exit)(a:Act)(w:World):Prop:=e=.normal/\N a w
theorem iy{N:Act->World->Prop}(h:LetsOut (cn N)):False:=by
 obtain⟨a,w,h,_⟩:=h
 cases h
def sf:Op->Bool
 | .defer _=>true
 |_=>false
def Z6 (a:Array Oper):Bool:=a.all fun o=>!(sf o.op)
theorem nU{a:Array Oper}(h:Z6 a=true){o:Oper}(f:a[i]?=some o):∀c,o.op≠.defer c:=by
 intro c d;unfold Z6 at h;rw[Array.all_eq_true]at h;obtain⟨b,e⟩:=Vz.1 f
 have:=h i b
 rw[e,d]at this
 simp[sf]at this
theorem oK{b:Array Oper}{l:Nat}{N:Act->World->Prop}{Q:Exit->Act->World->Prop}(p:Z6 b=true){K:Act->World->Prop}{a:Act} 
  (h:wpOp P b (cn N) i K a w):wpOpIn (Fence.wide.inRound l) n P b Q i K a w:=by
 unfold wpOp at h;unfold wpOpIn
 cases j:b[i]? with
 |none=>simp only[j]at h ⊢;exact h
 |some o =>
  simp only[j]at h ⊢
  by_cases k:Region.wanted o (yielded b a.tmps)=true
  ·rw[if_pos k]at h ⊢
   rcases h with h|⟨_,h⟩
   ·refine⟨fun _ _=>trivial,?_⟩
    rw[Oper.semAt_eq _ _ _ (nU p j)];unfold Oper.wp at h;generalize (execOp a.eval o).run P w=r at h ⊢
    cases r with
    |ok x w' =>
     cases x with
     |value v=>exact h
     |skip=>exact h
     |defer d=>exact h
     |enter f args =>
      refine⟨fun e=>(by simp[Fence.wide]at e),?_⟩
      refine CallsIn.inRound l ((UK.2 h).mono ?_)
      intro e u g
      cases e with
      |returned v=>exact g
      |panicked c=>exact absurd g.1 e_
      |outgrown=>exact(iy g).elim
     |row row args =>
      refine⟨fun e=>(by simp[Fence.wide]at e),?_⟩
      intro c m _;obtain⟨v,t,q,s⟩:=h c m
      exact⟨v,t,q,stepsIn_wide.2 s⟩
     |_=>exact h.elim
    |halt x w' =>
     cases x with
     |panic v=>exact absurd h.1 e_
     |_=>exact h.elim
   ·exact(iy h).elim
  ·rw[if_neg k]at h ⊢
   exact⟨fun _ _=>trivial,h⟩
theorem gm{b:Array Oper}{g:Region.Mode}{l:Nat}{N:Act->World->Prop}{Q:Exit->Act->World->Prop}{S:World->Prop}(f:Z6 b=true)(c:∀a w,N a w->Q .normal a w):
  ∀(fuel:Nat) (d:Array Bool) (a:Act) (w:World),wpAnyH P g b (cn N) S fuel d a w->wpAnyIn (Fence.wide.inRound l) n P g b Q fuel d a w
 |0,_,_,_,h=>⟨h.1,c _ _ h.2.2⟩
 |fuel+1,d,a,w,h=>⟨fun e=>c _ _ (h.1 e).2,fun i m=>oK f (wpOp_mono (fun j w' k=>gm f c fuel _ j w' k.2) (h.2 i m))⟩
theorem YA{b:Array Oper}{l:Nat}{K:Act->World->Prop}{Q:Exit->Act->World->Prop}{a:Act}(S:World->Prop)(e:P.follows .mixedOrders=true)(c:Z6 b=true)(d:S w.drew)
  (h:S w.drew->wpAnyH P .any b (cn K) S b.size (Array.replicate b.size false) a w.drew):(Code.region id b true).wpIn (Fence.wide.inRound l) n P (Exit.then K Q) a w :=
 wpIn_region_any e (gm c (fun _ _ h=>h) _ _ _ _ (h d))
end
section
open Go.RowKit
variable {W W' w f g:World}{b b' bt i n n' rr:Nat}{c d a ev r rt v v' va vw:Value}{qJ zt:List (Int×Int)}{p:Pw}{t':TypeId}{QP xs:List Value}{vs vs':Array Value}{T:Nat->Prop}{aY bg ws zh:List Pw}
structure YQ (W:World) (rr bt:Nat) (rt ev:Value) (zt:List (Int×Int)):Prop where
 zl:zg W rr 188 #[rt,.pointer (some (vA bt 1)),ev]
 row:W.ownsRow 0 60 2 ev zt.length (UZ zt)
theorem iw(h:YQ w rr bt rt ev zt)(L:zt.length<=10000)(hp:zg w p.ze 105 p.cells)(k:Int):
  Calls prog 212 #[vP rr,vI k,zi p.ze] w fun e w'=>e=vT #[]/\∃a,YQ w' rr bt rt a (zt++[(k,p.x.zm)])/\zd (fun y=>y=rr\/ev.ownBlock=some y) w w'/\(∀b,a.ownBlock=some b->ev.ownBlock=some b\/w.heap.size<=b):=by
 have q:ev.ownBlock≠some rr:=UY h.row h.zl d_;have A:=h.zl.lt;have j:=fun (W:World) (F:Bw w W) (v:Nat) (B:zg W v 60 #[vI k,vI p.x.zm])=>Wv un48 Zi o_ W ev zt.length (UZ zt) (s8 (T:=fun _=>False) h.row (zd.new F) (fun _ _ e=>e)) v 1 1 o_ [vI k,vI p.x.zm] rfl B (fun u s=>by simp at s;rcases s with rfl|rfl<;>rfl) (by unfold maxLen;omega) o_
 have i:∀W,Bw w W->∀g' cap' w',xq W ev.ownBlock 60 2 (zt.length+1) (UZ zt++[vI k,vI p.x.zm]) g' cap' w'->zg w' rr 188 #[rt,.pointer (some (vA bt 1)),ev]/\Hid (∀c,Below (w'.setCell (vA rr 2) (vS g' (zt.length+1) cap')).heap.size (w'.setCell (vA rr 2) (vS g' (zt.length+1) cap')) c->∃a,YQ c rr bt rt a (zt++[(k,p.x.zm)])/\zd (fun y=>y=rr\/ev.ownBlock=some y) w c/\(∀b,a.ownBlock=some b->ev.ownBlock=some b\/w.heap.size<=b)):=fun W g g' cap' w' R=>by
  have o:=(h.zl.below g A).zf R.zf q;have M:=g.size;have E:g'≠rr:=fun e=>by
   rcases R.new with l|l
   ·rw[e]at l;exact q l
   ·omega
  refine⟨o,fun c m=>⟨vS g' (zt.length+1) cap',⟨?_,?_⟩,?_,?_⟩⟩
  ·have:=o.set 2 (vS g' (zt.length+1) cap')
   have h3:zg (w'.setCell (vA rr 2) (vS g' (zt.length+1) cap')) rr 188 #[rt,.pointer (some (vA bt 1)),vS g' (zt.length+1) cap']:=by simpa using this
   exact h3.below m h3.lt
  ·rw[show(zt++[(k,p.x.zm)]).length=zt.length+1 by simp,ft]
   exact s8 (T:=fun _=>False) (UQ R.own (by simp[Value.ownBlock];exact E) _) (zd.new m) (fun _ _ e=>e)
  ·exact((((zd.new (T:=fun y=>y=rr\/ev.ownBlock=some y) g).Vf R.zf (fun b _ e=>.inr e))).setCell (p:=vA rr 2) (.inl rfl) _).WW m
  ·intro b hb
   simp[Value.ownBlock]at hb
   subst hb
   exact R.new.imp id (fun e=>by omega)
 have c2:=h.zl.cell 2;have d0:=hp.cell 0;unfold Pw.cells at d0;simp only[s7]at c2 d0;obtain⟨a0,D,t,C,I⟩:=Wr h.row;clear C I;generalize UZ zt=P at j i;generalize G:zt.length=n at j i t;clear G h;have z:ev=.slice a0 n D:=t;subst z;unfold zi
 go_enter func212,ntmps212
 go_region_law (refine WL rfl (.tmp 10) (.tmp 17) 48 48 rfl _ _ ?_ ?_ (j _ ?_ ?_ ?_) ?_;(focus (simp[Act.eval,Act.put]));(focus ((try simp[Act.eval,Act.put]);(try rfl)));(focus exact cl);(focus exact s6);rintro S f ⟨g1,Q,rfl,d⟩;obtain⟨r,J⟩:=i _ cl _ _ _ d;have K:=r.frozen 2;have H:=r.cell 2;have N:=d.le;have O:=d.mx;simp only[s7]at H)
 all_goals (go_wp2_with fail;go_end0;refine⟨rfl,J.out _ ?_⟩;exact cl)
theorem Xu{t:TypeId}{s i:Nat}(h:W.ownsRow 0 t s v n xs)(c:W.ownsRow 0 t' i v' n' QP)(ht:t≠t')(hb:v.ownBlock=some b):v'.ownBlock≠some b:=by
 intro e
 rcases h.2 with ⟨rfl,_⟩|⟨g,cap,k,rfl,_,f,_⟩
 ·cases hb
 ·simp[Value.ownBlock]at hb
  subst hb
  rcases c.2 with ⟨rfl,_⟩|⟨g',cap',j,rfl,_,a,_⟩
  ·cases e
  ·simp[Value.ownBlock]at e
   subst e
   have:=f.symm.trans a
   injection this with this;injection this with _ d _
   exact ht d
theorem Wh{t:TypeId}(h:zg W b t vs)(a:zg W b' t' vs')(ht:t≠t'):b≠b':=by
 rintro rfl
 have:=h.symm.trans a
 injection this with this;injection this with _ c _
 exact ht c
structure Xm (W:World) (rr bt:Nat) (rt r zw vw va ev:Value) (ws zh:List Pw) (zt:List (Int×Int)):Prop where
 bk:xh W bt r zw vw va ws zh
 rnd:YQ W rr bt rt ev zt
def LdT (rr bt:Nat)(vw va ev:Value)(y:Nat):Prop:=y=rr\/wz bt vw va y\/ev.ownBlock=some y
structure LdN (w:World) (vw va ev c d a:Value):Prop where
 bk:∀b,c.ownBlock=some b\/d.ownBlock=some b->vw.ownBlock=some b\/va.ownBlock=some b\/w.heap.size<=b
 ev:∀b,a.ownBlock=some b->ev.ownBlock=some b\/w.heap.size<=b
theorem LdN.all(h:LdN w vw va ev c d a):∀b,c.ownBlock=some b\/d.ownBlock=some b\/a.ownBlock=some b->vw.ownBlock=some b\/va.ownBlock=some b\/ev.ownBlock=some b\/w.heap.size<=b:=fun b e=>by
 rcases e with e|e|e
 ·rcases h.bk b (.inl e) with e|e|e
  ·exact .inl e
  ·exact .inr (.inl e)
  ·exact .inr (.inr (.inr e))
 ·rcases h.bk b (.inr e) with e|e|e
  ·exact .inl e
  ·exact .inr (.inl e)
  ·exact .inr (.inr (.inr e))
 ·rcases h.ev b e with e|e
  ·exact .inr (.inr (.inl e))
  ·exact .inr (.inr (.inr e))
theorem YQ.zf(h:YQ W rr bt rt ev zt)(a:zd T W W')(c:¬T rr)(d:∀b,ev.ownBlock=some b->¬T b):YQ W' rr bt rt ev zt:=⟨h.zl.zf a c,s8 h.row a d⟩
theorem xh.zf{zw:Value}(h:xh W bt r zw vw va ws zh)(a:zd T W W')(c:¬T bt)(d:∀b,vw.ownBlock=some b->¬T b)(h3:∀b,va.ownBlock=some b->¬T b)(e:∀p∈ws++zh,¬T p.ze):xh W' bt r zw vw va ws zh :=
 ⟨h.zl.zf a c,s8 h.yc a d,s8 h.yr a h3,fun p hp=>(h.zu p hp).zf a (e p hp),h.sep,h.nd,h.inj,h.len⟩
theorem Xm.bE{zw:Value}(h:Xm W rr bt rt r zw vw va ev ws zh zt):¬wz bt vw va rr/\∀b,ev.ownBlock=some b->¬wz bt vw va b:=by
 refine⟨?_,fun b hb=>?_⟩
 ·rintro(e|e|e)
  ·exact Wh h.rnd.zl h.bk.zl d_ e
  ·exact UY h.bk.yc h.rnd.zl d_ e
  ·exact UY h.bk.yr h.rnd.zl d_ e
 ·rintro(e|e|e)
  ·subst e;exact UY h.rnd.row h.bk.zl d_ hb
  ·exact Xu h.bk.yc h.rnd.row d_ e hb
  ·exact Xu h.bk.yr h.rnd.row d_ e hb
theorem Xm.rR{zw:Value}(h:Xm W rr bt rt r zw vw va ev ws zh zt):¬(bt=rr\/ev.ownBlock=some bt)/\(∀b,vw.ownBlock=some b->¬(b=rr\/ev.ownBlock=some b))/\(∀b,va.ownBlock=some b->¬(b=rr\/ev.ownBlock=some b))/\∀p∈ws++zh,¬(p.ze=rr\/ev.ownBlock=some p.ze):=by
 refine⟨?_,fun b hb=>?_,fun b hb=>?_,fun p hp=>?_⟩
 ·rintro(e|e)
  ·exact Wh h.bk.zl h.rnd.zl d_ e
  ·exact UY h.rnd.row h.bk.zl d_ e
 ·rintro(e|e)
  ·subst e;exact UY h.bk.yc h.rnd.zl d_ hb
  ·exact Xu h.bk.yc h.rnd.row d_ hb e
 ·rintro(e|e)
  ·subst e;exact UY h.bk.yr h.rnd.zl d_ hb
  ·exact Xu h.bk.yr h.rnd.row d_ hb e
 ·rintro(e|e)
  ·exact Wh (h.bk.zu p hp) h.rnd.zl d_ e
  ·exact UY h.rnd.row (h.bk.zu p hp) d_ e
theorem Xm.told{zw:Value}(h:Xm w rr bt rt r zw vw va ev ws zh zt)(k:Xm f rr bt rt r zw c d ev bg aY zt)(j:zd (wz bt vw va) w f)(o:∀b,c.ownBlock=some b\/d.ownBlock=some b->vw.ownBlock=some b\/va.ownBlock=some b\/w.heap.size<=b)
  (p:YQ g rr bt rt a qJ) (i:zd (fun y=>y=rr\/ev.ownBlock=some y) f g) (n:∀b,a.ownBlock=some b->ev.ownBlock=some b\/f.heap.size<=b) :
  Xm g rr bt rt r zw c d a bg aY qJ/\zd (LdT rr bt vw va ev) w g/\LdN w vw va ev c d a:=by
 obtain⟨a1,a2,l,m⟩:=k.rR
 refine⟨⟨k.bk.zf i a1 a2 l m,p⟩,(j.mono (fun y e=>.inr (.inl e))).Vf i (fun b _ e=>e.elim (fun e=>.inl e) (fun e=>.inr (.inr e))),?_⟩
 exact⟨o,fun b e=>(n b e).imp id (fun e=>Nat.le_trans j.size e)⟩
theorem o4{zw:Value}(h:Xm w rr bt rt r zw vw va ev ws zh zt)(z:zt.length<=10000)(v:ws[i]?=some p):
  Calls prog 173 #[vP rr,zi p.ze] w fun e w'=>e=vT #[]/\∃c d a,Xm w' rr bt rt r zw c d a (ws.take i++ws.drop (i+1)) (zh++[p]) (zt++[(1,p.x.zm)])/\zd (LdT rr bt vw va ev) w w'/\LdN w vw va ev c d a:=by
 have c1:=h.rnd.zl.cell 1;simp only[s7]at c1;have j:=o0 h.bk v;have m:∀f c d,xh f bt r zw c d (ws.take i++ws.drop (i+1)) (zh++[p])->zd (wz bt vw va) w f->Xm f rr bt rt r zw c d ev (ws.take i++ws.drop (i+1)) (zh++[p]) zt:=fun f c d hb y=>⟨hb,h.rnd.zf y h.bE.1 h.bE.2⟩
 unfold zi at j ⊢
 go_enter func173,ntmps173
 go_wp2_with fail
 refine j.mono ?_
 rintro e f ⟨rfl,c,d,o,l,t⟩
 have k:=m f c d o l;have b:=iw k.rnd z (k.bk.zu p s_) 1;clear j m;unfold zi at b
 go_wp2_with fail
 refine b.mono ?_
 rintro e g ⟨rfl,a,u,q,s⟩
 have n:=h.told k l t u q s;clear b
 go_wp2_with fail
 go_end0
 exact⟨rfl,_,_,_,n⟩
end
end Go.Proofs.YtphclnolomgjoaaGreatDoor
