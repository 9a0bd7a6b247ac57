import Derived.Test.YtphclnolomgjoaaGreatDoorC29
set_option linter.unusedVariables false
set_option linter.unusedSimpArgs false
set_option maxRecDepth 100000
set_option maxHeartbeats 4000000
namespace Go.Proofs.YtphclnolomgjoaaGreatDoor
open Tryz
open Go.RowKit
variable {τ : Nat->Tag}{W W' w:World}{K bp bq br bt bw cap cp gp i n₀ t:Nat}{ay:List Tw}{xs:List Value}{v:Value}{ks nodes:List Node}{th:Bool}{vp vq:Array Value}{n q qn:Node}{k':List Bs}
theorem eq52(d:Nat)(p:ByteArray)(a b:Int)(c:Bool)(w:World):(Op.equalIn (d+3) 52 (.agg #[.string p,vI a,vI b,.bool c]) (.agg #[.string p,vI a,vI b,.bool c])).run prog w=.ok true w:=by
 have Lw:=underlying52;have vX:=underlying35;have u9:=underlying9;have u4:=underlying4;have Ma:=sizeOf35;have He:=isAgg35;have z9:=sizeOf9;have a9:=isAgg9;have z4:=sizeOf4;have a4:=isAgg4;unfold Op.equalIn;simp only[Sem.run_bind,run_underlying Lw,Result.andThen_ok]
 simp[go_sem,Ma,He,z9,a9,z4,a4,List.range',Std.Legacy.Range.forIn_eq_forIn_range',part,eq35]
theorem qv1(p:ByteArray)(a b:Int)(c:Bool)(w:World):(Op.equalIn 10000 52 (.agg #[.string p,vI a,vI b,.bool c]) (.agg #[.string p,vI a,vI b,.bool c])).run prog w=.ok true w:=by
 rw[show(10000:Nat)=9997+3 from rfl,eq52]
def qwd (W:World)(bt br:Nat)(nm:Int):Prop :=
 ∃(cw:ByteArray) (d0 d1:Int) (ad:Bool) (er:Int),
  (∀W1,Bw W W1->Cl 22 #[vP bt,vI nm] W1 fun e w'=>e=.returned (.tuple #[.agg #[.string cw,vI d0,vI d1,.bool ad],vI er])/\Bw W1 w') /\
  (∀W1,Bw W W1->Cl 127 #[vP br,vI nm] W1 fun e w'=>e=.returned (.tuple #[.agg #[.string cw,vI d0,vI d1,.bool ad],vI er])/\Bw W1 w')
theorem qsr{x:Tw}(hT:TwS τ W t x)(A:qbj K x)(nm:Int):qwd W x.bt x.br nm:=by
 have TT:=A.com.tree;obtain⟨r,dN,oc⟩:=hT.P.bk;have hp:=fun W1 (hb:Bw W W1)=>qpc TT (oc.below hb) nm
 have hq:=fun W1 (hb:Bw W W1)=>qum (hT.R.below hb) A.inv.wks.wks nm
 have key:∀e',qs5 x.Ws nm e'->∃(cw:ByteArray) (d0 d1:Int) (ad:Bool) (er:Int),e'=.returned (.tuple #[.agg #[.string cw,vI d0,vI d1,.bool ad],vI er]):=fun e' h=>by
  rcases h with ⟨y,_,_,rfl⟩|⟨_,rfl⟩
  ·exact⟨_,_,_,_,_,rfl⟩
  ·exact⟨_,_,_,_,_,rfl⟩
 have Jh:∃e',qs5 x.Ws nm e':=by
  by_cases h:∃y∈x.Ws,y.num=nm
  ·obtain⟨y,hy,hn⟩:=h
   exact⟨_,.inl ⟨y,hy,hn,rfl⟩⟩
  ·exact⟨_,.inr ⟨fun y hy e=>h ⟨y,hy,e⟩,rfl⟩⟩
 obtain⟨e',uz⟩:=Jh;obtain⟨cw,d0,d1,ad,er,rfl⟩:=key e' uz
 refine⟨cw,d0,d1,ad,er,fun W1 hb=>(hp W1 hb).mono fun e w' h=>A.com.rel.work A.inv.wks h uz,fun W1 hb=>(hq W1 hb).mono fun e w' h=>⟨?_,h.2⟩⟩
 obtain⟨h1,_⟩:=h
 rcases h1 with ⟨y,hy,hn,rfl⟩|⟨a7,rfl⟩<;>rcases uz with ⟨z,hz,hm,e2⟩|⟨D9,e2⟩
 ·have:y=z:=qew A.inv.wks.nums hy hz (hn.trans hm.symm)
  subst this
  exact e2.symm
 ·exact absurd hn (D9 y hy)
 ·exact absurd hm (a7 z hz)
 ·exact e2.symm
theorem qri(s s2:ByteArray)(T a0 a1 c0 c1 nm:Int)(hW:qwd W bt br nm):
  Cl 75 #[vP bw,.agg #[vP bt,vP br],.agg #[vI 7,vI T,.string s,.string s2,vI a0,vI a1,vI c0,vI c1,vI nm]] W fun e w'=>e=.returned (.bool true)/\Bw W w':=by
 obtain⟨cw,d0,d1,ad,er,gO,ie⟩:=hW;have he:=qv1;have b4:Blk ((W.alloc (.cells #[vP bt,vP br] 128)).alloc (.cells #[vI 7,vI T,.string s,.string s2,vI a0,vI a1,vI c0,vI c1,vI nm] 87)) W.heap.size 128 #[vP bt,vP br]:=(Blk.new W 128 _).alloc _;have b5:Blk ((W.alloc (.cells #[vP bt,vP br] 128)).alloc (.cells #[vI 7,vI T,.string s,.string s2,vI a0,vI a1,vI c0,vI c1,vI nm] 87)) (W.heap.size+1) 87 #[vI 7,vI T,.string s,.string s2,vI a0,vI a1,vI c0,vI c1,vI nm]:=Blk.new' (by simp)
 go_enter func75,ntmps75
 go_wp2_with (first
  |(go_at_call 22;refine(gO _ ?_).mono ?_;(focus exact bel2);rintro e w1 ⟨rfl,aa⟩;have aj:Bw W w1:=qac (by exact bel2) aa;have d4:=b4.below aa (by simp<;>omega);have d5:=b5.below aa (by simp<;>omega);have e0:=d4.cell 1;have e8:=d5.cell 8;have cJ:=aj.size;have l5:=d5.lt;have l4:=d4.lt;simp only[xq0,xq1,xq2]at e0 e8)
  |(go_at_call 127;refine(ie _ ?_).mono ?_;(focus exact bel2);rintro e w2 ⟨rfl,af⟩;have aw:Bw W w2:=qac (aj.alloc cJ _) af;have f7:=(Blk.new w1 52 #[.string cw,vI d0,vI d1,.bool ad]).below af (by simp);have dO:=aw.size;have l7:=f7.lt;have c7:=f7.cell)
  |(go_at_call 112;refine(qm0 _ _).mono ?_;rintro e w6 ⟨rfl,vF⟩;subst vF))
 all_goals go_ret
 all_goals exact⟨rfl,by exact bel2⟩
theorem qou{x:Tw}(hK:K<=2000000)(h:St n₀ τ W bw ay (200*K))(hA:∀y∈ay,qbj K y)(hx:ay[t]?=some x)(s s2:ByteArray)(T a0 a1 c0 c1 nm:Int)(W1:World)(hb:Bw W W1):
  Cl 75 #[vP bw,.agg #[vP x.bt,vP x.br],.agg #[vI 7,vI T,.string s,.string s2,vI a0,vI a1,vI c0,vI c1,vI nm]] W1 (qci n₀ τ W bw ay.length (K+1)):=by
 have h1:=h.below hb;obtain⟨cd,bO,cC,bL,cy,ns,es,ms,me,hS⟩:=id h1;have hT:=hS.tw t x hx;have A:=hA x (xr2 hx)
 refine(qri s s2 T a0 a1 c0 c1 nm (qsr hT A nm)).mono ?_
 rintro e w' ⟨rfl,af⟩
 obtain⟨cd,bO,cC,bL,cy,ns,es,ms,me,ja⟩:=h1.below af
 exact⟨rfl,_,ay,(qbh.below hb).trans (qbh.below af),⟨cd,bO,cC,bL,cy,ns,es,ms,me,ja.law,by have:=ja.n1;omega,by have:=ja.n2;omega,ja.row,ja.tT,ja.tw,ja.lo,ja.le⟩,fun y hy=>(hA y hy).mono (by omega),Nat.le_refl _,Nat.le_succ _⟩
theorem qr2(hK:K<=1999999)(h:St n₀ τ W bw ay (200*K))(hA:∀y∈ay,qbj K y)(cM:0<ay.length)(d_:ay.length<=100000000)(s s2:ByteArray)(hs:s.size<=2000000)(cv:s2.size<=2000000)(T a0 a1 c0 c1 nm:Int)
  (gw : -9223372036854775808<=T) (jb:T<=9223372036854775807) :
  Cl 36 #[vP bw,.agg #[vI 7,vI T,.string s,.string s2,vI a0,vI a1,vI c0,vI c1,vI nm]] W (qci n₀ τ W bw ay.length (K+1)):=by
 obtain⟨gT,cT,cn,lS,jS,rz,dL,bG⟩:=h.qh5 cM;obtain⟨r,hr,dd⟩:=qem T ay.length gw jb cM (by omega);obtain⟨x,hx⟩:∃x,ay[r]?=some x:=⟨_,xr1 hr⟩;have ma:=fun W1 hb=>qou (by omega) h hA (t:=r) (x:=x) hx s s2 T a0 a1 c0 c1 nm W1 hb
 obtain⟨q0,q1⟩:=bG r x hx;obtain⟨k,hk⟩:∃k,k=ay.length:=⟨_,rfl⟩;rw[<-hk]at cM d_ jS dL ma hr dd ⊢;have ma:∀W1,Bw W W1->Cl 75 #[vP bw,.agg #[vP x.bt,vP x.br],.agg #[vI 7,vI T,.string s,.string s2,vI a0,vI a1,vI c0,vI c1,vI nm]] W1 fun e w'=>e=.returned (.bool true)/\qci n₀ τ W bw k (K+1) (.returned (.bool true)) w':=fun W1 hM=>(ma W1 hM).mono (fun e w' hS=>⟨hS.1,by rw[<-hS.1];exact hS⟩)
 generalize qci n₀ τ W bw k (K+1)=X at ma ⊢;clear h hA hk bG hx;generalize x.bt=bt at ma q0;generalize x.br=br at ma q1;have gC:(r:Int)<k:=by omega
 have dN:(0:Int)<=r:=by omega
 have eE:((k:Int) == 0)=false:=by simp;omega
 have b3:Blk (W.alloc (.cells #[vI 7,vI T,.string s,.string s2,vI a0,vI a1,vI c0,vI c1,vI nm] 87)) W.heap.size 87 #[vI 7,vI T,.string s,.string s2,vI a0,vI a1,vI c0,vI c1,vI nm]:=Blk.new W 87 _;have aO:Bw W (W.alloc (.cells #[vI 7,vI T,.string s,.string s2,vI a0,vI a1,vI c0,vI c1,vI nm] 87)):=(Below.refl _ _).alloc (Nat.le_refl _) _
 go_enter func36,ntmps36
 go_upto_region 7 with fail
 generalize W.alloc (.cells #[vI 7,vI T,.string s,.string s2,vI a0,vI a1,vI c0,vI c1,vI nm] 87)=W0 at b3 aO ⊢;have cZ:=aO.size;have rZ:=b3.lt;have d0:=(aO.cell (p:=vA bw 0) cn).trans dL;have d1:=b3.cell 1;have p0:=(aO.cell (p:=vA gT (r*2)) lS).trans q0;have p1:=(aO.cell (p:=vA gT (r*2+1)) lS).trans q1;simp only[xq0,xq1,xq2]at d1;clear dL q0 q1;have n1:¬(bw=W0.heap.size):=by omega
 have n2:¬(gT=W0.heap.size):=by omega
 have n3:¬(W.heap.size=W0.heap.size):=by omega
 have ru:bw<W0.heap.size:=by omega
 have rI:gT<W0.heap.size:=by omega
 go_cut [6] from 62 to 75 (fun q wx=>∃b6,q=vP b6/\Bw W wx/\Blk wx b6 128 #[vP bt,vP br]/\Blk wx W.heap.size 87 #[vI 7,vI T,.string s,.string s2,vI a0,vI a1,vI c0,vI c1,vI nm]/\W.heap.size<b6)
 case first =>
  go_region_held3 (fun w'=>w'.cell? (vA bw 0)=some (vS gT k cT)/\w'.cell? (vA W.heap.size 1)=some (vI T)/\w'.cell? (vA gT (r*2))=some (vP bt)/\w'.cell? (vA gT (r*2+1))=some (vP br)) (go_keep)
   (first
   |(go_at_call 66;refine(dd _).mono ?_;rintro e w1 ⟨rfl,bX⟩;subst bX))
  all_goals go_wp2_with fail
  all_goals go_meet
  all_goals exact⟨_,rfl,(by exact bel2),(by first|(with_reducible exact Blk.new' (by simp))|(with_reducible exact Blk.drew (Blk.new' (by simp)))),(by exact blk2),rZ⟩
 case rest =>
  obtain⟨b6,rfl,cY,i_,oG,pL⟩:=hcut;clear dd p0 p1 d0 d1 b3 aO;have vO:=cY.size;have qS:=i_.cell 0;have qT:=i_.cell 1;have e3:=oG.cell;simp only[xq0,xq1,xq2]at qS qT
  go_wp2_with (go_at_call 75;refine(ma _ cY).mono ?_;rintro e w1 ⟨rfl,hX⟩)
  all_goals exact hX
theorem qp6(hK:K<=1999999)(h:St n₀ τ W bw ay (200*K))(hA:∀y∈ay,qbj K y)(cM:0<ay.length)(d_:ay.length<=100000000)(s s2:ByteArray)(hs:s.size<=2000000)(cv:s2.size<=2000000)(z:Int)(T a0 a1 c0 c1 nm:Int)
  (gw : -9223372036854775808<=T) (jb:T<=9223372036854775807) (hz:z<=0\/11<z) :
  Cl 36 #[vP bw,.agg #[vI z,vI T,.string s,.string s2,vI a0,vI a1,vI c0,vI c1,vI nm]] W (qci n₀ τ W bw ay.length (K+1)):=by
 obtain⟨gT,cT,cn,lS,jS,rz,dL,bG⟩:=h.qh5 cM;obtain⟨r,hr,dd⟩:=qem T ay.length gw jb cM (by omega);obtain⟨x,hx⟩:∃x,ay[r]?=some x:=⟨_,xr1 hr⟩;obtain⟨q0,q1⟩:=bG r x hx;obtain⟨k,hk⟩:∃k,k=ay.length:=⟨_,rfl⟩;rw[<-hk]at cM d_ jS dL hr dd ⊢;have aM:∀W1,Bw W W1->qci n₀ τ W bw k (K+1) (.returned (.bool true)) W1:=fun W1 hb=>by
  obtain⟨cd,bO,cC,bL,cy,ns,es,ms,me,hS⟩:=h.below hb
  exact⟨rfl,_,ay,qbh.below hb,⟨cd,bO,cC,bL,cy,ns,es,ms,me,⟨hS.law,by have:=hS.n1;omega,by have:=hS.n2;omega,hS.row,hS.tT,hS.tw,hS.lo,hS.le⟩⟩,fun y hy=>(hA y hy).mono (by omega),by omega,by omega⟩
 have HF:Hid (∀W1,Bw W W1->qci n₀ τ W bw k (K+1) (.returned (.bool true)) W1):=aM;clear aM;generalize qci n₀ τ W bw k (K+1)=X at HF ⊢;clear h hA hk bG hx;generalize x.bt=bt at q0;generalize x.br=br at q1;have z1:(z == 1)=false:=by simp;omega
 have z2:(z == 2)=false:=by simp;omega
 have z3:(z == 3)=false:=by simp;omega
 have z4:(z == 4)=false:=by simp;omega
 have z5:(z == 5)=false:=by simp;omega
 have z6:(z == 6)=false:=by simp;omega
 have z7:(z == 7)=false:=by simp;omega
 have z8:(z == 8)=false:=by simp;omega
 have z9:(z == 9)=false:=by simp;omega
 have O3:(z == 10)=false:=by simp;omega
 have O4:(z == 11)=false:=by simp;omega
 clear hz;have gC:(r:Int)<k:=by omega
 have dN:(0:Int)<=r:=by omega
 have eE:((k:Int) == 0)=false:=by simp;omega
 have b3:Blk (W.alloc (.cells #[vI z,vI T,.string s,.string s2,vI a0,vI a1,vI c0,vI c1,vI nm] 87)) W.heap.size 87 #[vI z,vI T,.string s,.string s2,vI a0,vI a1,vI c0,vI c1,vI nm]:=Blk.new W 87 _;have aO:Bw W (W.alloc (.cells #[vI z,vI T,.string s,.string s2,vI a0,vI a1,vI c0,vI c1,vI nm] 87)):=(Below.refl _ _).alloc (Nat.le_refl _) _
 go_enter func36,ntmps36
 go_upto_region 7 with fail
 generalize W.alloc (.cells #[vI z,vI T,.string s,.string s2,vI a0,vI a1,vI c0,vI c1,vI nm] 87)=W0 at b3 aO ⊢;have cZ:=aO.size;have rZ:=b3.lt;have d0:=(aO.cell (p:=vA bw 0) cn).trans dL;have d1:=b3.cell 1;have p0:=(aO.cell (p:=vA gT (r*2)) lS).trans q0;have p1:=(aO.cell (p:=vA gT (r*2+1)) lS).trans q1;simp only[xq0,xq1,xq2]at d1;clear dL q0 q1;have n1:¬(bw=W0.heap.size):=by omega
 have n2:¬(gT=W0.heap.size):=by omega
 have n3:¬(W.heap.size=W0.heap.size):=by omega
 have ru:bw<W0.heap.size:=by omega
 have rI:gT<W0.heap.size:=by omega
 go_cut [6] from 62 to 75 (fun q wx=>∃b6,q=vP b6/\Bw W wx/\Blk wx b6 128 #[vP bt,vP br]/\Blk wx W.heap.size 87 #[vI z,vI T,.string s,.string s2,vI a0,vI a1,vI c0,vI c1,vI nm]/\W.heap.size<b6)
 case first =>
  go_region_held3 (fun w'=>w'.cell? (vA bw 0)=some (vS gT k cT)/\w'.cell? (vA W.heap.size 1)=some (vI T)/\w'.cell? (vA gT (r*2))=some (vP bt)/\w'.cell? (vA gT (r*2+1))=some (vP br)) (go_keep)
   (first
   |(go_at_call 66;refine(dd _).mono ?_;rintro e w1 ⟨rfl,bX⟩;subst bX))
  all_goals go_wp2_with fail
  all_goals go_meet
  all_goals exact⟨_,rfl,(by exact bel2),(by first|(with_reducible exact Blk.new' (by simp))|(with_reducible exact Blk.drew (Blk.new' (by simp)))),(by exact blk2),rZ⟩
 case rest =>
  obtain⟨b6,rfl,cY,i_,oG,pL⟩:=hcut;clear dd p0 p1 d0 d1 b3 aO;have vO:=cY.size;have qS:=i_.cell 0;have qT:=i_.cell 1;have e3:=oG.cell;simp only[xq0,xq1,xq2]at qS qT
  go_wp2
  all_goals exact HF.out _ (by exact bel2)
theorem i97a:(prog.info? 97).map (fun i=>(i.size,i.bytes))=some (1,8):=by kernel_rfl
theorem i97b:(prog.info? 97).bind (fun i=>i.zero)=some (.pointer none):=by kernel_rfl
theorem q2y:qdf 97 1 8:=qep i97a i97b rfl
theorem q2w:prog.underlying 134=some (.slice 97):=by kernel_rfl
theorem q26(w:World):(zeroValue 97).run prog w=.ok (.pointer none) w:=by kernel_rfl
theorem q2l{g n:Nat}(h:W.ownsRow 0 97 1 (vS g n cap) n xs)(hi:i+1<n)(h1:∀u∈xs,u.oneCell'=true)(c:Nat):
  ∃v' w',(∀ty,(Builtin.append_ #[134,134] ty #[vS g i cap,.slice (some (vA g (i+1))) (n-(i+1)) c]).run prog W=.ok v' w')/\v'=vS g (n-1) cap /\
   (∃last,w'.ownsRow 0 97 1 (vS g n cap) n (xs.take i++xs.drop (i+1)++[last]))/\Keep (fun b=>b=g) W w':=by
 obtain⟨i0,z,q2,q3,q4,q5,q6⟩:=q2y;have bG:=fun j (hj:j<n*1)=>h.cellAt j hj
 obtain⟨hl,hr⟩:=h
 rcases hr with ⟨hv,_⟩|⟨g',cap',aD,hv,hb,hg,nw,jd,dp,kJ⟩
 ·cases hv
 cases hv
 have an:xs.length=n:=by omega
 have hr:=fun ty=>run_append_room (P:=prog) W 134 ty 97 i0 q2w q2 g i cap aD hg (vA g (i+1)) (n-(i+1)) c (xs.drop (i+1)) (by rw[q4];simp;omega)
  (fun j u hu=>by
   rw[List.getElem?_drop]at hu;rw[Addr.add_lit,bG _ (by have:=(xr0.1 hu).1;omega)];exact hu)
  (fun u hu=>h1 u (List.mem_of_mem_drop hu)) (by omega) (by rw[q4];simp;omega)
 rw[q4]at hr;have e1:i+(n-(i+1))=n-1:=by omega
 rw[e1]at hr
 refine⟨_,_,hr,rfl,⟨aD[n-1]'(by omega),⟨by simp;omega,.inr ⟨g,cap,_,rfl,Nat.zero_le _,setRow_heap W g aD _ 97 _ hg,nw,jd,?_,?_⟩⟩⟩,⟨rfl,rfl,rfl,by simp,fun k _ hk=>setRow_other W g k _ hk⟩⟩
 ·simp;omega
 ·have lL:xs=aD.toList.take n:=by rw[<-kJ];simp
  have aY:aD.toList.length=cap*1:=by simpa using dp
  rw[Nat.mul_one,Nat.mul_one];have ht:(aD.toList.take i)=xs.take i:=by rw[lL,List.take_take,Nat.min_eq_left (by omega)]
  have hd:i+(xs.drop (i+1)).length=n-1:=by simp;omega
  rw[ht,hd];have yt:aD.toList.drop (n-1)=aD[n-1]'(by omega)::aD.toList.drop n:=by
   have:=List.drop_eq_getElem_cons (l:=aD.toList) (i:=n-1) (by omega)
   rw[show n-1+1=n by omega]at this
   simpa using this
  rw[yt];have sU:(xs.take i++xs.drop (i+1)).length=n-1:=by simp;omega
  rw[List.toList_toArray];generalize xs.take i++xs.drop (i+1)=A at sU ⊢;generalize aD[n-1]'(by omega)=cc at yt ⊢
  have:n=A.length+1:=by omega
  rw[this,List.take_length_add_append]
  rfl
structure DelR (v:Value) (n i:Nat) (xs:List Value) (w:World) (v':Value) (w':World):Prop where
 row:w'.ownsRow 0 97 1 v' (n-1) (xs.take i++xs.drop (i+1))
 keep:Keep (fun b=>v.ownBlock=some b) w w'
 own:v'.ownBlock=v.ownBlock
theorem qz0{n:Nat}(h:w.ownsRow 0 97 1 v n xs)(hn:n<=1000)(hi:i<n)(h1:∀u∈xs,u.oneCell'=true):
  Cl 146 #[v,vI i,vI ((i:Int)+1)] w fun e w'=>∃v',e=.returned v'/\DelR v n i xs w v' w':=by
 obtain⟨g,cap,rfl,nw,jd⟩:=qat h (by omega);have jD:xs.length=n:=by have:=h.1;omega
 have ur:∀W last,W.ownsRow 0 97 1 (vS g n cap) n (xs.take i++xs.drop (i+1)++[last])->Keep (fun b=>b=g) w W->(∀ty c,(Builtin.clear_ #[134] ty #[.slice (some (vA g (n-1))) (n-(n-1)) c]).run prog W=.ok (.tuple #[]) (W.setCell (vA g (n-1)) (.pointer none)))/\DelR (vS g n cap) n i xs w (vS g (n-1) cap) (W.setCell (vA g (n-1)) (.pointer none)):=by
  intro W last hR hK;have sU:(xs.take i++xs.drop (i+1)).length=n-1:=by simp;omega
  have cz:=hR.cellAt (n-1) (by omega);rw[xro (by omega),sU,Nat.sub_self]at cz;have fz:=hR.frozenAt (n-1);rw[show n-(n-1)=1 by omega]
  refine⟨fun ty c=>Lib.run_clear_slice (P:=prog) W 134 97 ty (.pointer none) q2w q26 rfl rfl g (n-1) 1 c (by omega) (fun k hk=>by
     have:k=0:=by omega
     subst this;rw[Nat.add_zero,cz];rfl) (fun k hk=>by
     have:k=0:=by omega
     subst this
     exact fz),⟨?_,?_,rfl⟩⟩
  ·have r1:=(hR.stored (n-1) (.pointer none)).1;have r2:=qoc r1 (m:=n-1) (by omega);rw[List.take_set_of_le (Nat.le_refl _),List.take_append,sU,Nat.sub_self,List.take_zero,List.append_nil,xrd (by omega)]at r2
   exact r2
  ·exact(hK.mono (fun b e=>by rw[e];rfl)).setCell (p:=vA g (n-1)) (by rfl) _
 have k0:(0:Int)<=i:=by omega
 have k1:(i:Int)<n:=by omega
 have k3:(n:Int)<=cap:=by omega
 have k4:((i:Int) == (i:Int)+1)=false:=by simp;omega
 have n1:((n-1:Nat):Int)<n:=by omega
 by_cases ak:i+1<n
 ·have CC:∀W,Bw w W->∃v' w',(∀ty,(Builtin.append_ #[134,134] ty #[vS g i cap,.slice (some (vA g (i+1))) (n-(i+1)) (cap-(i+1))]).run prog W=.ok v' w')/\v'=vS g (n-1) cap /\
   (∃last,w'.ownsRow 0 97 1 (vS g n cap) n (xs.take i++xs.drop (i+1)++[last]))/\Keep (fun b=>b=g) w w':=fun W hW=>by
   obtain⟨v',w',q1,q2,q3,q4⟩:=q2l (qab (T:=fun _=>False) h (Keep.new hW) (fun _ _ h=>h)) ak h1 (cap-(i+1))
   exact⟨v',w',q1,q2,q3,(Keep.new hW).trans q4⟩
  have k2:(i:Int)+1<n:=by omega
  have k5:¬(cap=i+1):=by omega
  have k6:¬(cap=n-1):=by omega
  have k7:(i:Int)<=cap:=by omega
  have k8:(i:Int)+1<=n:=by omega
  have k9:(0:Int)<=(i:Int)+1:=by omega
  have Ki:((n-1:Nat):Int)<=n:=by omega
  clear h
  go_enter func146,ntmps146
  go_wp2
  go_region_law (refine qau rfl (.tmp 22) (.tmp 25) 134 134 rfl _ _ ?_ ?_ (CC _ ?_) ?_;(focus (simp[Act.eval,Act.put]));(focus ((try simp[Act.eval,Act.put]);(try rfl)));(focus exact bel2);rintro v2 w2 ⟨rfl,⟨last,hR⟩,hK⟩;obtain⟨aY,hD⟩:=ur _ _ hR hK;have HD:Hid (DelR (vS g n cap) n i xs w (vS g (n-1) cap) (w2.setCell (vA g (n-1)) (.pointer none))):=hD;clear hD)
  all_goals go_wp2
  all_goals go_ret
  all_goals exact⟨_,rfl,HD.out⟩
 ·obtain rfl:n=i+1:=by omega
  have ke:xs.take i++xs.drop (i+1)++[xs[i]'(by omega)]=xs:=by
   rw[List.drop_of_length_le (by omega),List.append_nil,List.take_append_getElem (by omega),xrd (by omega)]
  have rB:=fun W (hW:Bw w W)=>ur W (xs[i]'(by omega)) (by rw[ke];exact qab (T:=fun _=>False) h (Keep.new hW) (fun _ _ h=>h)) (Keep.new hW)
  simp only[Nat.add_sub_cancel,Nat.add_sub_cancel_left]at rB;have aY:=(rB w.drew ((Below.refl _ _).drew)).1;have HD:Hid (∀W,Bw w W->DelR (vS g (i+1) cap) (i+1) i xs w (vS g i cap) (W.setCell (vA g i) (.pointer none))):=fun W hW=>(rB W hW).2
  have k7:(i:Int)<=cap:=by omega
  have k8:(i:Int)+1<=(i+1:Nat):=by omega
  have k9:(0:Int)<=(i:Int)+1:=by omega
  have Ki:i<=cap:=by omega
  have Nf:¬(cap=i):=by omega
  clear h rB ur ke;have x_:∀W,Bw w W->∀x2 c,∃v' w',(∀ty,(Builtin.append_ #[134,134] ty #[vS g i cap,.slice x2 0 c]).run prog W=.ok v' w')/\v'=vS g i cap/\Bw w w':=fun W hW x2 c =>
   ⟨_,W,fun ty=>qtn q2w q2y W _ i cap (by omega) x2 c ty,rfl,hW⟩
  by_cases cr:cap=i+1
  ·subst cr;have Ng:(i:Int)<=(i:Int)+1:=by omega
   have Nh:((i:Int)+1<(i:Int))=False:=by simp;omega
   go_enter func146,ntmps146
   go_wp2
   go_region_law (refine qau rfl (.tmp 22) (.tmp 25) 134 134 rfl _ _ ?_ ?_ (x_ _ ?_ _ _) ?_;(focus (simp[Act.eval,Act.put]));(focus ((try simp[Act.eval,Act.put]);(try rfl)));(focus exact bel2);rintro v2 w2 ⟨rfl,eI⟩)
   all_goals go_wp2
   all_goals go_ret
   all_goals exact⟨_,rfl,HD.out w.drew (by exact bel2)⟩
  ·have sM:¬(i+1=cap):=fun e=>cr e.symm
   go_enter func146,ntmps146
   go_wp2
   go_region_law (refine qau rfl (.tmp 22) (.tmp 25) 134 134 rfl _ _ ?_ ?_ (x_ _ ?_ _ _) ?_;(focus (simp[Act.eval,Act.put]));(focus ((try simp[Act.eval,Act.put]);(try rfl)));(focus exact bel2);rintro v2 w2 ⟨rfl,eI⟩)
   all_goals go_wp2
   all_goals go_ret
   all_goals exact⟨_,rfl,HD.out w.drew (by exact bel2)⟩
structure qxy (W:World) (p:Node) (ks:List Node):Prop where
 kids:p.kids=ks.map (·.blk)
 inn:∀k∈ks,qan W k
 sort:(ks.map fun k=>qbv k.key).Pairwise fun a b=>cmpB a b<0
 len:ks.length<=1000
theorem qxy.below{p:Node}(h:qxy W p ks)(hb:Bw W W'):qxy W' p ks:=⟨h.kids,fun k hk=>(h.inn k hk).below hb,h.sort,h.len⟩
theorem qzi{p:Node}(hP:qan W p)(K:qxy W p ks)(x:ByteArray):
  Cl 104 #[vP p.blk,.string x] W fun e w'=>qn0 (ks.map fun k=>qbv k.key) (bl x) e/\w'=W:=by
 have eK:W.cell? (vA p.blk 7)=some p.sl:=hP.cell rfl;have hk:=K.kids;have an:p.kids.length=ks.length:=by rw[hk];simp
 obtain⟨hl,hr⟩:=hP.row
 rcases hr with ⟨hv,h0⟩|⟨g,cap,aD,hv,eO,hg,hn,jf,hc,ht⟩
 ·have:ks=[]:=List.eq_nil_of_length_eq_zero (by omega)
  subst this;rw[hv]at eK
  exact qr6 p.blk x W eK
 ·rw[hv,an]at eK;have gx:(ks.map fun k=>qbv k.key).length=ks.length:=by simp
  rw[<-gx]at eK
  refine qsv p.blk g cap p.kids (ks.map fun k=>qbv k.key) x W (by simp[an]) (by simpa using K.len) K.sort eK ?_ ?_
  ·intro j b hj;obtain⟨g',cap',dW,fR⟩:=hP.kid hj;rw[hv]at dW;cases dW;exact fR
  ·intro j b n hj ez;rw[hk]at hj;simp only[xrs,Option.map_eq_some_iff]at hj ez;obtain⟨k,jr,rfl⟩:=hj;obtain⟨k',pD,rfl⟩:=ez;rw[jr]at pD;cases pD
   exact(K.inn k (xr2 jr)).name
theorem q1w{ns:List Bs}(hs:ns.Pairwise fun a b=>cmpB a b<0){x:Bs}{at_:Nat}(h:Found ns x at_ th)(hi:ns[i]?=some x):at_=i:=by
 obtain⟨h1,h2,h3,h4⟩:=h;have ey:=(xr0.1 hi).1;have Gl:cmpB x x=0:=qei x
 rcases Nat.lt_trichotomy at_ i with h5|h5|h5
 ·obtain⟨y,hy⟩:∃y,ns[at_]?=some y:=⟨_,xr1 (by omega)⟩;have h6:=h3 at_ y (Nat.le_refl _) hy;have h7:cmpB y x<0:=by
   have:=List.pairwise_iff_getElem.1 hs at_ i (by omega) ey h5
   rw[xr1 (by omega)]at hy;rw[xr1 ey]at hi;injection hy with e1;injection hi with e2;rw[e1,e2]at this;exact this
  omega
 ·exact h5
 ·have:=h2 i x h5 hi;omega
def Node.qxi(p:Node)(i:Nat)(sl:Value):Node:={p with sl:=sl,kids:=p.kids.take i++p.kids.drop (i+1)}
def Node.loose(q:Node):Node:={q with up:=none}
theorem q0j{n:Nat}{s:ByteArray}(AA:Blk w bp 136 vp)(xW:Blk w bq 136 vq)
  (e7:vp[7]?=some (vS gp n cp)) (e0:vq[0]?=some (.string s)) (e6:vq[6]?=some (vP bp)) (rR:bp≠bq) (jB:gp≠bp) (nX:gp≠bq)
  (cR:∀W,Bw w W->Cl 104 #[vP bp,.string s] W fun e w'=>e=.returned (.tuple #[vI i,.bool true])/\w'=W)
  (rD:∀W,Bw w W->Cl 146 #[vS gp n cp,vI i,vI ((i:Int)+1)] W fun e w'=>∃v',e=.returned v'/\DelR (vS gp n cp) n i xs W v' w') (hn:i<n) (cQ:n<=1000) :
  Cl 97 #[vP bq] w fun e w'=>e=.returned (.tuple #[])/\∃W W2 a c,Bw w W/\DelR (vS gp n cp) n i xs W (.slice a (n-1) c) W2/\Blk w' bp 136 (vp.setIfInBounds 7 (.slice a (n-1) c))/\Blk w' bq 136 (vq.setIfInBounds 6 (.pointer none))/\Keep (fun x=>x=bp\/x=bq) W2 w':=by
 have fN:=AA.lt;have mL:=xW.lt;have q6:w.cell? (vA bq 6)=some (vP bp):=by rw[xW.cell 6];exact e6
 have q0:w.cell? (vA bq 0)=some (.string s):=by rw[xW.cell 0];exact e0
 have p7:w.cell? (vA bp 7)=some (vS gp n cp):=by rw[AA.cell 7];exact e7
 have DF:∀W v' w2,Bw w W->DelR (vS gp n cp) n i xs W v' w2->(∃a c,v'=.slice a (n-1) c)/\w2.cell? (vA bq 6)=some (vP bp)/\w2.cell? (vA bp 7)=some (vS gp n cp)/\w2.frozen? (vA bp 7)=false/\w2.frozen? (vA bq 6)=false/\bp<w2.heap.size/\bq<w2.heap.size/\Blk w2 bp 136 vp/\Blk w2 bq 136 vq:=fun W v' w2 hW D=>by
  have b1:=(AA.below hW fN).keep D.keep (fun e=>jB (by simpa [Value.ownBlock] using e));have b2:=(xW.below hW mL).keep D.keep (fun e=>nX (by simpa [Value.ownBlock] using e))
  exact⟨qev D.row,by rw[b2.cell 6];exact e6,by rw[b1.cell 7];exact e7,b1.frozen 7,b2.frozen 6,b1.lt,b2.lt,b1,b2⟩
 have p8:(0:Int)<=i:=by omega
 have HX:Hid (∀W W2 a c w' ko,Bw w W->DelR (vS gp n cp) n i xs W (.slice a (n-1) c) W2->Bw W2 w'->Below (w'.setCell (vA bp 7) (.slice a (n-1) c)).heap.size (w'.setCell (vA bp 7) (.slice a (n-1) c)) ko->∃W W2 a c,Bw w W/\DelR (vS gp n cp) n i xs W (.slice a (n-1) c) W2/\Blk (ko.setCell (vA bq 6) (.pointer none)) bp 136 (vp.setIfInBounds 7 (.slice a (n-1) c))/\Blk (ko.setCell (vA bq 6) (.pointer none)) bq 136 (vq.setIfInBounds 6 (.pointer none))/\Keep (fun x=>x=bp\/x=bq) W2 (ko.setCell (vA bq 6) (.pointer none))):=fun W W2 a c w' ko hW D bX en=>by
  obtain⟨_,_,_,_,_,l1,l2,b1,b2⟩:=DF W _ W2 hW D
  refine⟨W,W2,a,c,hW,D,?_,?_,?_⟩
  ·exact(((b1.below bX l1).set 7 (.slice a (n-1) c)).below en (by have:=bX.size;simp[World.setCell];omega)).other _ _ rR
  ·exact(((b2.below bX l2).other (vA bp 7) (.slice a (n-1) c) (fun e=>rR e.symm)).below en (by have:=bX.size;simp[World.setCell];omega)).set 6 (.pointer none)
  ·exact((((Keep.new bX).setCell (p:=vA bp 7) (.inl rfl) _).trans (Keep.new en))).setCell (p:=vA bq 6) (.inr rfl) _
 have GQ:∀W v' w2,Bw w W->DelR (vS gp n cp) n i xs W v' w2->(∃a c,v'=.slice a (n-1) c)/\w2.cell? (vA bq 6)=some (vP bp)/\w2.cell? (vA bp 7)=some (vS gp n cp)/\w2.frozen? (vA bp 7)=false/\w2.frozen? (vA bq 6)=false/\bp<w2.heap.size/\bq<w2.heap.size:=fun W v' w2 hW D=>by
  obtain⟨r1,r2,r3,r4,r5,r6,r7,_,_⟩:=DF W v' w2 hW D
  exact⟨r1,r2,r3,r4,r5,r6,r7⟩
 have wU:IntKind.i64.wrap ((i:Int)+1)=(i:Int)+1:=by rw[IntKind.wrap_i64];omega
 have NK:¬(bp=bq):=rR;have NL:¬(bq=bp):=fun e=>rR e.symm
 clear DF AA xW e7 e0 e6 jB nX rR
 go_enter func97,ntmps97
 go_wp2_with fail
 go_quiet ((go_at_call 104;exact Calls.quiet_of_same (cR _ (by exact bel2))))
 have aj:Bw w (w.drewN nq):=xrm (Below.refl _ _) _;generalize w.drewN nq=W1 at aj ⊢;clear cR q0;have cJ:=aj.size;have q6:=(aj.cell (p:=vA bq 6) mL).trans q6;have p7:=(aj.cell (p:=vA bp 7) fN).trans p7
 go_wp2_with fail
 go_region_with
  (first
  |(go_at_call 146;refine(rD _ (by exact bel2)).mono ?_;rintro e w2 ⟨v2,rfl,D⟩;obtain⟨⟨a2,c2,dg⟩,y6,y7,y8,y9,Oq,E5⟩:=GQ _ _ _ (by exact bel2) D;subst dg))
 all_goals go_wp2_with fail
 all_goals go_end0
 all_goals exact⟨rfl,HX.out _ _ _ _ _ _ (by exact bel2) D (Below.refl _ _) (Below.refl _ _)⟩
theorem qzf{p:Node}(hP:qan w p)(hQ:qan w q)(K:qxy w p ks)(hi:ks[i]?=some q)(e9:q.up=some p.blk)(rR:p.blk≠q.blk)(jB:p.sl.ownBlock≠some p.blk)(nX:p.sl.ownBlock≠some q.blk)(vg:q.sl.ownBlock≠some q.blk)(DK:q.sl.ownBlock≠some p.blk)(AV:∀g,p.sl.ownBlock=some g->q.sl.ownBlock≠some g):
  Cl 97 #[vP q.blk] w fun e w'=>e=.returned (.tuple #[])/\∃sl,sl.ownBlock=p.sl.ownBlock/\qan w' (p.qxi i sl)/\qan w' q.loose/\Keep (fun x=>x=p.blk\/x=q.blk\/p.sl.ownBlock=some x) w w':=by
 have ey:=(xr0.1 hi).1;have j9:p.kids.length=ks.length:=by rw[K.kids];simp
 have cR:∀W,Bw w W->Cl 104 #[vP p.blk,.string (sb (qbv q.key))] W fun e w'=>e=.returned (.tuple #[vI i,.bool true])/\w'=W:=fun W hW=>(qzi (hP.below hW) (K.below hW) (sb (qbv q.key))).mono fun e w' hp=>by
  obtain⟨⟨at_,th,rfl,hF⟩,rfl⟩:=hp;rw[qbi]at hF;have qB:(ks.map fun k=>qbv k.key)[i]?=some (qbv q.key):=by rw[xrs,hi];rfl
  have:at_=i:=q1w K.sort hF qB
  subst this
  have:th=true:=hF.2.2.2.2 qB
  subst this
  exact⟨rfl,rfl⟩
 have rD:=fun W (hW:Bw w W)=>qz0 (qab (T:=fun _=>False) hP.row (Keep.new hW) (fun _ _ h=>h)) (by have:=K.len;omega) (by omega:i<p.kids.length) (fun u hu=>by obtain⟨x,_,rfl⟩:=xrq.1 hu;rfl)
 obtain⟨gp,cp,eK,_,_⟩:=qat hP.row (by omega);rw[eK]at rD jB nX AV ⊢;have an:=K.len
 refine(q0j (vp:=p.cells) (vq:=q.cells) (gp:=gp) (cp:=cp) (n:=p.kids.length) (s:=sb (qbv q.key)) (xs:=p.kids.map nptr) hP.at_ hQ.at_ (by simp[Node.cells,eK]) (by simp[Node.cells]) (by simp[Node.cells,e9,uptr]) rR (fun e=>jB (by rw[e];rfl)) (fun e=>nX (by rw[e];rfl)) cR rD (by omega) (by omega)).mono fun e w' hp=>?_
 obtain⟨rfl,W,W2,a,c,hW,D,b1,b2,hk⟩:=hp;have pF:Keep (fun x=>x=p.blk\/x=q.blk\/(vS gp p.kids.length cp).ownBlock=some x) w w':=((Keep.new hW).trans (D.keep.mono (fun x e=>.inr (.inr e)))).trans (hk.mono (fun x e=>e.elim (fun e=>.inl e) (fun e=>.inr (.inl e))))
 refine⟨rfl,.slice a (p.kids.length-1) c,D.own,⟨?_,?_⟩,⟨?_,?_⟩,pF⟩
 ·refine b1.trans ?_
  simp[Node.cells,Node.qxi]
 ·have aW:¬((Value.slice a (p.kids.length-1) c).ownBlock=some p.blk):=by rw[D.own];exact jB
  have dF:¬((Value.slice a (p.kids.length-1) c).ownBlock=some q.blk):=by rw[D.own];exact nX
  have:=qab D.row hk (fun g hg e=>by
   rcases e with e|e
   ·exact aW (by rw[hg,e])
   ·exact dF (by rw[hg,e]))
  have el:(p.qxi i (.slice a (p.kids.length-1) c)).kids.length=p.kids.length-1:=by simp[Node.qxi];omega
  rw[el]
  simpa [Node.qxi,List.map_take,List.map_drop] using this
 ·refine b2.trans ?_
  simp[Node.cells,Node.loose,uptr]
 ·refine qab hQ.row pF (fun g hg e=>?_)
  have hg:q.sl.ownBlock=some g:=hg
  rcases e with e|e|e
  ·exact DK (by rw[hg,e])
  ·exact vg (by rw[hg,e])
  ·exact AV g e hg
theorem qz7{p:Node}(hP:qan w p)(hQ:qan w qn)(K:qxy w p ks)(nm:Bs)(fl:qbd nm=true)(a7:∀k∈ks,qbv k.key≠nm)(dz:qbv k'=nm)
  (fe:qn.blk≠p.blk) (vg:p.sl.ownBlock≠some qn.blk) (jB:p.sl.ownBlock≠some p.blk) (iq:qn.sl.ownBlock≠some qn.blk) (CA:qn.sl.ownBlock≠some p.blk) (AV:∀g,p.sl.ownBlock=some g->qn.sl.ownBlock≠some g) :
  Calls prog 82 #[.pointer (some ⟨p.blk,0,none⟩),.string (sb nm),.pointer (some ⟨qn.blk,0,none⟩)] w fun e w'=>e=.returned (.tuple #[])/\∃at_ sl,Found (ks.map fun k=>qbv k.key) nm at_ false/\qan w' (p.qif at_ qn.blk sl)/\qan w' {qn with key:=k',up:=some p.blk}/\Keep (fun x=>x=p.blk\/x=qn.blk\/p.sl.ownBlock=some x) w w'/\(sl.ownBlock=p.sl.ownBlock\/∃g,sl.ownBlock=some g/\w.heap.size<=g):=by
 have hq:Blk w qn.blk 136 #[.string (sb (qbv qn.key)),.bool qn.leaf,.int .i64 qn.n0,.int .i64 qn.n1,.int .i64 qn.b0,.int .i64 qn.b1,uptr qn.up,qn.sl]:=hQ.at_;have cR:=(qzi hP K (sb nm)).mono (R':=fun e w'=>(∃at_:Nat,e=.returned (.tuple #[.int .i64 at_,.bool false])/\Found (ks.map fun k=>qbv k.key) nm at_ false)/\w=w') (by
  rintro e w' ⟨⟨at_,th,rfl,hF⟩,rfl⟩
  rw[qbi]at hF
  cases th with
  |false=>exact⟨⟨at_,rfl,hF⟩,rfl⟩
  |true =>
   exfalso
   have h1:=hF.2.2.2.1 rfl;simp only[xrs,Option.map_eq_some_iff]at h1;obtain⟨k,c_,bM⟩:=h1
   exact a7 k (xr2 c_) bM)
 have hk:=K.kids;have aY:=fun W=>qjx (sb nm) W (by rw[qd3];have:=(qea fl).2;omega)
 have fN:=hP.lt;have mL:=hq.lt;obtain⟨uu,JN⟩:∃uu,uu=uptr qn.up:=⟨_,rfl⟩;obtain⟨ua,zy⟩:∃ua,uptr qn.up=.pointer ua:=⟨_,rfl⟩;rw[zy]at hq;generalize sb (qbv qn.key)=ss at hq;clear JN uu
 go_enter func82,ntmps82
 go_wp2_with (first
  |(go_at_call 104;refine cR.mono ?_;rintro e w1 ⟨⟨at_,rfl,hF⟩,bX⟩;subst bX)
  |(go_at_call 129;refine(aY _).mono ?_;rintro e w1 ⟨rfl,aa⟩;have gO:=hq.below aa mL;have q0:=gO.cell 0;have q6:=gO.cell 6;have r0:=gO.frozen 0;have r6:=gO.frozen 6;have mg:=hP.below aa;have p7:w1.cell? ⟨p.blk,7,none⟩=some p.sl:=mg.cell rfl;have Lb:=mg.frozen 7))
 have j9:p.kids.length=ks.length:=by rw[hk];simp
 have yR:ks.length<=1000:=K.len;obtain⟨W2,eI⟩:∃W2,W2=(w1.setCell ⟨qn.blk,0,none⟩ (.string (sb nm))).setCell ⟨qn.blk,6,none⟩ (.pointer (some ⟨p.blk,0,none⟩)):=⟨_,rfl⟩;have bM:Keep (fun x=>x=qn.blk) w1 W2:=by rw[eI];exact((Keep.refl (fun x=>x=qn.blk) _).setCell (p:=⟨qn.blk,0,none⟩) rfl _).setCell (p:=⟨qn.blk,6,none⟩) rfl _
 have vv:W2.heap.size=w1.heap.size:=by rw[eI];simp[World.setCell]
 have ie:Blk W2 qn.blk 136 #[.string (sb nm),.bool qn.leaf,.int .i64 qn.n0,.int .i64 qn.n1,.int .i64 qn.b0,.int .i64 qn.b1,.pointer (some ⟨p.blk,0,none⟩),qn.sl]:=by
  rw[eI];simpa using (gO.set 0 (.string (sb nm))).set 6 (.pointer (some ⟨p.blk,0,none⟩))
 have tU:=mg.keep bM (fun e=>fe e.symm) (fun g hg e=>vg (by rw[hg,e]));rw[<-eI,<- vv];have ed:Blk (W2.alloc (.cells #[.pointer (some ⟨qn.blk,0,none⟩)] 97)) W2.heap.size 97 #[nptr qn.blk]:=Blk.new W2 97 _;have jN:=tU.below (W':=W2.alloc (.cells #[.pointer (some ⟨qn.blk,0,none⟩)] 97)) ((Below.refl _ _).alloc (Nat.le_refl _) _);have zk:=ie.alloc (.cells #[.pointer (some ⟨qn.blk,0,none⟩)] 97);have dZ:Keep (fun x=>x=qn.blk) w1 (W2.alloc (.cells #[.pointer (some ⟨qn.blk,0,none⟩)] 97)):=bM.alloc _;have vy:w1.heap.size<=(W2.alloc (.cells #[.pointer (some ⟨qn.blk,0,none⟩)] 97)).heap.size:=by simp;omega
 obtain⟨W3,fH⟩:∃W3,W3=W2.alloc (.cells #[.pointer (some ⟨qn.blk,0,none⟩)] 97):=⟨_,rfl⟩;rw[<-fH]at ed jN zk dZ vy ⊢;clear eI fH;have au:=jN.row
 refine(qo0 p.sl p.kids.length at_ W2.heap.size (p.kids.map nptr) (nptr qn.blk) W3 (by omega) (by have:=hF.1;simp at this;omega) rfl (fun u hu=>by obtain⟨x,_,rfl⟩:=xrq.1 hu;rfl) au ed (fun e=>by have:=(tU.row.lt _ e).2;omega)).mono ?_
 rintro e w4 ⟨eB,rfl,dI,lu,dH⟩
 obtain⟨g,cap,mM⟩:∃g cap,eB=.slice (some ⟨g,0,none⟩) (p.kids.length+1) cap:=by
  rcases dI.2 with ⟨_,h0⟩|⟨g,cap,aD,h,_⟩
  ·omega
  ·exact⟨g,cap,h⟩
 have La:w4.cell? ⟨p.blk,7,none⟩=some p.sl:=(lu.cell (p:=⟨p.blk,7,none⟩) jN.lt jB).trans (jN.cell rfl);have Ev:w4.frozen? ⟨p.blk,7,none⟩=false:=(lu.frozen (p:=⟨p.blk,7,none⟩) jN.lt jB).trans (jN.frozen 7);have xh:Hid (eB=.slice (some ⟨g,0,none⟩) (p.kids.length+1) cap):=mM;rw[mM];have HK:Hid (p.kids=ks.map (·.blk)):=hk;have Bt:Hid (p.kids.length=ks.length):=j9;clear mM hk j9
 go_wp2
 go_end0
 have hk:=HK.out;have j9:=Bt.out;have tV:Blk w4 p.blk 136 p.cells:=(lu.block p.blk jN.lt jB).trans jN.at_;have k1:Keep (fun x=>x=p.blk\/x=qn.blk\/p.sl.ownBlock=some x) w w1:=Keep.new aa;have k2:=k1.trans (dZ.mono (fun x h=>.inr (.inl h)));have k3:=k2.trans (lu.mono (fun x h=>.inr (.inr h)));have k4:=k3.setCell (p:=⟨p.blk,7,none⟩) (.inl rfl) (.slice (some ⟨g,0,none⟩) (p.kids.length+1) cap)
 refine⟨rfl,at_,eB,hF,?_,?_,k4,?_⟩
 ·refine⟨?_,?_⟩
  ·have:=tV.set 7 eB
   rw[<-xh.out]
   refine this.trans ?_
   simp[Node.cells,Node.qif]
  ·have aW:eB.ownBlock≠some p.blk:=by
    rcases dH with h|⟨g',h,fB⟩
    ·rw[h];exact jB
    ·rw[h];intro e;injection e with e;have:=jN.lt;omega
   have h1:=dI.kept (row:=some p.blk) (w':=w4.setCell ⟨p.blk,7,none⟩ (.slice (some ⟨g,0,none⟩) (p.kids.length+1) cap)) ⟨rfl,rfl,rfl,by simp[World.setCell],fun k dz uW=>Below.heap_setCell _ _ _ _ (fun e=>uW (by rw[e]))⟩ (.inr aW);have e1:(p.qif at_ qn.blk eB).kids.length=p.kids.length+1:=by
    have:=hF.1;simp[Node.qif]at this ⊢;omega
   have e2:(p.qif at_ qn.blk eB).kids.map nptr=(p.kids.map nptr).take at_++nptr qn.blk::(p.kids.map nptr).drop at_:=by
    simp[Node.qif]
   rw[e1,e2];exact h1
 ·have ta:¬(p.sl.ownBlock=some qn.blk):=vg;have h4:Blk w4 qn.blk 136 _:=zk.keep lu ta;have h5:=h4.other ⟨p.blk,7,none⟩ (.slice (some ⟨g,0,none⟩) (p.kids.length+1) cap) fe
  refine⟨?_,?_⟩
  ·refine h5.trans ?_
   simp[Node.cells,dz,uptr]
  ·refine qab hQ.row k4 (fun g hg e=>?_)
   have hg:qn.sl.ownBlock=some g:=hg
   rcases e with e|e|e
   ·exact CA (by rw[hg,e])
   ·exact iq (by rw[hg,e])
   ·exact AV g e hg
 ·rcases dH with h|⟨g',h,fB⟩
  ·exact .inl h
  ·exact .inr ⟨g',h,by have:=aa.size;omega⟩
theorem qyu(hn:qan w n):Cl 92 #[vP n.blk] w fun e w'=>e=.returned (uptr n.up)/\w'=w:=by
 have h6:w.cell? (vA n.blk 6)=some (uptr n.up):=hn.cell rfl;unfold uptr at h6 ⊢
 go_enter func92,ntmps92
 go_wp2
 go_ret
 exact⟨rfl,rfl⟩
theorem q0g(hn:qan w n)(hl:n.kids.length<=1000):Cl 144 #[vP n.blk] w fun e w'=>e=.returned (.bool (n.kids.length == 0))/\w'=w:=by
 have h7:w.cell? (vA n.blk 7)=some n.sl:=hn.cell rfl;obtain⟨a,c,eK⟩:=qev hn.row;rw[eK]at h7;generalize n.kids.length=k at *;have hk:((k:Int) == 0)=(k == 0):=by
  cases k with
  |zero=>rfl
  |succ k=>simp;omega
 go_enter func144,ntmps144
 go_wp2
 go_ret
 rw[<-hk]
 exact⟨rfl,rfl⟩
def remN (nodes:List Node)(q p:Node)(i:Nat)(sl:Value):List Node :=
 (nodes.filter fun n=>!decide (n.key=q.key)).map fun n=>if n.key=p.key then p.qxi i sl else n
theorem qxo{a b:List Bs}{x y:Bs}(h:a++[x]=b++[y]):a=b/\x=y:=by
 have:=List.append_inj' h rfl
 exact⟨this.1,by simpa using this.2⟩
theorem qy7(nodes:List Node)(q p:Node)(i:Nat)(sl:Value)(n:Node):n∈remN nodes q p i sl↔∃z∈nodes,z.key≠q.key/\n=if z.key=p.key then p.qxi i sl else z:=by
 unfold remN;simp only[xrq,xrr,Bool.not_eq_true',decide_eq_false_iff_not]
 exact⟨fun ⟨z,⟨h1,h2⟩,h3⟩=>⟨z,h1,h2,h3.symm⟩,fun ⟨z,h1,h2,h3⟩=>⟨z,⟨h1,h2⟩,h3.symm⟩⟩
theorem qy5(hs:(ks.map fun k=>qbv k.key).Pairwise fun a b=>cmpB a b<0):ks.Nodup:=by
 have:(ks.map fun k=>qbv k.key).Nodup:=hs.imp (fun {a b} h e=>by subst e;rw[show cmpB a a=0 from qei a]at h;omega)
 exact qcc this
theorem qzv{α : Type}[DecidableEq α]{l:List α}(hn:l.Nodup){q : α}(hi:l[i]?=some q)(y : α):y∈l.take i++l.drop (i+1)↔y∈l/\y≠q:=by
 have ey:=(xr0.1 hi).1;have e:l=l.take i++q::l.drop (i+1):=by
  conv=>lhs;rw[<-List.take_append_drop i l]
  congr 1
  rw[List.drop_eq_getElem_cons ey];rw[xr1 ey]at hi;injection hi with hi;rw[hi]
 have ez:(l.take i++q::l.drop (i+1)).Nodup:=by rw[<-e];exact hn
 have hq:q ∉ l.take i++l.drop (i+1):=by
  rw[List.nodup_append]at ez;obtain⟨_,h2,h3⟩:=ez;intro h
  rcases xri.1 h with h|h
  ·exact h3 q h q (by simp) rfl
  ·exact(List.nodup_cons.1 h2).1 h
 constructor
 ·intro h
  refine⟨?_,fun e2=>hq (e2 ▸ h)⟩
  rw[e]
  rcases xri.1 h with h|h
  ·exact xr9 _ h
  ·exact xra _ (xru _ h)
 ·rintro⟨h,aW⟩
  rw[e]at h
  rcases xri.1 h with h|h
  ·exact xr9 _ h
  ·rcases List.mem_cons.1 h with h|h
   ·exact absurd h aW
   ·exact xra _ h
theorem qxm{l:List Node}(hn:l.Nodup)(hi:l[i]?=some q)(y:Node):y∈l.take i++l.drop (i+1)↔y∈l/\y≠q:=by
 classical
 exact qzv hn hi y
theorem Tree.remN(T:Tree nodes){p:Node}(hq:q∈nodes)(hp:p∈nodes){x:Bs}(fe:q.key=p.key++[x])(pV:q.kids=[])
  (hk:p.kids=ks.map (·.blk)) (hm:∀k,k∈ks↔(k∈nodes/\∃x,k.key=p.key++[x])) (hs:(ks.map fun k=>qbv k.key).Pairwise fun a b=>cmpB a b<0) (hi:ks[i]?=some q) (sl:Value):Tree (remN nodes q p i sl):=by
 have ai:=qy7 nodes q p i sl;have fc:q.key≠[]:=by rw[fe];simp
 have rR:p.key≠q.key:=by rw[fe];intro e;have:=congrArg List.length e;simp at this
 have f1:∀z,(if z.key=p.key then p.qxi i sl else z).key=z.key:=fun z=>by
  by_cases h:z.key=p.key
  ·rw[if_pos h];exact h.symm
  ·rw[if_neg h]
 have f2:∀z∈nodes,(if z.key=p.key then p.qxi i sl else z).leaf=z.leaf/\(if z.key=p.key then p.qxi i sl else z).n0=z.n0/\(if z.key=p.key then p.qxi i sl else z).n1=z.n1/\(if z.key=p.key then p.qxi i sl else z).b0=z.b0/\(if z.key=p.key then p.qxi i sl else z).b1=z.b1/\(if z.key=p.key then p.qxi i sl else z).up=z.up/\(if z.key=p.key then p.qxi i sl else z).blk=z.blk:=fun z hz=>by
  by_cases h:z.key=p.key
  ·obtain rfl:=T.inj z hz p hp h;rw[if_pos rfl];exact⟨rfl,rfl,rfl,rfl,rfl,rfl,rfl⟩
  ·rw[if_neg h];exact⟨rfl,rfl,rfl,rfl,rfl,rfl,rfl⟩
 have uY:∀n∈nodes,∀y,n.key≠q.key++[y]:=fun n hn y e=>by
  obtain⟨kq,g1,g2,_⟩:=T.kids q hq;have h5:n∈kq:=(g2 n).2 ⟨hn,y,e⟩;rw[pV]at g1;have h6:kq=[]:=by simpa using g1.symm
  rw[h6]at h5
  cases h5
 refine⟨?_,?_,?_,?_,?_,?_,?_,?_,?_⟩
 ·obtain⟨r,h0,h1,h2,h3,h4⟩:=T.root;have gd:=xr2 h0;obtain⟨g1,g2,g3,g4,g5,g6,g7⟩:=f2 r gd
  refine⟨if r.key=p.key then p.qxi i sl else r,?_,(f1 r).trans h1,g1.trans h2,g4.trans h3,g5.trans h4⟩
  cases df:nodes with
  |nil=>rw[df]at h0;simp at h0
  |cons a l =>
   rw[df]at h0
   simp at h0
   subst h0
   have:a.key≠q.key:=by rw[h1];exact fun e=>fc e.symm
   simp[Go.Proofs.YtphclnolomgjoaaGreatDoor.remN,this]
 ·intro n hn m iO e;obtain⟨z,hz,_,rfl⟩:=(ai n).1 hn;obtain⟨y,hy,_,rfl⟩:=(ai m).1 iO;rw[f1,f1]at e;rw[T.inj z hz y hy e]
 ·have e:(Go.Proofs.YtphclnolomgjoaaGreatDoor.remN nodes q p i sl).map (·.key)=(nodes.filter fun n=>!decide (n.key=q.key)).map (·.key):=by
   unfold Go.Proofs.YtphclnolomgjoaaGreatDoor.remN;rw[List.map_map]
   exact List.map_congr_left fun z _=>f1 z
  rw[e]
  exact T.nodup.sublist (List.filter_sublist.map _)
 ·intro n hn;obtain⟨z,hz,_,rfl⟩:=(ai n).1 hn;rw[f1];exact T.ok z hz
 ·intro n hn;obtain⟨z,hz,_,rfl⟩:=(ai n).1 hn;obtain⟨g1,g2,g3,g4,g5,g6,g7⟩:=f2 z hz;rw[g1,g2,g3,g4,g5];exact T.num z hz
 ·intro n hn dz;obtain⟨z,hz,_,rfl⟩:=(ai n).1 hn;rw[f1]at dz;rw[(f2 z hz).2.2.2.2.2.1];exact T.top z hz dz
 ·intro n hn k y dz;obtain⟨z,hz,_,rfl⟩:=(ai n).1 hn;rw[f1]at dz;obtain⟨pp,g1,g2,g3,g4⟩:=T.par z hz k y dz;have aW:pp.key≠q.key:=fun e=>uY z hz y (by rw[dz,<- g2,e])
  exact⟨_,(ai _).2 ⟨pp,g1,aW,rfl⟩,(f1 pp).trans g2,(f2 pp g1).1.trans g3,by rw[(f2 z hz).2.2.2.2.2.1,(f2 pp g1).2.2.2.2.2.2];exact g4⟩
 ·intro n hn;obtain⟨z,hz,vR,rfl⟩:=(ai n).1 hn
  by_cases zO:z.key=p.key
  ·obtain rfl:=T.inj z hz p hp zO;rw[if_pos rfl];have je:=qy5 hs
   refine⟨(ks.take i++ks.drop (i+1)).map fun n=>if n.key=z.key then z.qxi i sl else n,?_,fun k=>?_,?_⟩
   ·rw[List.map_map]
    show z.kids.take i++z.kids.drop (i+1)=_
    rw[hk,<- List.map_take,<- List.map_drop,<- List.map_append]
    refine List.map_congr_left fun n hn=>?_
    exact((f2 n ((hm n).1 ((qxm je hi n).1 hn).1).1).2.2.2.2.2.2).symm
   ·constructor
    ·intro h;obtain⟨y,hy,rfl⟩:=xrq.1 h;obtain⟨h1,h2⟩:=(qxm je hi y).1 hy;obtain⟨h3,u,h4⟩:=(hm y).1 h1
     exact⟨(ai _).2 ⟨y,h3,fun e=>h2 (T.inj y h3 q hq e),rfl⟩,u,by rw[f1];exact h4⟩
    ·rintro⟨h1,u,h2⟩
     obtain⟨y,hy,Gx,rfl⟩:=(ai k).1 h1;rw[f1]at h2
     exact xrq.2 ⟨y,(qxm je hi y).2 ⟨(hm y).2 ⟨hy,u,h2⟩,fun e=>Gx (by rw[e])⟩,rfl⟩
   ·have e:((ks.take i++ks.drop (i+1)).map fun n=>if n.key=z.key then z.qxi i sl else n).map (fun k=>qbv k.key)=(ks.take i++ks.drop (i+1)).map fun k=>qbv k.key:=by
     rw[List.map_map];exact List.map_congr_left fun n _=>by simp only[Function.comp];rw[f1]
    rw[e]
    refine List.Pairwise.sublist ?_ hs
    refine List.Sublist.map _ ?_
    conv=>rhs;rw[<-List.take_append_drop i ks]
    exact List.Sublist.append (List.Sublist.refl _) (List.drop_sublist_drop_left ks (Nat.le_succ i))
  ·rw[if_neg zO];obtain⟨kz,g1,g2,g3⟩:=T.kids z hz
   refine⟨kz.map fun n=>if n.key=p.key then p.qxi i sl else n,?_,fun k=>?_,?_⟩
   ·rw[g1,List.map_map]
    exact List.map_congr_left fun n hn=>((f2 n ((g2 n).1 hn).1).2.2.2.2.2.2).symm
   ·constructor
    ·intro h;obtain⟨y,hy,rfl⟩:=xrq.1 h;obtain⟨h3,u,h4⟩:=(g2 y).1 hy
     exact⟨(ai _).2 ⟨y,h3,fun e=>zO (qxo (h4.symm.trans (e.trans fe))).1,rfl⟩,u,by rw[f1];exact h4⟩
    ·rintro⟨h1,u,h2⟩
     obtain⟨y,hy,Gx,rfl⟩:=(ai k).1 h1;rw[f1]at h2
     exact xrq.2 ⟨y,(g2 y).2 ⟨hy,u,h2⟩,rfl⟩
   ·have e:(kz.map fun n=>if n.key=p.key then p.qxi i sl else n).map (fun k=>qbv k.key)=kz.map fun k=>qbv k.key:=by
     rw[List.map_map];exact List.map_congr_left fun n _=>by simp only[Function.comp];rw[f1]
    rw[e];exact g3
 ·unfold Go.Proofs.YtphclnolomgjoaaGreatDoor.remN;rw[List.length_map]
  exact Nat.le_trans (xrh _ _) T.len
end Go.Proofs.YtphclnolomgjoaaGreatDoor
