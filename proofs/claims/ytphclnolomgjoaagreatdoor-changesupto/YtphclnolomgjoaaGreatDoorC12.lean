import Derived.Test.YtphclnolomgjoaaGreatDoorC11
import GoSem.Op.String
import Derived.Lib.SliceRun
set_option linter.unusedVariables false
set_option linter.unusedSimpArgs false
set_option maxRecDepth 100000
set_option maxHeartbeats 4000000
namespace Go.Proofs.YtphclnolomgjoaaGreatDoor
open Tryz
section
open Go.RowKit
variable {W W' w:World}{cap hb i j:Nat}{f v:Value}{T T':Nat->Prop}{e:TypeId}{xs:List Value}
theorem i91a:(prog.info? 95).map (fun i=>(i.size,i.bytes))=some (1,8):=by kernel_rfl
theorem i91b:(prog.info? 95).bind (fun i=>i.zero)=some (.pointer none):=by kernel_rfl
theorem qvc:qdf 95 1 8:=qep i91a i91b rfl
theorem un94:prog.underlying 98=some (.slice 95):=by kernel_rfl
theorem HpAt.form{ys:List Pw}(h:HpAt W hb f v ys):∃a cap,v=.slice a ys.length cap/\ys.length<=cap/\cap<=maxLen:=by
 rcases h.row.2 with ⟨rfl,h0⟩|⟨g,cap,aD,rfl,_,_,h1,h2,_⟩
 ·exact⟨none,0,by rw[h0],by omega,Nat.zero_le _⟩
 ·exact⟨_,cap,rfl,h1,h2⟩
theorem Keep.qbo(h:Keep T w W)(hk:Keep T' W W')(hs:∀b,b<w.heap.size->T' b->T b):Keep T w W' :=
 ⟨hk.os.trans h.os,hk.tape.trans h.tape,hk.output.trans h.output,Nat.le_trans h.size hk.size,fun k c_ ht=>(hk.block k (xrg c_ h.size) (fun e=>ht (hs k c_ e))).trans (h.block k c_ ht)⟩
theorem qu4{ys:List Pw}{lt:Pw->Pw->Bool}(O:Ord lt)(h:HpAt w hb (.func (.func 168) #[] #[]) v ys)(hl:ys.length<=50)(hU:qbp lt ys)(p:Pw)(cf:Befs w (fun y=>y=hb\/v.ownBlock=some y) (ys++[p]) lt):
  Cl 208 #[vP hb,nptr p.blk] w fun e w'=>e=.returned (.tuple #[])/\∃v' zs,zs.Perm (ys++[p])/\qbp lt zs/\HpAt w' hb (.func (.func 168) #[] #[]) v' zs/\Keep (fun y=>y=hb\/v.ownBlock=some y) w w'/\(v'.ownBlock=v.ownBlock\/∃g,v'.ownBlock=some g/\w.heap.size<=g):=by
 have ak:=h.at_.lt;have c1:=h.at_.cell 1;simp only[xq0,xq1,xq2]at c1;have aO:Bw w (w.alloc (.cells #[nptr p.blk] 95)):=by exact bel2
 have qY:=h.below aO;have cu:=qby un94 qvc (by omega) (w.alloc (.cells #[nptr p.blk] 95)) v ys.length (qay ys) qY.row w.heap.size 1 1 (by omega) [nptr p.blk] rfl (Blk.new w 95 _) (fun u hu=>by simp at hu;subst hu;rfl) (by unfold maxLen;omega) (by omega);have aP:∀g' cap' w',AppR (w.alloc (.cells #[nptr p.blk] 95)) v.ownBlock 95 1 (ys.length+1) (qay ys++[nptr p.blk]) g' cap' w'->Blk w' hb 247 #[.func (.func 168) #[] #[],v]/\HpAt (w'.setCell (vA hb 1) (vS g' (ys.length+1) cap')) hb (.func (.func 168) #[] #[]) (vS g' (ys.length+1) cap') (ys++[p])/\Keep (fun y=>y=hb\/v.ownBlock=some y) w (w'.setCell (vA hb 1) (vS g' (ys.length+1) cap'))/\(v.ownBlock=some g'\/w.heap.size<=g'):=fun g' cap' w' R=>by
  have aZ:=qY.at_.keep R.keep h.ne;have fB:g'≠hb:=fun e=>by
   rcases R.new with e2|e2
   ·rw[e]at e2;exact h.ne e2
   ·simp at e2;omega
  refine⟨aZ,⟨?_,?_,?_⟩,?_,?_⟩
  ·have:=aZ.set 1 (vS g' (ys.length+1) cap')
   simpa using this
  ·have:qay (ys++[p])=qay ys++[nptr p.blk]:=by simp[qay]
   rw[this,show(ys++[p]).length=ys.length+1 by simp]
   exact xrl R.own (by simp[Value.ownBlock];exact fB) _
  ·simp[Value.ownBlock];exact fB
  ·exact(((Keep.new (T:=fun y=>y=hb\/v.ownBlock=some y) aO).qbo R.keep (fun b _ e=>.inr e))).setCell (p:=vA hb 1) (.inl rfl) _
  ·exact R.new.imp id (fun e=>by simp at e;omega)
 have iV:=fun g' cap' W (hW:HpAt W hb (.func (.func 168) #[] #[]) (vS g' (ys.length+1) cap') (ys++[p])) (hk:Keep (fun y=>y=hb\/v.ownBlock=some y) w W) (hn:v.ownBlock=some g'\/w.heap.size<=g') =>
  qu6 (k:=ys.length) O hW (by simp;omega) (by simp) (hU.push p) (fun W2 eI=>cf W2 (hk.qbo eI (fun b af e=>by
   simp[Value.ownBlock]at e
   subst e
   rcases hn with e|e
   ·exact .inr e
   ·omega)))
 obtain⟨a0,dA,hv,dV,jf⟩:=h.form;obtain⟨n,hn⟩:∃n,n=ys.length:=⟨_,rfl⟩;rw[<-hn]at cu aP iV hl hv dV;have HV:Hid (v=.slice a0 n dA):=hv;clear h qY hU cf hn hv;unfold nptr at cu ⊢;generalize qE:qay ys=pp at cu aP;clear qE
 go_enter func208,ntmps208
 go_wp2_with (at_builtin;refine qah (by rfl) _ _ _ _ rfl _ _ rfl (by rfl) cu ?_;rintro v1 w1 ⟨g1,q1,rfl,R1⟩;obtain⟨aa,qZ,eu,cQ⟩:=aP _ _ _ R1;have f1:=aa.frozen 1;have gJ:=aa.cell 1;have gO:=R1.le;have ie:=R1.mx;simp only[xq0,xq1,xq2]at gJ)
 refine(iV _ _ _ qZ eu cQ).mono ?_
 rintro e w2 ⟨rfl,zs,hp,hh,q_,fp⟩
 have h_:Keep (fun y=>y=hb\/v.ownBlock=some y) w w2:=eu.qbo fp (fun b af e=>by
  simp[Value.ownBlock]at e
  subst e
  rcases cQ with e|e
  ·exact .inr e
  ·omega)
 have bQ:(vS g1 (n+1) q1).ownBlock=v.ownBlock\/∃g,(vS g1 (n+1) q1).ownBlock=some g/\w.heap.size<=g:=by
  rcases cQ with e|e
  ·left;rw[e];rfl
  ·exact .inr ⟨g1,rfl,e⟩
 clear iV aP cu
 go_wp2_with fail
 go_end0
 exact⟨rfl,_,zs,hp,hh,q_,h_,bQ⟩
theorem qoc{g n:Nat}(h:W.ownsRow 0 e 1 (vS g n cap) n xs){m:Nat}(hm:m<=n):W.ownsRow 0 e 1 (vS g m cap) m (xs.take m):=by
 obtain⟨hl,hr⟩:=h
 rcases hr with ⟨hv,_⟩|⟨g',cap',aD,hv,hb,hg,h1,h2,h3,h4⟩
 ·cases hv
 ·injection hv with e1 _ e3;injection e1 with e1;injection e1 with e1;subst e1 e3
  refine⟨by simp at hl ⊢;omega,.inr ⟨g,cap,aD,rfl,hb,hg,by omega,h2,h3,?_⟩⟩
  rw[<-h4,List.take_take]
  congr 1
  omega
theorem qgz{ys:List Pw}(h:HpAt w hb f v ys)(hl:ys.length<=100)(hj:ys.length<=j)(pC:j<=1000):
  Cl 228 #[vP hb,vI i,vI j] w fun e w'=>e=.returned (vI i)/\Bw w w':=by
 obtain⟨a0,cap,hv,de,jc⟩:=h.form;have c1:=h.at_.cell 1;have ak:=h.at_.lt;simp only[xq0,xq1,xq2]at c1;rw[hv]at c1;obtain⟨n,hn⟩:∃n,n=ys.length:=⟨_,rfl⟩;rw[<-hn]at c1 de hl hj;have yM:decide (j<n)=false:=decide_eq_false (by omega);have h4:(0:Int)<=j:=by omega
 clear h hv hn hj
 go_enter func228,ntmps228
 go_wp2_with fail
 go_quiet (fail)
 go_wp2_with fail
 go_ret
 exact⟨rfl,xrm (Below.refl _ _) _⟩
theorem qt1(h:HpAt w hb f v []):
  Cl 209 #[vP hb,vI 0] w fun e w'=>e=.returned (.tuple #[])/\Bw w w':=by
 have c1:=qgz (i:=0) (j:=1) h (by simp) (by simp) (by omega);have c2:=fun W (hW:Bw w W)=>qgz (i:=0) (j:=2) (h.below hW) (by simp) (by simp) (by omega)
 have ak:=h.at_.lt;simp only[Int.cast_ofNat_Int,Int.natCast_zero]at c1 c2;clear h
 go_enter func209,ntmps209
 go_wp2_with fail
 refine wp_loop_rounds 1 ?_
 rw[rounds_succ]
 go_wp2_with fail
 refine c1.mono ?_
 rintro e w1 ⟨rfl,aa⟩
 go_wp2_with fail
 refine(c2 _ aa).mono ?_
 rintro e w2 ⟨rfl,af⟩
 go_wp2_with fail
 exact xrn (v:=.tuple #[]) (by simp[results,results209,go_sem]) rfl ⟨rfl,qac aa af⟩
def PopR (hb:Nat)(v:Value)(ys:List Pw)(lt:Pw->Pw->Bool)(w:World)(e:Ending)(w':World):Prop :=
 (ys=[]/\e=.returned (.tuple #[.pointer none,.bool false])/\w'=w) \/
 (∃(a:Pw) (v':Value) (zs:List Pw),ys[0]?=some a/\e=.returned (.tuple #[nptr a.blk,.bool true])/\(a::zs).Perm ys/\qbp lt zs/\HpAt w' hb (.func (.func 168) #[] #[]) v' zs/\Keep (fun y=>y=hb\/v.ownBlock=some y) w w'/\v'.ownBlock=v.ownBlock)
theorem qv8{ys:List Pw}{lt:Pw->Pw->Bool}(O:Ord lt)(h:HpAt w hb (.func (.func 168) #[] #[]) v ys)(hl:ys.length<=100)(hU:qbp lt ys)(cf:Befs w (fun y=>y=hb\/v.ownBlock=some y) ys lt):
  Cl 171 #[vP hb] w (PopR hb v ys lt w):=by
 have ak:=h.at_.lt;have c1:=h.at_.cell 1;simp only[xq0,xq1,xq2]at c1
 by_cases h0:ys=[]
 ·subst h0;obtain⟨a0,dA,hv,dV,jf⟩:=h.form;rw[hv]at c1;simp only[List.length_nil]at c1;clear cf hU
  go_enter func171,ntmps171
  go_wp2_with fail
  exact xrn (v:=.tuple #[.pointer none,.bool false]) (by simp[results,results171,go_sem]) rfl (.inl ⟨rfl,rfl,rfl⟩)
 ·have cM:0<ys.length:=by cases ys with|nil=>exact absurd rfl h0|cons _ _=>simp
  obtain⟨a,ha⟩:∃a,ys[0]?=some a:=⟨_,xr1 cM⟩;obtain⟨b,dw⟩:∃b,ys[ys.length-1]?=some b:=⟨_,xr1 (by omega)⟩;obtain⟨g,cap,hv,ct,iJ,de,jc,ca,fa⟩:=h.get ha;obtain⟨g',cap',dW,_,_,_,_,cb,fb⟩:=h.get dw;rw[hv]at dW;injection dW with e1 _ e3;injection e1 with e1;injection e1 with e1;subst e1 e3;rw[hv]at c1;have f1:=h.at_.frozen 1;have eO:¬(hb=g):=fun e=>iJ e.symm
  obtain⟨m,hm⟩:∃m,ys.length=m+1:=⟨ys.length-1,by omega⟩;have gy:ys.length-1=m:=by omega
  rw[gy]at cb fb dw;have aC:∀(nq:Nat) (W:World),W=((((w.drewN nq).setCell (vA g 0) (nptr b.blk)).setCell (vA g m) (.pointer none)).setCell (vA hb 1) (vS g m cap))->HpAt W hb (.func (.func 168) #[] #[]) (vS g m cap) ((ys.set 0 b).take m)/\Keep (fun y=>y=hb\/v.ownBlock=some y) w W:=by
   rintro nq W rfl
   refine⟨⟨?_,?_,?_⟩,?_⟩
   ·have:=(((h.at_.drewN nq).other (vA g 0) (nptr b.blk) eO).other (vA g m) (.pointer none) eO).set 1 (vS g m cap)
    simpa using this
   ·have au:=h.row;rw[hv]at au;have r1:=((au.stored 0 (nptr b.blk)).1.stored m (.pointer none)).1;have r2:=qoc r1 (m:=m) (by omega);have r3:=xrl r2 (a:=(vA hb 1)) (by simp[Value.ownBlock];exact iJ) (vS g m cap);have an:((ys.set 0 b).take m).length=m:=by simp;omega
    rw[an];have qE:qay ((ys.set 0 b).take m)=(((qay ys).set 0 (nptr b.blk)).set m (.pointer none)).take m:=by
     have e1:(((qay ys).set 0 (nptr b.blk)).set m (.pointer none)).take m=((qay ys).set 0 (nptr b.blk)).take m:=List.take_set_of_le (Nat.le_refl m);rw[e1]
     simp[qay,List.map_set,List.map_take]
    rw[qE]
    exact r3
   ·simp[Value.ownBlock];exact iJ
   ·have hT:v.ownBlock=some g:=by rw[hv];rfl
    exact((((Keep.refl _ _).drewN nq).setCell (p:=vA g 0) (.inr hT) _).setCell (p:=vA g m) (.inr hT) _).setCell (p:=vA hb 1) (.inl rfl) _
  have hD:qbr lt ((ys.set 0 b).take m) 0:=by rw[<-gy];exact hU.pop b
  have oU:(a::(ys.set 0 b).take m).Perm ys:=by rw[<-gy];exact qnz ha (by rw[gy];exact dw)
  have aF:∀x∈(ys.set 0 b).take m,x∈ys:=fun x hx=>oU.mem_iff.1 (xru _ hx)
  have ek:∀(nq:Nat) (W:World),W=((((w.drewN nq).setCell (vA g 0) (nptr b.blk)).setCell (vA g m) (.pointer none)).setCell (vA hb 1) (vS g m cap))->Cl 209 #[vP hb,vI 0] W fun e w'=>e=.returned (.tuple #[])/\PopR hb v ys lt w (.returned (.tuple #[nptr a.blk,.bool true])) w':=fun nq W hW=>by
   obtain⟨hH,hK⟩:=aC nq W hW;have av:(vS g m cap).ownBlock=v.ownBlock:=by rw[hv];rfl
   by_cases hm0:m=0
   ·subst hm0;simp only[List.take_zero]at hH oU
    refine(qt1 hH).mono ?_
    rintro e w' ⟨rfl,hB⟩
    exact⟨rfl,.inr ⟨a,_,[],ha,rfl,oU,fun j x y hj hx=>by simp at hx,hH.below hB,hK.trans (Keep.new hB),av⟩⟩
   ·have an:((ys.set 0 b).take m).length=m:=by simp;omega
    have hs:=qvy (k:=0) O hH (by omega) (by omega) hD (fun W2 eI x hx y hy=>cf W2 (hK.qbo eI (fun k _ e=>.inr (by rw[<-av];exact e))) x (aF x hx) y (aF y hy))
    refine hs.mono ?_
    rintro e w' ⟨rfl,zs,hp,hh,q_,fp⟩
    exact⟨rfl,.inr ⟨a,_,zs,ha,rfl,((hp.cons a).trans oU),hh,q_,hK.qbo fp (fun k _ e=>.inr (by rw[<-av];exact e)),av⟩⟩
  rw[hm]at c1 de hl;have Ge:(0:Int)<=m:=by omega
  have Jk:w.frozen? (vA g 0)=false:=fa;unfold nptr at ca cb ek;have HX:Hid (∀w',PopR hb v ys lt w (.returned (.tuple #[nptr a.blk,.bool true])) w'->PopR hb v ys lt w (.returned (.tuple #[nptr a.blk,.bool true])) w'):=fun _ e=>e
  have w_:Hid (m=0->b=a):=fun e=>by subst e;rw[ha]at dw;cases dw;rfl
  clear aC hD oU aF h cf hU hv ha dw h0 cM hm gy HX;generalize PopR hb v ys lt w=X at ek ⊢
  by_cases hm0:m=0
  ·have kD:=w_.out hm0;subst hm0;subst kD;clear w_
   go_enter func171,ntmps171
   go_upto_region 4 with fail
   go_quiet (fail)
   go_wp2_with fail
   go_region
   all_goals go_wp2_with fail
   refine(ek _ _ rfl).mono ?_
   rintro e w2 ⟨rfl,hX⟩
   go_wp2_with fail
   exact hX
  ·have Dy:¬(0=m):=fun e=>hm0 e.symm
   go_enter func171,ntmps171
   go_upto_region 4 with fail
   go_quiet (fail)
   go_wp2_with fail
   go_region
   all_goals go_wp2_with fail
   refine(ek _ _ rfl).mono ?_
   rintro e w2 ⟨rfl,hX⟩
   go_wp2_with fail
   exact hX
end
section
theorem qj8(a:List UInt8):Op.bytesLess a []=false:=by cases a<;>rfl
theorem qt3(a b:UInt8)(x y:List UInt8):Op.bytesLess (a::x) (b::y)=(decide (a<b)||(a == b&&Op.bytesLess x y)):=rfl
theorem qf8(a b:UInt8)(x y:List UInt8):Op.bytesLess (a::x) (b::y)=true↔(a.toNat<b.toNat\/(a.toNat=b.toNat/\Op.bytesLess x y=true)):=by
 rw[qt3];simp only[Bool.or_eq_true,Bool.and_eq_true,decide_eq_true_eq,beq_iff_eq,UInt8.lt_iff_toNat_lt,<- UInt8.toNat_inj]
theorem qa1(a b:UInt8)(x y:List UInt8):Op.bytesLess (a::x) (b::y)=false↔(b.toNat<a.toNat\/(a.toNat=b.toNat/\Op.bytesLess x y=false)):=by
 have h:=qf8 a b x y
 constructor
 ·intro hf;rw[hf]at h;simp only[Bool.false_eq_true,false_iff,not_or,not_and,Bool.not_eq_true]at h
  rcases Nat.lt_trichotomy a.toNat b.toNat with h1|h1|h1
  ·exact absurd h1 h.1
  ·exact .inr ⟨h1,h.2 h1⟩
  ·exact .inl h1
 ·intro hh
  cases hb:Op.bytesLess (a::x) (b::y)
  ·rfl
  ·rcases h.1 hb with h1|⟨h1,h2⟩
   ·rcases hh with h3|⟨h3,_⟩<;>omega
   ·rcases hh with h3|⟨_,h4⟩
    ·omega
    ·rw[h2]at h4;cases h4
theorem qf1:∀(a b:List UInt8),Op.bytesLess a b=true->Op.bytesLess b a=false
 | [],[],h=>by cases h
 |a::x,[],h=>by cases h
 | [],b::y,h=>rfl
 |a::x,b::y,h=>by
  rcases(qf8 ..).1 h with h1|⟨h1,h2⟩
  ·exact(qa1 ..).2 (.inl h1)
  ·exact(qa1 ..).2 (.inr ⟨h1.symm,qf1 x y h2⟩)
theorem qfe:∀(a b c:List UInt8),Op.bytesLess a b=false->Op.bytesLess b c=false->Op.bytesLess a c=false
 |a,b,[],_,_=>qj8 a
 |a,[],c::z,_,h=>by cases h
 | [],b::y,c::z,h,_=>by cases h
 |a::x,b::y,c::z,h1,h2=>by
  rcases(qa1 ..).1 h1 with h3|⟨h3,h4⟩<;>rcases(qa1 ..).1 h2 with h5|⟨h5,h6⟩
  ·exact(qa1 ..).2 (.inl (by omega))
  ·exact(qa1 ..).2 (.inl (by omega))
  ·exact(qa1 ..).2 (.inl (by omega))
  ·exact(qa1 ..).2 (.inr ⟨by omega,qfe x y z h4 h6⟩)
theorem qk5:∀(a b:List UInt8),Op.bytesLess a b=false->Op.bytesLess b a=false->a=b
 | [],[],_,_=>rfl
 | [],b::y,h,_=>by cases h
 |a::x,[],_,h=>by cases h
 |a::x,b::y,h1,h2=>by
  rcases(qa1 ..).1 h1 with h3|⟨h3,h4⟩<;>rcases(qa1 ..).1 h2 with h5|⟨h5,h6⟩
  ·omega
  ·omega
  ·omega
  ·rw[UInt8.toNat_inj.1 h3,qk5 x y h4 h6]
theorem qb8(a:List UInt8):Op.bytesLess a a=false:=by
 cases h:Op.bytesLess a a
 ·rfl
 ·have:=qf1 a a h;rw[h]at this;exact this
end
section
open Go.RowKit
variable {nodes:List Node}{W w:World}{p:Pw}{b bx i i0 j size:Nat}{v:Value}{l zs:List Pw}{t':TypeId}{xs:List Value}{vs:Array Value}
def ltP (a b:Pw):Bool:=Op.bytesLess (joinB a.x.key) (joinB b.x.key)
theorem qnp:Ord ltP:=⟨fun a b h=>qf1 _ _ h,fun a b c h1 h2=>qfe _ _ _ h1 h2⟩
theorem qm8(T:Tree nodes)(hN:∀n∈nodes,qan w n){a b:Pw}(ha:PwIn w nodes a)(hb:PwIn w nodes b):
  Cl 168 #[nptr a.blk,nptr b.blk] w fun e w'=>e=.returned (.bool (ltP a b))/\Bw w w':=by
 obtain⟨m,hm,pO,eZ⟩:=ha.leaf;obtain⟨k,hk,yQ,pF⟩:=hb.leaf;have wO:=fun W (hW:Bw w W)=>qhh T _ m hm rfl W (fun n hn=>(hN n hn).below hW)
 have qC:=fun W (hW:Bw w W)=>qhh T _ k hk rfl W (fun n hn=>(hN n hn).below hW)
 have uj:=fun W (hW:Bw w W)=>(ha.below hW).cells.2.1
 have CN:=fun W (hW:Bw w W)=>(hb.below hW).cells.2.1
 rw[pO,eZ]at wO;rw[yQ,pF]at qC;have ak:Op.bytesLess (sb (joinB a.x.key)).toList (sb (joinB b.x.key)).toList=ltP a b:=by unfold ltP;rw[qaz,qaz,qbi,qbi]
 generalize ltP a b=t at ak ⊢;generalize sb (joinB a.x.key)=pa at wO ak;generalize sb (joinB b.x.key)=pb at qC ak;generalize a.blk=ab at *;generalize b.blk=bb at *;generalize a.q=aq at *;generalize b.q=bq at *;have x1:=uj w (Below.refl _ _);have x2:=CN w (Below.refl _ _);clear pO eZ yQ pF ha hb hm hk;unfold nptr at wO qC ⊢
 go_enter func168,ntmps168
 go_upto_region 1 with fail
 go_region_held3 (fun w'=>w'.cell? (vA ab 1)=some (vP aq)/\w'.cell? (vA bb 1)=some (vP bq)) (go_keep)
  (first
  |(go_at_call_of 47 (vP aq);refine(wO _ ?_).mono ?_;(focus exact bel2);rintro e w1 ⟨rfl,aa⟩;have aj:Bw w w1:=qac (by exact bel2) aa;have y1:=uj _ aj;have y2:=CN _ aj)
  |(go_at_call_of 47 (vP bq);refine(qC _ ?_).mono ?_;(focus exact bel2);rintro e w2 ⟨rfl,af⟩;have aw:Bw w w2:=qac (by exact bel2) af;have z1:=uj _ aw;have z2:=CN _ aw))
 all_goals go_wp2_with fail
 go_ret
 exact⟨rfl,aw⟩
theorem un91:prog.underlying 95=some (.pointer 105):=by kernel_rfl
theorem qw5:(prog.info? 105).map (fun i=>i.size)=some 4:=by kernel_rfl
theorem qu5:∃j,prog.info? 105=some j/\j.size≠0:=by
 have h:=qw5
 cases hi:prog.info? 105 with
 |none=>rw[hi]at h;cases h
 |some j=>rw[hi]at h;simp at h;exact⟨j,rfl,by omega⟩
theorem qv5{x m:Pw}(hx:Blk W x.blk 105 x.cells)(hm:Blk W m.blk 105 m.cells):(binOp .eql 95 (vP x.blk) (vP m.blk)).run prog W=.ok (.bool (x.blk == m.blk)) W:=by
 obtain⟨j,hj,hs⟩:=qu5
 by_cases h:x.blk=m.blk
 ·rw[h,beq_self_eq_true]
  exact run_eql_ptr_same _ _ un91 hj
 ·have hb:(x.blk == m.blk)=false:=by simp[h]
  rw[hb]
  exact run_eql_ptr_other _ un91 hj hs (fun e=>h (by injection e)) hx hm
theorem wo1{x:Pw}(hx:Blk w x.blk 105 x.cells)(hp:Blk w p.blk 105 p.cells)(hb:w.cell? (vA bx 0)=some (nptr p.blk)):
  Cl 188 #[nptr x.blk,vP bx] w fun e w'=>e=.returned (.bool (x.blk == p.blk))/\w'=w:=by
 have kY:=qv5 hx hp;unfold nptr at hb ⊢
 go_enter func188,ntmps188
 go_wp2
 go_ret
 exact⟨rfl,rfl⟩
structure WRow (W:World) (v:Value) (l:List Pw):Prop where
 row:W.ownsRow 0 95 1 v l.length (qay l)
 works:∀p∈l,Blk W p.blk 105 p.cells
theorem WRow.at_(h:WRow W v l)(hi:l[i]?=some p):∃g cap,v=vS g l.length cap/\g<W.heap.size/\l.length<=cap/\cap<=maxLen/\W.cell? (vA g i)=some (nptr p.blk):=by
 obtain⟨g,cap,rfl,h1,h2⟩:=qat h.row (Nat.lt_of_le_of_lt (Nat.zero_le _) (xr0.1 hi).1)
 have:=h.row.cells (g:=g) rfl i (nptr p.blk) (by unfold qay;rw[xrs,hi];rfl)
 rw[Addr.add_lit,Nat.zero_add]at this
 exact⟨g,cap,rfl,qal h.row rfl,h1,h2,this⟩
theorem WRow.form(h:WRow W v l):∃a cap,v=.slice a l.length cap/\l.length<=cap/\cap<=maxLen:=by
 rcases h.row.2 with ⟨rfl,h0⟩|⟨g,cap,aD,rfl,_,_,h1,h2,_⟩
 ·exact⟨none,0,by rw[h0],by omega,Nat.zero_le _⟩
 ·exact⟨_,cap,rfl,h1,h2⟩
def IdxR (l:List Pw)(p:Pw)(e:Ending):Prop:=(∃i:Nat,e=.returned (vI i)/\l[i]?=some p)\/(p ∉ l/\e=.returned (vI (-1)))
theorem qp7(h:WRow w v l)(hl:l.length<=100)(hp:Blk w p.blk 105 p.cells)(aH:∀a∈l,a.blk=p.blk->a=p)(hb:w.cell? (vA bx 0)=some (nptr p.blk)):
  Cl 222 #[v,.func (.func 188) #[] #[vP bx]] w fun e w'=>IdxR l p e/\w'=w:=by
 obtain⟨a0,dA,hv,dV,jf⟩:=h.form;have bh:=fun i q (hi:l[i]?=some q)=>h.at_ hi
 have jy:=fun q (hq:q∈l)=>wo1 (h.works q hq) hp hb
 obtain⟨n,hn⟩:∃n,n=l.length:=⟨_,rfl⟩;rw[<-hn]at hv bh hl dV;have HN:Hid (n=l.length):=hn;clear hn;subst hv
 go_enter func222,ntmps222
 go_wp2
 go_loop [8] (fun i=>∃k:Nat,k<=n/\i=vI k/\∀j q,j<k->l[j]?=some q->q≠p) (fun i=>n-(intOf i).toNat)
 case atStart=>exact⟨0,Nat.zero_le _,rfl,fun j q hj=>by omega⟩
 case round =>
  obtain⟨k,hk,rfl,a7⟩:=hrel;have kL:Hid (∀j q,j<k->l[j]?=some q->q≠p):=a7;clear a7
  by_cases ak:k<n
  ·obtain⟨q,hq⟩:∃q,l[k]?=some q:=⟨_,xr1 (by rw[<-HN.out];exact ak)⟩;obtain⟨g,cap,he,ct,de,jc,hc⟩:=bh k q hq;injection he with e1 _ e3;subst e1 e3;have lV:=xr2 hq;have hw:=jy q lV;have HQ:Hid (l[k]?=some q):=hq;have nr:(k:Int)<n:=by omega
   have f_:(0:Int)<=k:=by omega
   unfold nptr at hc hw;clear hq bh jy
   cases nh:(q.blk == p.blk)
   ·rw[nh]at hw
    go_wp2_with (go_at_call 188;refine hw.mono ?_;rintro e w1 ⟨rfl,bX⟩;subst bX)
    go_round
    case rel =>
     refine⟨k+1,by omega,by go_num,fun j y hj hy=>?_⟩
     rcases Nat.lt_or_ge j k with h1|h1
     ·exact kL.out j y h1 hy
     ·obtain rfl:j=k:=by omega
      rw[HQ.out]at hy;cases hy;intro e;rw[e]at nh;simp at nh
    case measure=>simp[intOf];omega
   ·rw[nh]at hw
    go_wp2_with (go_at_call 188;refine hw.mono ?_;rintro e w1 ⟨rfl,bX⟩;subst bX)
    go_ret
    have:q=p:=aH q lV (by simpa using nh)
    exact⟨.inl ⟨k,rfl,by rw[<-this];exact HQ.out⟩,rfl⟩
  ·go_wp2
   go_ret
   refine⟨.inr ⟨fun hm=>?_,rfl⟩,rfl⟩
   obtain⟨j,hj⟩:=xre hm;have h1:=(xr0.1 hj).1
   exact kL.out j p (by have:=HN.out;omega) hj rfl
theorem qag{t:TypeId}{n:Nat}(h:W.ownsRow 0 t size v n xs)(hb:Blk W b t' vs)(ht:t≠t'):v.ownBlock≠some b:=by
 intro e;obtain⟨_,hr⟩:=h
 rcases hr with ⟨rfl,_⟩|⟨g,cap,aD,rfl,_,hg,_⟩
 ·simp[Value.ownBlock]at e
 ·simp[Value.ownBlock]at e
  subst e
  have:=hg.symm.trans hb
  injection this with this;injection this with _ h2 _
  exact ht h2
def qi2 (l zs:List Pw)(i0 j:Nat):Prop:=zs.length=l.length/\∀m,zs[m]?=if m<i0 then l[m]? else if m+1<j then l[m+1]? else l[m]?
theorem qi2.start(l:List Pw)(i0:Nat):qi2 l l i0 (i0+1):=⟨rfl,fun m=>by
 by_cases h:m<i0
 ·simp[h]
 ·simp[h,show ¬(m+1<i0+1) by omega]⟩
theorem qi2.step(h:qi2 l zs i0 j)(hj:i0<j){q:Pw}(hq:l[j]?=some q):qi2 l (zs.set (j-1) q) i0 (j+1):=by
 refine⟨by rw[List.length_set];exact h.1,fun m=>?_⟩
 have iL:=(xr0.1 hq).1;rw[List.getElem?_set]
 by_cases e:j-1=m
 ·subst e;rw[if_pos rfl,if_pos (by rw[h.1];omega),if_neg (by omega),if_pos (by omega),show j-1+1=j by omega,hq]
 ·rw[if_neg e,h.2 m]
  by_cases h1:m<i0
  ·simp[h1]
  ·simp only[h1,if_false]
   by_cases h2:m+1<j
   ·simp[h2,show m+1<j+1 by omega]
   ·simp[h2,show ¬(m+1<j+1) by omega]
theorem qi2.done(h:qi2 l zs i0 l.length)(hi:i0<l.length):zs.take (l.length-1)=l.take i0++l.drop (i0+1):=by
 apply List.ext_getElem?
 intro m;rw[List.getElem?_take]
 by_cases hm:m<l.length-1
 ·rw[if_pos hm,h.2 m]
  by_cases h1:m<i0
  ·rw[if_pos h1,xrp (by simp;omega),List.getElem?_take_of_lt h1]
  ·rw[if_neg h1,if_pos (by omega),xro (by simp;omega),List.getElem?_drop]
   congr 1
   simp;omega
 ·rw[if_neg hm]
  symm
  rw[List.getElem?_eq_none_iff]
  simp;omega
def WoR (v:Value)(l:List Pw)(p:Pw)(w:World)(e:Ending)(w':World):Prop :=
 (p ∉ l/\e=.returned v/\Bw w w') \/
 (∃(i:Nat) (v':Value),l[i]?=some p/\e=.returned v'/\WRow w' v' (l.take i++l.drop (i+1))/\Keep (fun y=>v.ownBlock=some y) w w'/\v'.ownBlock=v.ownBlock)
theorem qv3(w:World):(zeroValue 95).run prog w=.ok (.pointer none) w:=by kernel_rfl
theorem qmz(h:WRow w v l)(hl:l.length<=100)(hp:Blk w p.blk 105 p.cells)(aH:∀a∈l,a.blk=p.blk->a=p)(df:l.Nodup)(hb:w.cell? (vA bx 0)=some (nptr p.blk))(dr:v.ownBlock≠some bx):
  Cl 187 #[v,.func (.func 188) #[] #[vP bx]] w (WoR v l p w):=by
 have yI:=qp7 h hl hp aH hb
 go_enter func187,ntmps187
 go_wp2_with fail
 refine yI.mono ?_
 obtain⟨a0,dA,hv,dV,jf⟩:=h.form
 rintro e w1 ⟨(⟨i,rfl,hi⟩|⟨a7,rfl⟩),bX⟩
 ·subst bX;have ey:=(xr0.1 hi).1;obtain⟨g,cap,dg,ct,de,jc,_⟩:=h.at_ hi;rw[hv]at dg;injection dg with e1 _ e3;subst e1 e3;obtain⟨n,hn⟩:∃n,n=l.length:=⟨_,rfl⟩;have HN:Hid (n=l.length):=hn;rw[<-hn]at hv hl ey de dV;have wz:v.ownBlock=some g:=by rw[hv];rfl
  have tc:=h.row;rw[hv,<- hn]at tc;have cu:∀q∈l,g≠q.blk:=fun q hq e=>qag h.row (h.works q hq) (by decide) (by rw[wz,e])
  have iC:g≠p.blk:=cu p (xr2 hi);have Js:g≠bx:=fun e=>dr (by rw[wz,e])
  have dw:bx<w1.heap.size:=xrb _ _ hb;have qe:=h.works;have fK:((i:Int) == -1)=false:=by simp
  have p8:(0:Int)<=i:=by omega
  have HV:Hid (v=vS g n dA):=hv;have HI:Hid (l[i]?=some p):=hi;clear yI hn hi h;subst hv
  go_wp2_with fail
  go_loopw [5,6] (fun vi vj wr=>∃(j:Nat) (zs:List Pw),i+1<=j/\j<=n/\vj=vI j/\vi=vI ((j-1:Nat):Int)/\qi2 l zs i j/\wr.ownsRow 0 95 1 (vS g n dA) n (qay zs)/\Keep (fun y=>y=g) w1 wr) (fun _ vj _=>n-(intOf vj).toNat)
  case atStart=>exact⟨i+1,l,Nat.le_refl _,by omega,by go_num,by simp,qi2.start l i,tc,Keep.refl _ _⟩
  case round =>
   obtain⟨j,zs,np,rK,rfl,rfl,hM,hR,hK⟩:=hrel
   by_cases ak:j<n
   ·obtain⟨q,hq⟩:∃q,l[j]?=some q:=⟨_,xr1 (by rw[<-HN.out];exact ak)⟩;have lV:=xr2 hq;have fe:q≠p:=fun e=>by
     subst e
     have:=(List.getElem?_inj (by rw[<-HN.out];exact ak) df).1 (hq.trans HI.out.symm)
     omega
    have ta:(q.blk == p.blk)=false:=by
     cases hh:(q.blk == p.blk) with
     |false=>rfl
     |true=>exact absurd (aH q lV (by simpa using hh)) fe
    have vR:zs[j]?=some q:=by rw[hM.2 j,if_neg (by omega),if_neg (by omega)];exact hq
    have cj:=hR.cells (g:=g) rfl j (nptr q.blk) (by unfold qay;rw[xrs,vR];rfl);rw[Addr.add_lit,Nat.zero_add]at cj;have fj:=hR.frozenAt (g:=g) (j-1);have hw:=wo1 ((qe q lV).keep hK (fun e=>cu q lV e.symm)) (hp.keep hK (fun e=>iC e.symm)) ((hK.cell (p:=vA bx 0) dw (fun e=>Js e.symm)).trans hb);rw[ta]at hw;obtain⟨z,hz⟩:∃z,zs[j-1]?=some z:=⟨_,xr1 (by rw[hM.1,<- HN.out];omega)⟩;have cz:=hR.cells (g:=g) rfl (j-1) (nptr z.blk) (by unfold qay;rw[xrs,hz];rfl);rw[Addr.add_lit,Nat.zero_add]at cz;have re:=hM.step (by omega) hq;have eh:=(hR.stored (j-1) (nptr q.blk)).1;have qE:qay (zs.set (j-1) q)=(qay zs).set (j-1) (nptr q.blk):=by simp[qay,List.map_set]
    rw[<-qE]at eh;have fp:=hK.setCell (p:=vA g (j-1)) rfl (nptr q.blk);have HF:Hid (qi2 l (zs.set (j-1) q) i (j+1)/\(wr.setCell (vA g (j-1)) (nptr q.blk)).ownsRow 0 95 1 (vS g n dA) n (qay (zs.set (j-1) q))/\Keep (fun y=>y=g) w1 (wr.setCell (vA g (j-1)) (nptr q.blk))):=⟨re,eh,fp⟩;obtain⟨j',Dl⟩:∃j',j=j'+1:=⟨j-1,by omega⟩;subst Dl;simp only[Nat.add_sub_cancel]at HF cz fj ⊢;unfold nptr at cj cz hw;clear re eh fp qE hM hR hK hq vR hz;have k1:((j'+1:Nat):Int)<n:=by omega
    have k2:(j':Int)<n:=by omega
    have k3:(0:Int)<=j':=by omega
    go_wp2_with fail
    refine hw.mono ?_
    rintro e w2 ⟨rfl,en⟩
    subst en;clear hw
    go_wp2_with fail
    obtain⟨m1,m2,m3⟩:=HF.out
    exact⟨⟨j'+2,zs.set j' q,by omega,by omega,by go_num,by go_num,m1,m2,m3⟩,by simp[intOf];omega⟩
   ·have gX:j=n:=by omega
    subst gX;obtain⟨n',ez⟩:∃n',j=n'+1:=⟨j-1,by omega⟩;have an:zs.length=j:=by rw[hM.1,<- HN.out]
    obtain⟨z,hz⟩:∃z,zs[n']?=some z:=⟨_,xr1 (by omega)⟩;have cz:=hR.cells (g:=g) rfl n' (nptr z.blk) (by unfold qay;rw[xrs,hz];rfl);rw[Addr.add_lit,Nat.zero_add]at cz;have fz:=hR.frozenAt (g:=g) n';have aY:=fun ty c=>Lib.run_clear_slice (P:=prog) wr 98 95 ty (.pointer none) un94 qv3 rfl rfl g n' 1 c (by omega) (fun k hk=>by
     have:k=0:=by omega
     subst this;rw[Nat.add_zero,cz];rfl) (fun k hk=>by
     have:k=0:=by omega
     subst this
     exact fz)
    have pX:WoR (vS g j dA) l p w1 (.returned (vS g n' dA)) (wr.setCell (vA g n') (.pointer none)):=by
     refine .inr ⟨i,_,HI.out,rfl,⟨?_,fun q hq=>?_⟩,?_,rfl⟩
     ·have r1:=(hR.stored n' (.pointer none)).1;have r2:=qoc r1 (m:=n') (by omega);have e1:((qay zs).set n' (.pointer none)).take n'=(qay zs).take n':=List.take_set_of_le (Nat.le_refl n');rw[e1]at r2;have hd:=hM;rw[HN.out]at hd;have kE:=hd.done (by rw[<-HN.out];omega);have kH:l.length-1=n':=by rw[<-HN.out];omega
      rw[kH]at kE;rw[<-kE]
      have:qay (zs.take n')=(qay zs).take n':=by simp[qay,List.map_take]
      rw[this,show(zs.take n').length=n' by simp;omega]
      exact r2
     ·have mL:q∈l:=by
       rcases xri.1 hq with h1|h1
       ·exact List.mem_of_mem_take h1
       ·exact List.mem_of_mem_drop h1
      exact((qe q mL).keep hK (fun e=>cu q mL e.symm)).other _ _ (fun e=>cu q mL e.symm)
     ·exact(hK.mono (fun y e=>by rw[e];rfl)).setCell (p:=vA g n') (by rfl) _
    have B7:Hid (WoR (vS g j dA) l p w1 (.returned (vS g n' dA)) (wr.setCell (vA g n') (.pointer none))):=pX;subst ez;simp only[World.setCells,List.replicate]at aY;clear pX hM hR hK an hz;simp only[Nat.add_sub_cancel];have k2:(n':Int)<(n'+1:Nat):=by omega
    have k3:(0:Int)<=n':=by omega
    have k4:¬((n':Int)=dA):=by omega
    go_wp2_with fail
    go_ret
    exact B7.out
 ·subst bX;clear hv
  go_wp2_with fail
  go_ret
  exact .inl ⟨a7,rfl,Below.refl _ _⟩
theorem qb7(h:WRow w v l)(hl:l.length<=100)(hp:Blk w p.blk 105 p.cells)(aH:∀a∈l,a.blk=p.blk->a=p)(df:l.Nodup):
  Cl 138 #[v,nptr p.blk] w (WoR v l p w):=by
 have aO:Bw w (w.alloc (.cells #[nptr p.blk] 95)):=by exact bel2
 have hb:=(Box.new w 95 (nptr p.blk)).cell;have h1:WRow (w.alloc (.cells #[nptr p.blk] 95)) v l:=⟨qab (T:=fun _=>False) h.row (Keep.new aO) (fun _ _ e=>e),fun q hq=>(h.works q hq).alloc _⟩;have dr:v.ownBlock≠some w.heap.size:=fun e=>by have:=qal h.row e;omega
 have hd:=qmz h1 hl (hp.alloc _) aH df hb dr;have nT:∀(fn:Fn) (first cap:Array Value) (w:World),(Instr.makeFunc fn first cap).run prog w=.ok (.func fn first cap) w:=fun _ _ _ _=>rfl
 have aM:∀e w',WoR v l p (w.alloc (.cells #[nptr p.blk] 95)) e w'->WoR v l p w e w':=fun e w' hr=>by
  rcases hr with ⟨h1,h2,h3⟩|⟨i,v',h1,h2,h3,h4,h5⟩
  ·exact .inl ⟨h1,h2,qac aO h3⟩
  ·exact .inr ⟨i,v',h1,h2,h3,(Keep.new (T:=fun y=>v.ownBlock=some y) aO).trans h4,h5⟩
 have HV:Hid (∀e w',WoR v l p (w.alloc (.cells #[nptr p.blk] 95)) e w'->(∃x,e=.returned x)/\WoR v l p w e w'):=fun e w' hr=>⟨by rcases hr with ⟨_,h2,_⟩|⟨_,v',_,h2,_⟩<;>exact⟨_,h2⟩,aM e w' hr⟩
 clear aM h h1 aH;unfold nptr at hd HV ⊢;generalize WoR v l p w=X at HV ⊢;generalize WoR v l p (w.alloc (.cells #[vP p.blk] 95))=Y at hd HV
 go_enter func138,ntmps138
 go_wp2_with fail
 refine hd.mono ?_
 intro e w1 hy;obtain⟨⟨x,rfl⟩,hx⟩:=HV.out _ _ hy;clear hd hy HV
 go_wp2_with fail
 exact hx
end
end Go.Proofs.YtphclnolomgjoaaGreatDoor
