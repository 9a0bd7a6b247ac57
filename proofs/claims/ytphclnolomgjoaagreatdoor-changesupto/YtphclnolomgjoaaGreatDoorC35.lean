import Derived.Test.YtphclnolomgjoaaGreatDoorC34
set_option linter.unusedVariables false
set_option linter.unusedSimpArgs false
set_option maxRecDepth 100000
set_option maxHeartbeats 4000000
namespace Go.Proofs.YtphclnolomgjoaaGreatDoor
open Tryz
open Go.RowKit
variable {er:Int}{M bytes g2 q2 size:Nat}{nm:Bs}{e:TypeId}{K' k:List Bs}{w3:World}{L':List Ent}{Ws':List Wk}{a2:Option Addr}{zS:ByteArray}
def q02 (L:List Ent)(s s2:Bs):Int :=
 if (qar s&&qar s2)=false then 1 else if errF L s≠0 then errF L s else match qcv L (qaa s2) with
 |none=>3
 |some y=>if y.leaf=true then 5 else if inB s2 s=true then 10 else if (qcv L (qaa s2++[qbv (qaa s)])).isSome=true then 4
  else if L.any (fun e=>decide (4<(mvK (qaa s) (qaa s2++[qbv (qaa s)]) e.key).length))=true then 8 else 0
theorem qxj(s:ByteArray)(hs:s.size<=2000000)(w:World):
  Cl 113 #[.string s] w fun e w'=>(∃sl,e=.returned (.tuple #[sl,.bool (qar (bl s))]))/\Bw w w':=by
 refine(ql8 s hs w).mono ?_
 rintro e w' ⟨h,hb⟩
 refine⟨?_,hb⟩
 rcases h with ⟨h1,rfl⟩|⟨h1,sl,rfl,_⟩<;>rw[h1]<;>exact⟨_,rfl⟩
theorem qyo(s:ByteArray)(hs:s.size<=2000000)(hv:qar (bl s)=true)(w:World):
  Cl 113 #[.string s] w fun e w'=>(∃ao cap,e=.returned (.tuple #[.slice ao (qaa (bl s)).length cap,.bool true])/\(qaa (bl s)).length<=cap/\cap<=maxLen/\w'.ownsRow 0 9 1 (.slice ao (qaa (bl s)).length cap) (qaa (bl s)).length (strs (qaa (bl s)))/\(∀b,(Value.slice ao (qaa (bl s)).length cap).ownBlock=some b->w.heap.size<=b))/\Bw w w':=by
 refine(ql8 s hs w).mono ?_
 rintro e w' ⟨(⟨h,_⟩|⟨_,sl,rfl,av⟩),hb⟩
 ·rw[hv]at h;cases h
 ·refine⟨?_,hb⟩
  obtain⟨hl,hr⟩:=av
  rcases hr with ⟨rfl,h0⟩|⟨g,cap,aD,rfl,eO,hg,h1,h2,h3,h4⟩
  ·exact⟨none,0,by rw[h0],by omega,Nat.zero_le _,⟨hl,.inl ⟨by rw[h0],h0⟩⟩,fun b hb=>by simp[Value.ownBlock]at hb⟩
  ·exact⟨_,_,rfl,h1,h2,⟨hl,.inr ⟨g,cap,aD,rfl,Nat.zero_le _,hg,h1,h2,h3,h4⟩⟩,fun b hb=>by simp[Value.ownBlock]at hb;omega⟩
theorem q13{w:World}{br:Nat}(s s2:ByteArray)(hs:s.size<=2000000)(cv:s2.size<=2000000)(hv:(qar (bl s)&&qar (bl s2))=false):
  Cl 73 #[vP br,.string s,.string s2] w fun e w'=>e=.returned (.tuple #[v0_,vI 1])/\Bw w w':=by
 have cQ:=fun W=>qxj s hs W
 have da:=fun W=>qxj s2 cv W
 generalize qar (bl s)=b1 at *;generalize qar (bl s2)=b2 at *
 cases b1<;>cases b2
 all_goals first|cases hv|skip
 all_goals
  go_enter func73,ntmps73
  go_wp2_with (first
   |(go_at_call 113;refine(cQ _).mono ?_;clear cQ;rintro e w1 ⟨⟨bm,rfl⟩,aa⟩)
   |(go_at_call 113;refine(da _).mono ?_;rintro e w2 ⟨⟨bz,rfl⟩,af⟩;have aw:=qac aa af))
  exact xrn (v:=.tuple #[v0_,vI 1]) (by simp[results,results73,go_sem]) rfl ⟨rfl,aw⟩
section
variable {w:World}{br g cap:Nat}{L:List Ent}{ao:Option Addr}{cW:Nat}{Ws:List Wk}{cnt st:Int}
theorem q19(h:GRef w br g cap L ao cW Ws cnt st)(E:Ents L)(aH:∀a∈L,∀b∈L,a.key=b.key->a=b)(s s2:ByteArray)(hs:s.size<=2000000)(cv:s2.size<=2000000)(hv:(qar (bl s)&&qar (bl s2))=true)(hF:errF L (bl s)=er)(h0:er≠0):
  Cl 73 #[vP br,.string s,.string s2] w fun e w'=>e=.returned (.tuple #[v0_,vI er])/\Bw w w':=by
 have cQ:=fun W=>qxj s hs W
 have da:=fun W=>qxj s2 cv W
 obtain⟨dv,dg⟩:qar (bl s)=true/\qar (bl s2)=true:=by simpa using hv
 rw[dv]at cQ;rw[dg]at da;clear dv dg;have ag:∀W,Bw w W->Cl 117 #[vP br,.string s] W fun e w'=>e=.returned (.tuple #[vI 0,vI er])/\Bw W w':=fun W hW=>(qxw (h.below hW).ref E aH s hs).mono fun e w' hp=>by
  obtain⟨hG,hb⟩:=hp
  rcases hG with ⟨_,h1⟩|⟨h1,_⟩
  ·rw[<-hF];exact⟨h1,hb⟩
  ·exact absurd (hF.symm.trans h1) h0
 have aW:(er != 0)=true:=by simp[h0]
 have dF:(er == 0)=false:=by simp[h0]
 clear h hF hv h0
 go_enter func73,ntmps73
 go_wp2_with (first
  |(go_at_call 113;refine(cQ _).mono ?_;clear cQ;rintro e w1 ⟨⟨bm,rfl⟩,aa⟩)
  |(go_at_call 113;refine(da _).mono ?_;rintro e w2 ⟨⟨bz,rfl⟩,af⟩;have aw:=qac aa af)
  |(go_at_call 117;refine(ag _ aw).mono ?_;rintro e w3 ⟨rfl,ax⟩;have aK:=qac aw ax))
 exact xrn (v:=.tuple #[v0_,vI er]) (by simp[results,results73,go_sem]) rfl ⟨rfl,aK⟩
theorem q16(h:GRef w br g cap L ao cW Ws cnt st)(E:Ents L)(aH:∀a∈L,∀b∈L,a.key=b.key->a=b)(s s2:ByteArray)(hs:s.size<=2000000)(cv:s2.size<=2000000)(hv:qar (bl s)=true)(dg:qar (bl s2)=true)(hF:errF L (bl s)=0){x:Ent}(hx:qcv L (qaa (bl s))=some x)(hy:qcv L (qaa (bl s2))=none):
  Cl 73 #[vP br,.string s,.string s2] w fun e w'=>e=.returned (.tuple #[v0_,vI 3])/\Bw w w':=by
 have cQ:=fun W=>qxj s hs W
 have da:=fun W=>qxj s2 cv W
 rw[hv]at cQ;rw[dg]at da;have ag:=fun W (hW:Bw w W)=>qxv (h.below hW).ref E aH s hs hF hx
 have bh:=fun W (hW:Bw w W)=>qgx (h.below hW).ref E aH s2 (qaa (bl s2)) (by rw[<-qba];exact dg) (qa6 _).symm hy
 clear h hF hv dg hx hy
 go_enter func73,ntmps73
 go_wp2_with (first
  |(go_at_call 113;refine(cQ _).mono ?_;clear cQ;rintro e w1 ⟨⟨bm,rfl⟩,aa⟩)
  |(go_at_call 113;refine(da _).mono ?_;rintro e w2 ⟨⟨bz,rfl⟩,af⟩;have aw:=qac aa af)
  |(go_at_call 117;refine(ag _ aw).mono ?_;rintro e w3 ⟨⟨i,rfl,hi⟩,ax⟩;have aK:=qac aw ax;clear hi)
  |(go_at_call 114;refine(bh _ aK).mono ?_;rintro e w4 ⟨rfl,fQ⟩;subst fQ))
 exact xrn (v:=.tuple #[v0_,vI 3]) (by simp[results,results73,go_sem]) rfl ⟨rfl,aK⟩
theorem qyz(h:GRef w br g cap L ao cW Ws cnt st)(E:Ents L)(aH:∀a∈L,∀b∈L,a.key=b.key->a=b)(s2:ByteArray)(dg:qar (bl s2)=true){y:Ent}(hy:qcv L (qaa (bl s2))=some y){n:Nat}(hn:L.length=n):
  ∀W,Bw w W->Cl 114 #[vP br,.string s2] W fun e w'=>(∃j:Nat,e=.returned (vI j)/\(j:Int)<n/\¬((j:Int)<0)/\W.cell? (vA br 0)=some (vS g n cap)/\W.cell? (vA g (j*6+1))=some (.bool y.leaf))/\w'=W:=fun W hW=>by
 refine(qib (h.below hW).ref E aH s2 (qaa (bl s2)) (by rw[<-qba];exact dg) (qa6 _).symm hy).mono ?_
 rintro e w' ⟨⟨j,rfl,hj⟩,rfl⟩
 refine⟨⟨j,rfl,?_,by omega,?_,?_⟩,rfl⟩
 ·have:=(xr0.1 hj).1;omega
 ·have:=(h.below hW).ref.at_.cell 0;rw[hn]at this;simpa using this
 ·exact(h.below hW).ref.ent hj (j:=1) rfl
theorem q18(h:GRef w br g cap L ao cW Ws cnt st)(E:Ents L)(aH:∀a∈L,∀b∈L,a.key=b.key->a=b)(s s2:ByteArray)(hs:s.size<=2000000)(cv:s2.size<=2000000)(hv:qar (bl s)=true)(dg:qar (bl s2)=true)(hF:errF L (bl s)=0){x y:Ent}(hx:qcv L (qaa (bl s))=some x)(hy:qcv L (qaa (bl s2))=some y)(hl:y.leaf=true):
  Cl 73 #[vP br,.string s,.string s2] w fun e w'=>e=.returned (.tuple #[v0_,vI 5])/\Bw w w':=by
 have cr:=h.ref.qjv;obtain⟨n,hn⟩:∃n,L.length=n:=⟨_,rfl⟩;rw[hn]at cr;have cQ:=fun W=>qxj s hs W
 have da:=fun W=>qxj s2 cv W
 rw[hv]at cQ;rw[dg]at da;have ag:=fun W (hW:Bw w W)=>qxv (h.below hW).ref E aH s hs hF hx
 have bh:=qyz h E aH s2 dg hy hn;rw[hl]at bh;clear h hF hv dg hx hy hl hn
 go_enter func73,ntmps73
 go_wp2_with (first
  |(go_at_call 113;refine(cQ _).mono ?_;clear cQ;rintro e w1 ⟨⟨bm,rfl⟩,aa⟩)
  |(go_at_call 113;refine(da _).mono ?_;rintro e w2 ⟨⟨bz,rfl⟩,af⟩;have aw:=qac aa af)
  |(go_at_call 117;refine(ag _ aw).mono ?_;rintro e w3 ⟨⟨i,rfl,hi⟩,ax⟩;have aK:=qac aw ax;clear hi)
  |(go_at_call 114;refine(bh _ aK).mono ?_;rintro e w4 ⟨⟨j,rfl,np,rK,wF,AL⟩,fQ⟩;subst fQ))
 exact xrn (v:=.tuple #[v0_,vI 5]) (by simp[results,results73,go_sem]) rfl ⟨rfl,aK⟩
theorem q1g(h:GRef w br g cap L ao cW Ws cnt st)(E:Ents L)(aH:∀a∈L,∀b∈L,a.key=b.key->a=b)(s s2:ByteArray)(hs:s.size<=2000000)(cv:s2.size<=2000000)(hv:qar (bl s)=true)(dg:qar (bl s2)=true)(hF:errF L (bl s)=0){x y:Ent}(hx:qcv L (qaa (bl s))=some x)(hy:qcv L (qaa (bl s2))=some y)(hl:y.leaf=false)(cH:inB (bl s2) (bl s)=true):
  Cl 73 #[vP br,.string s,.string s2] w fun e w'=>e=.returned (.tuple #[v0_,vI 10])/\Bw w w':=by
 have cr:=h.ref.qjv;obtain⟨n,hn⟩:∃n,L.length=n:=⟨_,rfl⟩;rw[hn]at cr;have cQ:=fun W=>qxj s hs W
 have da:=fun W=>qxj s2 cv W
 rw[hv]at cQ;rw[dg]at da;have ag:=fun W (hW:Bw w W)=>qxv (h.below hW).ref E aH s hs hF hx
 have bh:=qyz h E aH s2 dg hy hn;rw[hl]at bh;have fC:=fun W=>qk9 s2 s W cv hs
 rw[cH]at fC;clear h hF hv dg hx hy hl hn cH
 go_enter func73,ntmps73
 go_wp2_with (first
  |(go_at_call 113;refine(cQ _).mono ?_;clear cQ;rintro e w1 ⟨⟨bm,rfl⟩,aa⟩)
  |(go_at_call 113;refine(da _).mono ?_;rintro e w2 ⟨⟨bz,rfl⟩,af⟩;have aw:=qac aa af)
  |(go_at_call 117;refine(ag _ aw).mono ?_;rintro e w3 ⟨⟨i,rfl,hi⟩,ax⟩;have aK:=qac aw ax;clear hi)
  |(go_at_call 114;refine(bh _ aK).mono ?_;rintro e w4 ⟨⟨j,rfl,np,rK,wF,AL⟩,fQ⟩;subst fQ)
  |(go_at_call 121;refine(fC _).mono ?_;rintro e w5 ⟨rfl,lJ⟩;subst lJ))
 exact xrn (v:=.tuple #[v0_,vI 10]) (by simp[results,results73,go_sem]) rfl ⟨rfl,aK⟩
end
theorem q07{l:List Bs}(h:l.length=M+1):l[M]?=some (qbv l):=by
 have aW:l≠[]:=fun e=>by rw[e]at h;simp at h
 have:M=l.length-1:=by omega
 rw[this,<- List.getLast?_eq_getElem?,List.getLast?_eq_some_getLast aW];unfold qbv;rw[List.getLastD_eq_getLast?,List.getLast?_eq_some_getLast aW];rfl
theorem qy6{l:List Bs}(hk:qbn l=true)(h:l.length=M+1):qbd (qbv l)=true:=qbz hk (xr2 (q07 h))
theorem qzu{l:List Bs}(hk:qbn l=true)(h:qbd nm=true):qbn (l++[nm])=true:=by
 simp only[qbn,List.all_append,List.all_cons,List.all_nil,Bool.and_true,Bool.and_eq_true]at hk ⊢
 exact⟨hk,h⟩
theorem qyw(s:ByteArray)(hs:s.size<=2000000)(hv:qar (bl s)=true)(M:Nat)(hM:(qaa (bl s)).length=M+1)(w:World):
  Cl 113 #[.string s] w fun e w'=>(∃gg cap,e=.returned (.tuple #[vS gg (M+1) cap,.bool true])/\M+1<=cap/\cap<=maxLen/\gg<w'.heap.size/\w'.cell? (vA gg M)=some (.string (sb (qbv (qaa (bl s))))))/\Bw w w':=by
 refine(qga s hs hv M hM w).mono ?_
 rintro e w' ⟨⟨gg,cap,rfl,h1,h2,hr⟩,hb⟩
 obtain⟨g',e1,h3,h4⟩:=hr.cell M _ (q07 hM);injection e1 with e1;injection e1 with e1;subst e1
 exact⟨⟨gg,cap,rfl,h1,h2,h3,h4⟩,hb⟩
theorem qz6{l:List Bs}(hl:l.length<=4)(nm:Bs)(W:World)(a:Option Addr)(c gb:Nat)(h1:l.length<=c)(h2:c<=maxLen)(hr:W.ownsRow 0 9 1 (.slice a l.length c) l.length (strs l))(hb:Blk W gb 9 #[.string (sb nm)]):
  ∃v' w',(∀ty,(Builtin.append_ #[46,46] ty #[.slice a l.length c,vS gb 1 1]).run prog W=.ok v' w')/\∃a' cap',v'=.slice a' (l.length+1) cap'/\AppO W (Value.slice a l.length c).ownBlock 9 1 (l.length+1) (strs (l++[nm])) a' cap' w':=by
 rw[ql4]
 exact qrk qw8 inf9 (by omega) W a l.length c h1 h2 (strs l) hr (some (vA gb 0)) 1 1 [.string (sb nm)] rfl (fun _=>⟨_,rfl,fun j u hu=>by
  rw[Addr.add_lit,Nat.zero_add,hb.cell];simpa using hu⟩) (fun u hu=>by simp at hu;subst hu;rfl) (by unfold maxLen;omega) (by omega)
theorem qze{l:List Bs}(hl:l.length<=4)(hk:qbn l=true)(nm:Bs)(hn:qbd nm=true)(W:World)(a:Option Addr)(c:Nat)(hr:W.ownsRow 0 9 1 (.slice a (l.length+1) c) (l.length+1) (strs (l++[nm]))):
  Cl 122 #[.slice a (l.length+1) c] W fun e w'=>e=.returned (.string (sb (joinB (l++[nm]))))/\w'=W:=by
 have:=quj a c (l++[nm]) W (by simp;omega) (fun x hx=>by have:=(qea (qbz (qzu hk hn) hx)).2;omega) (by simp;omega)
  (fun j x hx=>by
   obtain⟨gg,cc,hv,_,_⟩:=qat hr (by omega);injection hv with e1 _ _;subst e1
   have:=hr.cells (g:=gg) rfl j (.string (sb x)) (by unfold strs;rw[xrs,hx];rfl)
   rw[Addr.add_lit,Nat.zero_add]at this
   exact⟨gg,rfl,this⟩)
 simpa using this
section
variable {w:World}{br g cap:Nat}{L:List Ent}{ao:Option Addr}{cW:Nat}{Ws:List Wk}{cnt st:Int}
theorem q17(h:GRef w br g cap L ao cW Ws cnt st)(E:Ents L)(aH:∀a∈L,∀b∈L,a.key=b.key->a=b)(s s2:ByteArray)(hs:s.size<=2000000)(cv:s2.size<=2000000)(hv:qar (bl s)=true)(dg:qar (bl s2)=true)(hF:errF L (bl s)=0){x y:Ent}(hx:qcv L (qaa (bl s))=some x)(hy:qcv L (qaa (bl s2))=some y)(hl:y.leaf=false)(cH:inB (bl s2) (bl s)=false){z:Ent}(hz:qcv L (qaa (bl s2)++[qbv (qaa (bl s))])=some z):
  Cl 73 #[vP br,.string s,.string s2] w fun e w'=>e=.returned (.tuple #[v0_,vI 4])/\Bw w w':=by
 have bR:=h.qii;have cr:=h.ref.qjv;have kE:(qaa (bl s2)).length<=4:=by
  have:=E.ok y (List.mem_of_find?_eq_some hy)
  have e:y.key=qaa (bl s2):=by have:=List.find?_some hy;simpa using this
  rw[<-e];exact this.2
 have nQ:(qaa (bl s)).length<=4:=by
  have:=E.ok x (List.mem_of_find?_eq_some hx)
  have e:x.key=qaa (bl s):=by have:=List.find?_some hx;simpa using this
  rw[<-e];exact this.2
 obtain⟨n,hn⟩:∃n,L.length=n:=⟨_,rfl⟩;rw[hn]at cr;obtain⟨M,hM⟩:∃M,(qaa (bl s)).length=M+1:=by
  refine⟨(qaa (bl s)).length-1,?_⟩
  have:qaa (bl s)≠[]:=fun e=>by
   have h0:bl s=[]:=by rw[<-qa6 (bl s),e];rfl
   unfold errF at hF;rw[hv,if_neg (by simp),if_pos h0]at hF
   cases hF
  have:=List.length_pos_iff.2 this
  omega
 have cQ:=fun W=>qyw s hs hv M hM W
 have da:=fun W=>qyo s2 cv dg W
 have ag:=fun W (hW:Bw w W)=>qxv (h.below hW).ref E aH s hs hF hx
 have bh:=qyz h E aH s2 dg hy hn;rw[hl]at bh;have fC:=fun W=>qk9 s2 s W cv hs
 rw[cH]at fC;have cu:=fun W a2 c2 gb=>qz6 (l:=qaa (bl s2)) kE (qbv (qaa (bl s))) W a2 c2 gb
 have gX:=fun W a3 c3=>qze (l:=qaa (bl s2)) kE (by rw[<-qba];exact dg) (qbv (qaa (bl s))) (qy6 (by rw[<-qba];exact hv) hM) W a3 c3
 have mC:qbn (qaa (bl s2)++[qbv (qaa (bl s))])=true:=qzu (by rw[<-qba];exact dg) (qy6 (by rw[<-qba];exact hv) hM);have bT:=fun W (hW:Bw w W)=>qib (h.below hW).ref E aH (sb (joinB (qaa (bl s2)++[qbv (qaa (bl s))]))) _ mC (qbi _) hz
 obtain⟨zS,wX⟩:∃z,z=sb (joinB (qaa (bl s2)++[qbv (qaa (bl s))])):=⟨_,rfl⟩;rw[<-wX]at gX bT;obtain⟨m2,ir⟩:∃m,(qaa (bl s2)).length=m:=⟨_,rfl⟩;rw[ir]at da cu gX kE;obtain⟨nS,jg⟩:∃z,z=sb (qbv (qaa (bl s))):=⟨_,rfl⟩;rw[<-jg]at cQ cu;have xT:M<=3:=by omega
 have IB:((M:Int)+1)-1=M:=by omega
 clear h hF hv dg hx hy hl hn cH hz mC hM nQ wX ir jg E aH
 go_enter func73,ntmps73
 go_upto_region 16 with (first
  |(go_at_call 113;refine(cQ _).mono ?_;clear cQ;rintro e w1 ⟨⟨gg,cp,rfl,eP,fr,ct,wH⟩,aa⟩)
  |(go_at_call 113;refine(da _).mono ?_;rintro e w2 ⟨⟨a2,c2,rfl,rv,ry,fg,dG⟩,af⟩;have aw:=qac aa af;have rN:=(af.cell (p:=vA gg M) ct).trans wH)
  |(go_at_call 117;refine(ag _ aw).mono ?_;rintro e w3 ⟨⟨i,rfl,hi⟩,ax⟩;have aK:=qac aw ax;clear hi;have yT:=(ax.cell (p:=vA gg M) (xrg ct af.size)).trans rN)
  |(go_at_call 114;refine(bh _ aK).mono ?_;rintro e w4 ⟨⟨j,rfl,np,rK,wF,AL⟩,fQ⟩;subst fQ;have gD:=qab (T:=fun _=>False) fg (Keep.new ax) (fun _ _ h=>h);have wC:gg<w4.heap.size:=xrg ct (Nat.le_trans af.size ax.size))
  |(go_at_call 121;refine(fC _).mono ?_;rintro e w5 ⟨rfl,lJ⟩;subst lJ;have Bd:=aK.size))
 clear da ag bh fC
 go_wp2_with (first
  |(at_builtin;refine qah (by rfl) _ _ _ _ rfl _ _ rfl (by rfl) (cu _ _ _ _ rv ry (qab (T:=fun _=>False) gD (Keep.new (by exact bel2)) (fun _ _ h=>h)) (by exact blk2)) ?_;rintro v6 w6 ⟨a6,c6,rfl,R6⟩;have j7:Bw w w6:=qv6 (sl:=.slice a2 m2 c2) (by exact bel2) R6.keep (fun b hb=>Nat.le_trans aa.size (dG b hb)))
  |(go_at_call 122;refine(gX _ _ _ R6.own).mono ?_;rintro e w7 ⟨rfl,Eb⟩;subst Eb)
  |(go_at_call 114;refine(bT _ j7).mono ?_;rintro e w8 ⟨⟨k,rfl,hk⟩,Ec⟩;subst Ec;have eE:(k:Int) >= 0:=by omega))
 exact xrn (v:=.tuple #[v0_,vI 4]) (by simp[results,results73,go_sem]) rfl ⟨rfl,j7⟩
end
theorem step_take{α β : Type _}(f : α -> β)(l:List α)(k:Nat)(y : α)(h:l[k]?=some y):(l.take (k+1)).map f=(l.take k).map f++[f y]:=by
 have ak:=(xr0.1 h).1;rw[xrf ak,List.map_append];rw[xr1 ak]at h
 cases h
 rfl
theorem q1p{t:TypeId}(ht:prog.underlying t=some (.slice e))(hi:qdf e size bytes)(dk:0<size)(IX:bytes<=1000)(W:World)(a:Option Addr)(k c gb:Nat)(xs:List Value)(new:Array Value)(hn:new.size=size)(h1:∀u∈new,u.oneCell'=true)(hk:k<=1000)(hc:k<=c)(jf:c<=maxLen)(hr:W.ownsRow 0 e size (.slice a k c) k xs)(hb:Blk W gb e new):
  ∃v' w',(∀ty,(Builtin.append_ #[t,t] ty #[.slice a k c,vS gb 1 1]).run prog W=.ok v' w')/\∃a' cap',v'=.slice a' (k+1) cap'/\AppO W (Value.slice a k c).ownBlock e size (k+1) (xs++new.toList) a' cap' w':=by
 have aa:(k+1)*bytes<=1001*1000:=Nat.mul_le_mul (by omega) IX
 exact qrk ht hi dk W a k c hc jf xs hr (some (vA gb 0)) 1 1 new.toList (by simp[hn]) (fun _=>⟨_,rfl,fun j u hu=>by
  rw[Addr.add_lit,Nat.zero_add,hb.cell];simpa using hu⟩) (fun u hu=>h1 u (by simpa using hu)) (by unfold maxLen;omega) (by omega)
theorem q2j{K:List Bs}(hk:qbn k=true)(hK:qbn K=true):inB (joinB k) (joinB K)=K.isPrefixOf k:=by
 rw[Bool.eq_iff_iff,qqv hk hK,xrw]
def MovG (br g:Nat)(o0:Option Nat)(L L':List Ent)(Ws Ws':List Wk)(cnt st:Int)(w:World)(e:Ending)(w':World):Prop :=
 (qxf L' Ws'=true/\e=.returned (.tuple #[v0_,vI 11])/\qdw w br g o0 L cnt ⟨Ws,st,[]⟩ v0_ w') \/
 (qxf L' Ws'=false/\∃sl,e=.returned (.tuple #[sl,vI 0])/\qdw w br g o0 L' cnt (qaj L' ⟨Ws',st,[]⟩) sl w')
def qx3 (L:List Ent)(K K':List Bs):Bool:=L.any fun e=>decide (4<(mvK K K' e.key).length)
theorem GRef.putB{w:World}{br g cap:Nat}{L:List Ent}{ao:Option Addr}{cW:Nat}{Ws:List Wk}{cnt st:Int}(h:GRef w br g cap L ao cW Ws cnt st)(hB:Bw w w3)(hr:w3.ownsRow 0 163 6 (vS g2 L'.length q2) L'.length (qdi L'))(hn:w.heap.size<=g2)
  {c2:Nat} (lE:w3.ownsRow 0 178 5 (.slice a2 Ws'.length c2) Ws'.length (qad Ws')) (da:∀b,(Value.slice a2 Ws'.length c2).ownBlock=some b->w.heap.size<=b/\b≠g2) :
  GRef ((w3.setCell (vA br 0) (vS g2 L'.length q2)).setCell (vA br 1) (.slice a2 Ws'.length c2)) br g2 q2 L' a2 c2 Ws' cnt st/\Keep (fun y=>y=br) w ((w3.setCell (vA br 0) (vS g2 L'.length q2)).setCell (vA br 1) (.slice a2 Ws'.length c2)):=by
 have bR:=h.qii
 refine⟨⟨⟨?_,?_⟩,?_,?_⟩,((Keep.new (T:=fun y=>y=br) hB).setCell (p:=vA br 0) rfl _).setCell (p:=vA br 1) rfl _⟩
 ·have h1:=((h.ref.at_.below hB bR).set 0 (vS g2 L'.length q2)).set 1 (.slice a2 Ws'.length c2)
  simpa using h1
 ·exact xrl (xrl hr (fun e=>by simp[Value.ownBlock]at e;omega) _) (fun e=>by simp[Value.ownBlock]at e;omega) _
 ·exact xrl (xrl lE (fun e=>by have:=(da _ e).1;simp at this;omega) _) (fun e=>by have:=(da _ e).1;simp at this;omega) _
 ·intro b hb
  have:=da b hb
  exact⟨by omega,this.2⟩
theorem q2z{K:List Bs}(h:qbn k=true)(h':qbn K'=true):qbn (mvK K K' k)=true:=by
 unfold mvK
 split
 ·simp only[qbn,List.all_append,Bool.and_eq_true]at h h' ⊢
  refine⟨h',?_⟩
  rw[List.all_eq_true]at h ⊢
  exact fun x hx=>h x (List.mem_of_mem_drop hx)
 ·exact h
theorem q1f(K K' k:List Bs):(mvK K K' k).length<=K'.length+k.length:=by
 unfold mvK
 split
 ·simp<;>omega
 ·omega
theorem q2p{s:ByteArray}{K:List Bs}(hs:bl s=joinB K)(cv:s.size<=2000000)(hK:qbn K=true)(hk:qbn k=true)(hl:k.length<=4)(W:World):
  Cl 121 #[.string (sb (joinB k)),.string s] W fun e w'=>e=.returned (.bool (K.isPrefixOf k))/\w'=W:=by
 have:=qk9 (sb (joinB k)) s W (by rw[qd3];have:=qgm _ hk;omega) cv
 rw[qbi,hs,q2j hk hK]at this
 exact this
theorem q2q{s:ByteArray}{K:List Bs}(hs:bl s=joinB K)(hz:bl zS=joinB K')(sD:K≠[])(rb:K'≠[])(oT:qbn K'=true)(F_:K'.length<=5)(hk:qbn k=true)(hl:k.length<=4)(hp:K.isPrefixOf k=true)(W:World):
  Cl 123 #[.string (sb (joinB k)),.string s,.string zS] W fun e w'=>e=.returned (.string (sb (joinB (mvK K K' k))))/\w'=W:=by
 obtain⟨tl,rfl⟩:=xrw.1 hp
 have:=q1e (k:=K) (k':=K') (tl:=tl) sD rb hk oT hl F_ W
 rw[<-hs,<- hz,qp4,qp4]at this;rw[qxn (xry _ _),List.drop_left]
 exact this
theorem q2r{K:List Bs}(oT:qbn K'=true)(F_:K'.length<=5)(hk:qbn k=true)(hl:k.length<=4)(W:World):
  Cl 113 #[.string (sb (joinB (mvK K K' k)))] W fun e w'=>(∃a c,e=.returned (.tuple #[.slice a (mvK K K' k).length c,.bool true])/\(mvK K K' k).length<=c/\c<=maxLen)/\Bw W w':=by
 have h1:=q2z (K:=K) hk oT;have h2:=q1f K K' k;have hn:qaa (bl (sb (joinB (mvK K K' k))))=mvK K K' k:=by rw[qbi];exact qg8 h1
 refine(qyo (sb (joinB (mvK K K' k))) (by rw[qd3];have:=qgm _ h1;omega) (by rw[qba,hn];exact h1) W).mono ?_
 rw[hn]
 rintro e w' ⟨⟨a,c,rfl,g1,g2,_⟩,hb⟩
 exact⟨⟨a,c,rfl,g1,g2⟩,hb⟩
theorem q2o(x:Ent):∀u∈(qbs x).toArray,u.oneCell'=true:=fun u hu=>qyh [x] u (by simpa [qdi] using hu)
theorem q25(x:Wk):∀u∈(qbf x).toArray,u.oneCell'=true:=fun u hu=>qio [x] u (by simpa [qad] using hu)
theorem q0z(l:List Ent)(x:Ent):qdi (l++[x])=qdi l++qbs x:=by simp[qdi]
theorem q2i(l:List Wk)(x:Wk):qad (l++[x])=qad l++qbf x:=by simp[qad]
section
variable {w:World}{br g cap:Nat}{L:List Ent}{ao:Option Addr}{cW:Nat}{Ws:List Wk}{cnt st:Int}
theorem qzh(h:GRef w br g cap L ao cW Ws cnt st)(E:Ents L)(aH:∀a∈L,∀b∈L,a.key=b.key->a=b)(s s2:ByteArray)(hs:s.size<=2000000)(cv:s2.size<=2000000)(hv:qar (bl s)=true)(dg:qar (bl s2)=true)(hF:errF L (bl s)=0){x y:Ent}(hx:qcv L (qaa (bl s))=some x)(hy:qcv L (qaa (bl s2))=some y)(hl:y.leaf=false)(cH:inB (bl s2) (bl s)=false)(hz:qcv L (qaa (bl s2)++[qbv (qaa (bl s))])=none)(I:SInv ⟨Ws,st,[]⟩)(bW:st<=900000000)
  (HE:qx3 L (qaa (bl s)) (qaa (bl s2)++[qbv (qaa (bl s))])=false->Ents (L.map (mvE (qaa (bl s)) (qaa (bl s2)++[qbv (qaa (bl s))])))/\Bors (L.map (mvE (qaa (bl s)) (qaa (bl s2)++[qbv (qaa (bl s))])))/\SInv ⟨Ws.map (mvW (qaa (bl s)) (qaa (bl s2)++[qbv (qaa (bl s))])),st,[]⟩) :
  Cl 73 #[vP br,.string s,.string s2] w fun e w'=>(qx3 L (qaa (bl s)) (qaa (bl s2)++[qbv (qaa (bl s))])=true/\e=.returned (.tuple #[v0_,vI 8])/\Bw w w')\/(qx3 L (qaa (bl s)) (qaa (bl s2)++[qbv (qaa (bl s))])=false/\MovG br g (Value.slice ao Ws.length cW).ownBlock L (L.map (mvE (qaa (bl s)) (qaa (bl s2)++[qbv (qaa (bl s))]))) Ws (Ws.map (mvW (qaa (bl s)) (qaa (bl s2)++[qbv (qaa (bl s))]))) cnt st w e w'):=by
 have bR:=h.qii;have cr:=h.ref.qjv;have kE:(qaa (bl s2)).length<=4:=by
  have:=E.ok y (List.mem_of_find?_eq_some hy)
  have e:y.key=qaa (bl s2):=by have:=List.find?_some hy;simpa using this
  rw[<-e];exact this.2
 have nQ:(qaa (bl s)).length<=4:=by
  have:=E.ok x (List.mem_of_find?_eq_some hx)
  have e:x.key=qaa (bl s):=by have:=List.find?_some hx;simpa using this
  rw[<-e];exact this.2
 obtain⟨n,hn⟩:∃n,L.length=n:=⟨_,rfl⟩;rw[hn]at cr;obtain⟨M,hM⟩:∃M,(qaa (bl s)).length=M+1:=by
  refine⟨(qaa (bl s)).length-1,?_⟩
  have:qaa (bl s)≠[]:=fun e=>by
   have h0:bl s=[]:=by rw[<-qa6 (bl s),e];rfl
   unfold errF at hF;rw[hv,if_neg (by simp),if_pos h0]at hF
   cases hF
  have:=List.length_pos_iff.2 this
  omega
 have cQ:=fun W=>qyw s hs hv M hM W
 have da:=fun W=>qyo s2 cv dg W
 have ag:=fun W (hW:Bw w W)=>qxv (h.below hW).ref E aH s hs hF hx
 have bh:=qyz h E aH s2 dg hy hn;rw[hl]at bh;have fC:=fun W=>qk9 s2 s W cv hs
 rw[cH]at fC;have cu:=fun W a2 c2 gb=>qz6 (l:=qaa (bl s2)) kE (qbv (qaa (bl s))) W a2 c2 gb
 have gX:=fun W a3 c3=>qze (l:=qaa (bl s2)) kE (by rw[<-qba];exact dg) (qbv (qaa (bl s))) (qy6 (by rw[<-qba];exact hv) hM) W a3 c3
 have mC:qbn (qaa (bl s2)++[qbv (qaa (bl s))])=true:=qzu (by rw[<-qba];exact dg) (qy6 (by rw[<-qba];exact hv) hM);have bT:=fun W (hW:Bw w W)=>qgx (h.below hW).ref E aH (sb (joinB (qaa (bl s2)++[qbv (qaa (bl s))]))) _ mC (qbi _) hz
 obtain⟨zS,wX⟩:∃z,z=sb (joinB (qaa (bl s2)++[qbv (qaa (bl s))])):=⟨_,rfl⟩;rw[<-wX]at gX bT;obtain⟨m2,ir⟩:∃m,(qaa (bl s2)).length=m:=⟨_,rfl⟩;rw[ir]at da cu gX kE;obtain⟨nS,jg⟩:∃z,z=sb (qbv (qaa (bl s))):=⟨_,rfl⟩;rw[<-jg]at cQ cu;have xT:M<=3:=by omega
 have IB:((M:Int)+1)-1=M:=by omega
 have oo:=fun W (hW:Bw w W)=>qya (h.below hW) E.len E.pos I.wks.wks.len
 have sD:qaa (bl s)≠[]:=fun e=>by rw[e]at hM;simp at hM
 have F6:qbn (qaa (bl s))=true:=by rw[<-qba];exact hv
 have DP:bl s=joinB (qaa (bl s)):=(qa6 _).symm;have Gz:bl zS=joinB (qaa (bl s2)++[qbv (qaa (bl s))]):=by rw[wX,qbi]
 have Du:(qaa (bl s2)++[qbv (qaa (bl s))]).length<=5:=by rw[List.length_append,ir];simp;omega
 have rb:qaa (bl s2)++[qbv (qaa (bl s))]≠[]:=by simp
 generalize qaa (bl s2)++[qbv (qaa (bl s))]=K' at *;generalize qaa (bl s)=K at *;have uK:=fun {k:List Bs} (hk:qbn k=true) (hl:k.length<=4) (W:World)=>q2p DP hs F6 hk hl W
 have uU:=fun {k:List Bs} (hk:qbn k=true) (hl:k.length<=4) (hp:K.isPrefixOf k=true) (W:World)=>q2q DP Gz sD rb mC Du hk hl hp W
 have zd:=fun {k:List Bs} (hk:qbn k=true) (hl:k.length<=4) (W:World)=>q2r (K:=K) mC Du hk hl W
 have cP:=E.len;have jm:=I.wks.wks.len;have nP:=qy1 h.wrow;obtain⟨m,hm⟩:∃m,Ws.length=m:=⟨_,rfl⟩
 simp only at jm
 rw[hm]at jm nP;rw[hn]at cP;have HN:Hid (L.length=n/\Ws.length=m):=⟨hn,hm⟩;have HP:Hid (0<n):=by show 0<n;rw[<-hn];exact E.pos
 clear hF hv dg hx hy hl hn cH hz hM nQ wX ir jg aH hm DP Gz sD rb mC F6
 go_enter func73,ntmps73
 go_upto_region 16 with (first
  |(go_at_call 113;refine(cQ _).mono ?_;clear cQ;rintro e w1 ⟨⟨gg,cp,rfl,eP,fr,ct,wH⟩,aa⟩)
  |(go_at_call 113;refine(da _).mono ?_;rintro e w2 ⟨⟨a2,c2,rfl,rv,ry,fg,dG⟩,af⟩;have aw:=qac aa af;have rN:=(af.cell (p:=vA gg M) ct).trans wH)
  |(go_at_call 117;refine(ag _ aw).mono ?_;rintro e w3 ⟨⟨i,rfl,hi⟩,ax⟩;have aK:=qac aw ax;clear hi;have yT:=(ax.cell (p:=vA gg M) (xrg ct af.size)).trans rN)
  |(go_at_call 114;refine(bh _ aK).mono ?_;rintro e w4 ⟨⟨j,rfl,np,rK,wF,AL⟩,fQ⟩;subst fQ;have gD:=qab (T:=fun _=>False) fg (Keep.new ax) (fun _ _ h=>h);have wC:gg<w4.heap.size:=xrg ct (Nat.le_trans af.size ax.size))
  |(go_at_call 121;refine(fC _).mono ?_;rintro e w5 ⟨rfl,lJ⟩;subst lJ;have Bd:=aK.size))
 clear da ag bh fC
 go_wp2_with (first
  |(at_builtin;refine qah (by rfl) _ _ _ _ rfl _ _ rfl (by rfl) (cu _ _ _ _ rv ry (qab (T:=fun _=>False) gD (Keep.new (by exact bel2)) (fun _ _ h=>h)) (by exact blk2)) ?_;rintro v6 w6 ⟨a6,c6,rfl,R6⟩;have j7:Bw w w6:=qv6 (sl:=.slice a2 m2 c2) (by exact bel2) R6.keep (fun b hb=>Nat.le_trans aa.size (dG b hb)))
  |(go_at_call 122;refine(gX _ _ _ R6.own).mono ?_;rintro e w7 ⟨rfl,Eb⟩;subst Eb)
  |(go_at_call 114;refine(bT _ j7).mono ?_;rintro e w8 ⟨rfl,Ec⟩;subst Ec)
  |(go_at_call 119;refine(oo _ j7).mono ?_;rintro e w9 ⟨bu,g2,eD,jG,jH,rfl,mf,AG,m1,G7,m3⟩))
 have sB:Bw w w9:=qac j7 AG;have Kc:=j7.size;have m1:w.heap.size<=bu:=by omega
 have G7:w.heap.size<=g2:=by omega
 have m3:∀b,(Value.slice jG Ws.length jH).ownBlock=some b->w.heap.size<=b:=fun b hb=>by have:=m3 b hb;omega
 have wj:=h.below sB;clear cu gX bT oo R6 j7 AG Kc gD wH rN yT fg dG aa af ax aw aK np rK wF AL rv ry eP fr ct wC;have sR:g<w9.heap.size:=(wj.ref.row.lt g rfl).2;have cn:br<w9.heap.size:=wj.qii
 go_loopw [19,20] (fun l i wr=>∃(k:Nat) (a:Option Addr) (c:Nat),k<=n/\i=vI k/\l=.slice a k c/\k<=c/\c<=maxLen/\Bw w9 wr/\wr.ownsRow 0 163 6 (.slice a k c) k (qdi ((L.take k).map (mvE K K')))/\(∀b,(Value.slice a k c).ownBlock=some b->w9.heap.size<=b)/\(∀e∈L.take k,(mvK K K' e.key).length<=4)) (fun _ i _=>n-(intOf i).toNat)
 case atStart=>exact⟨0,none,0,Nat.zero_le _,rfl,rfl,Nat.le_refl _,Nat.zero_le _,Below.refl _ _,xrk _ _ _ _,(fun b hb=>by simp[Value.ownBlock]at hb),fun e he=>by simp at he⟩
 case round =>
  obtain⟨k,a,c,hk,rfl,rfl,FY,jd,qU,au,bQ,qz⟩:=hrel;have hG:=wj.below qU;have c0:wr.cell? (vA br 0)=some (vS g n cap):=by have:=hG.ref.at_.cell 0;rw[HN.out.1]at this;simpa using this
  have rq:br<wr.heap.size:=hG.qii;have De:g<wr.heap.size:=(hG.ref.row.lt g rfl).2
  by_cases ak:k<n
  ·obtain⟨y,hy⟩:∃y,L[k]?=some y:=⟨_,xr1 (by rw[HN.out.1];exact ak)⟩;have eU:=xr2 hy;obtain⟨kK,lX⟩:=E.ok y eU;have uM:=uK kK lX;have mI:=uU kK lX;have uX:=zd kK lX;have q0:=hG.ref.ent hy (j:=0) rfl;have q1:=hG.ref.ent hy (j:=1) rfl;have q2:=hG.ref.ent hy (j:=2) rfl;have q3:=hG.ref.ent hy (j:=3) rfl;have q4:=hG.ref.ent hy (j:=4) rfl;have q5:=hG.ref.ent hy (j:=5) rfl;simp only[Nat.add_zero]at q0;have ku:Hid (qdi ((L.take (k+1)).map (mvE K K'))=qdi ((L.take k).map (mvE K K'))++(qbs (mvE K K' y)).toArray.toList):=by
    show _=_
    rw[step_take _ _ _ _ hy,q0z]
   have Bn:Hid (4<(mvK K K' y.key).length->qx3 L K K'=true):=fun hd=>by
    show qx3 L K K'=true
    unfold qx3;rw[xs0];exact⟨y,eU,decide_eq_true hd⟩
   have Bm:Hid ((mvK K K' y.key).length<=4->∀e∈L.take (k+1),(mvK K K' e.key).length<=4):=fun hd e he=>by
    have aV:=(xr0.1 hy).1;rw[xrf aV]at he
    rcases xri.1 he with e1|e1
    ·exact qz e e1
    ·simp at e1;rw[xr1 aV]at hy;cases hy;rw[e1];exact hd
   have ml:=fun (W:World) (gb:Nat)=>q1p qvo qz8 (by omega) (by omega) W a k c gb (qdi ((L.take k).map (mvE K K'))) (qbs (mvE K K' y)).toArray rfl (q2o _) (by omega) FY jd
   have xL:(qbs (mvE K K' y)).toArray=#[.string (sb (joinB (mvK K K' y.key))),.bool y.leaf,vI y.n0,vI y.n1,vI y.b0,vI y.b1]:=rfl;rw[xL]at ml ku;obtain⟨KL,Cs⟩:∃q,q=(mvK K K' y.key).length:=⟨_,rfl⟩;rw[<-Cs]at Bn Bm uX;have I9:KL<=100:=by rw[Cs];have:=q1f K K' y.key;omega
   have eZ:K.isPrefixOf y.key=false->mvK K K' y.key=y.key:=fun e=>by unfold mvK;rw[e];rfl
   generalize mvK K K' y.key=ky at *;have nr:(k:Int)<n:=by omega
   have f_:(0:Int)<=k:=by omega
   generalize qdi ((L.take k).map (mvE K K'))=xs at *;clear qz hy eU kK lX hG Cs xL
   go_upto_region 27 with fail
   all_goals
    have gV:Bw wr (wr.alloc (.cells #[.string (sb (joinB y.key)),.bool y.leaf,vI y.n0,vI y.n1,vI y.b0,vI y.b1] 163)):=by exact bel2
    have im:Blk (wr.alloc (.cells #[.string (sb (joinB y.key)),.bool y.leaf,vI y.n0,vI y.n1,vI y.b0,vI y.b1] 163)) wr.heap.size 163 #[.string (sb (joinB y.key)),.bool y.leaf,vI y.n0,vI y.n1,vI y.b0,vI y.b1]:=Blk.new wr 163 _;have iA:Bw w9 (wr.alloc (.cells #[.string (sb (joinB y.key)),.bool y.leaf,vI y.n0,vI y.n1,vI y.b0,vI y.b1] 163)):=qU.trans (gV.mono qU.size);have pW:=qab (T:=fun _=>False) au (Keep.new gV) (fun _ _ h=>h);have gz:w9.heap.size<=wr.heap.size:=qU.size;have rF:(Value.slice a k c).ownBlock≠some wr.heap.size:=fun e=>by have:=qal au e;omega
    generalize wr.alloc (.cells #[.string (sb (joinB y.key)),.bool y.leaf,vI y.n0,vI y.n1,vI y.b0,vI y.b1] 163)=WA at im iA pW ⊢;generalize wr.heap.size=bq at im gz rF ⊢;clear gV q0 q1 q2 q3 q4 q5 c0 au qU rq De;have b0:=im.cell 0;have bf:=im.frozen 0;have BM:=im.lt;simp only[xq0,xq1,xq2]at b0
    go_wp2_with fail
    refine(uM _).mono ?_
    rintro e w2 ⟨rfl,en⟩
    subst en
    cases ny:K.isPrefixOf y.key
    ·have wG:=eZ ny;rw[ny]at *;have ef:Blk w2 bq 163 #[.string (sb (joinB ky)),.bool y.leaf,vI y.n0,vI y.n1,vI y.b0,vI y.b1]:=by rw[wG];exact im
     have eW:=iA;have iU:=pW;rw[<-wG]at b0;clear im iA pW b0 mI eZ wG ny;have b0:=ef.cell 0;have kO:=ef.cell 1;have nC:=ef.cell 2;have nD:=ef.cell 3;have nE:=ef.cell 4;have qQ:=ef.cell 5;simp only[xq0,xq1,xq2]at b0 kO nC nD nE qQ
     go_wp2_with fail
     refine(uX _).mono ?_
     rintro e w3 ⟨⟨a3,c3,rfl,CJ,CK⟩,ax⟩
     have jK:Bw w9 w3:=eW.trans (ax.mono eW.size);have kv:=ef.below ax ef.lt;have vl:=qab (T:=fun _=>False) iU (Keep.new ax) (fun _ _ h=>h);clear b0 kO nC nD nE qQ ef eW iU;have b0:=kv.cell 0;have kO:=kv.cell 1;have nC:=kv.cell 2;have nD:=kv.cell 3;have nE:=kv.cell 4;have qQ:=kv.cell 5;have BL:=kv.lt;simp only[xq0,xq1,xq2]at b0 kO nC nD nE qQ
     by_cases rE:4<KL
     ·have ux:(KL:Int)>4:=by omega
      have HT:Hid (qx3 L K K'=true):=Bn.out rE
      go_wp2_with fail
      exact xrn (v:=.tuple #[v0_,vI 8]) (by simp[results,results73,go_sem]) rfl (.inl ⟨HT.out,rfl,sB.trans (jK.mono sB.size)⟩)
     ·have ux:¬((KL:Int)>4):=by omega
      go_wp2_with (at_builtin;refine qah (by rfl) _ _ _ _ rfl _ _ rfl (by rfl) (ml _ _ (qab (T:=fun _=>False) vl (Keep.new (by exact bel2)) (fun _ _ h=>h)) (by exact blk2)) ?_;rintro v4 vY ⟨a4,c4,rfl,R4⟩;have mc:Bw w9 vY:=qv6 (sl:=.slice a k c) (jK.trans ((by exact bel2:Bw w3 _).mono jK.size)) R4.keep bQ)
      go_round
      case rel=>exact⟨k+1,a4,c4,by omega,by go_num,rfl,R4.le,R4.mx,mc,by rw[ku.out];exact R4.own,fun b hb=>by
       rcases R4.new b hb with e|e
       ·exact bQ b e
       ·have h1:=jK.size;simp at e;omega,Bm.out (by omega)⟩
      case measure=>simp[intOf];omega
    ·have l9:=mI ny;clear eZ mI
     go_wp2_with fail
     refine(l9 _).mono ?_
     rintro e w3 ⟨rfl,ig⟩
     subst ig;have ef:Blk (w3.setCell (vA bq 0) (.string (sb (joinB ky)))) bq 163 #[.string (sb (joinB ky)),.bool y.leaf,vI y.n0,vI y.n1,vI y.b0,vI y.b1]:=by simpa using im.set 0 (.string (sb (joinB ky)))
     have eW:Bw w9 (w3.setCell (vA bq 0) (.string (sb (joinB ky)))):=iA.setCell (p:=vA bq 0) gz _;have iU:(w3.setCell (vA bq 0) (.string (sb (joinB ky)))).ownsRow 0 163 6 (.slice a k c) k xs:=xrl pW rF _
     go_upto_region 30 with fail
     generalize w3.setCell (vA bq 0) (.string (sb (joinB ky)))=BE at ef eW iU ⊢;clear im iA pW b0 bf BM l9 ny;have b0:=ef.cell 0;have kO:=ef.cell 1;have nC:=ef.cell 2;have nD:=ef.cell 3;have nE:=ef.cell 4;have qQ:=ef.cell 5;simp only[xq0,xq1,xq2]at b0 kO nC nD nE qQ
     go_wp2_with fail
     refine(uX _).mono ?_
     rintro e w3 ⟨⟨a3,c3,rfl,CJ,CK⟩,ax⟩
     have jK:Bw w9 w3:=eW.trans (ax.mono eW.size);have kv:=ef.below ax ef.lt;have vl:=qab (T:=fun _=>False) iU (Keep.new ax) (fun _ _ h=>h);clear b0 kO nC nD nE qQ ef eW iU;have b0:=kv.cell 0;have kO:=kv.cell 1;have nC:=kv.cell 2;have nD:=kv.cell 3;have nE:=kv.cell 4;have qQ:=kv.cell 5;have BL:=kv.lt;simp only[xq0,xq1,xq2]at b0 kO nC nD nE qQ
     by_cases rE:4<KL
     ·have ux:(KL:Int)>4:=by omega
      have HT:Hid (qx3 L K K'=true):=Bn.out rE
      go_wp2_with fail
      exact xrn (v:=.tuple #[v0_,vI 8]) (by simp[results,results73,go_sem]) rfl (.inl ⟨HT.out,rfl,sB.trans (jK.mono sB.size)⟩)
     ·have ux:¬((KL:Int)>4):=by omega
      go_wp2_with (at_builtin;refine qah (by rfl) _ _ _ _ rfl _ _ rfl (by rfl) (ml _ _ (qab (T:=fun _=>False) vl (Keep.new (by exact bel2)) (fun _ _ h=>h)) (by exact blk2)) ?_;rintro v4 vY ⟨a4,c4,rfl,R4⟩;have mc:Bw w9 vY:=qv6 (sl:=.slice a k c) (jK.trans ((by exact bel2:Bw w3 _).mono jK.size)) R4.keep bQ)
      go_round
      case rel=>exact⟨k+1,a4,c4,by omega,by go_num,rfl,R4.le,R4.mx,mc,by rw[ku.out];exact R4.own,fun b hb=>by
       rcases R4.new b hb with e|e
       ·exact bQ b e
       ·have h1:=jK.size;simp at e;omega,Bm.out (by omega)⟩
      case measure=>simp[intOf];omega
  ·have je:k=n:=by omega
   subst je;have AD:L.take k=L:=xrd (by have:=HN.out.1;omega);rw[AD]at au qz;have rE:qx3 L K K'=false:=by
    unfold qx3;rw[List.any_eq_false];intro e he
    have:=qz e he
    simp;omega
   obtain⟨E2,tu,I2⟩:=HE rE;obtain⟨g3,q3,AZ,_,_⟩:=qat au HP.out;injection AZ with e1 _ e3;subst e1 e3;have Db:w9.heap.size<=g3:=bQ g3 rfl;have Jm:g3<wr.heap.size:=qal au rfl;obtain⟨mX,Ea⟩:∃mX,mX=wr:=⟨_,rfl⟩;subst Ea;have HK:Hid (GRef w9 br g cap L ao cW Ws cnt st/\GRef w9 bu g2 eD L jG jH Ws cnt st/\mX.ownsRow 0 163 6 (vS g3 k c) k (qdi (L.map (mvE K K')))/\Ents (L.map (mvE K K'))/\Bors (L.map (mvE K K'))/\SInv ⟨Ws.map (mvW K K'),st,[]⟩/\SInv ⟨Ws,st,[]⟩):=⟨wj,mf,au,E2,tu,I2,I⟩;have GR:=I.wks.wks.ok;have xN:=wj.below qU;have GS:Hid (qx3 L K K'=false):=rE;clear rE E2 tu I2 AD qz au bQ zd HE hG wj mf E I h FY jd ak hk
   go_wp2_with fail
   clear c0
   go_loopw [25,26] (fun l i w2=>∃(j:Nat) (a:Option Addr) (c:Nat),j<=m/\i=vI j/\l=.slice a j c/\j<=c/\c<=maxLen/\Bw mX w2/\w2.ownsRow 0 178 5 (.slice a j c) j (qad ((Ws.take j).map (mvW K K')))/\(∀b,(Value.slice a j c).ownBlock=some b->mX.heap.size<=b)) (fun _ i _=>m-(intOf i).toNat)
   case atStart=>exact⟨0,none,0,Nat.zero_le _,rfl,rfl,Nat.le_refl _,Nat.zero_le _,Below.refl _ _,xrk _ _ _ _,(fun b hb=>by simp[Value.ownBlock]at hb)⟩
   case round =>
    obtain⟨j,a2,c2,hj,rfl,rfl,Jw,J0,tM,fg,dG⟩:=hrel;have hG:=xN.below tM;have c1:wr.cell? (vA br 1)=some (.slice ao m cW):=by have:=hG.ref.at_.cell 1;rw[HN.out.2]at this;simpa using this
    have yl:br<wr.heap.size:=hG.qii
    by_cases ak:j<m
    ·obtain⟨y,hy⟩:∃y,Ws[j]?=some y:=⟨_,xr1 (by rw[HN.out.2];exact ak)⟩;have eU:=xr2 hy;obtain⟨kK,lX⟩:=GR y eU;have uM:=uK kK lX;have mI:=uU kK lX;obtain⟨b,eT,dw,eQ,jq,p0,p1,p2,p3,p4⟩:=hG.wk hy;rw[HN.out.2]at eQ;rw[eT]at c1;have ku:Hid (qad ((Ws.take (j+1)).map (mvW K K'))=qad ((Ws.take j).map (mvW K K'))++(qbf (mvW K K' y)).toArray.toList):=by
      show _=_
      rw[step_take _ _ _ _ hy,q2i]
     have ml:=fun (W:World) (gb:Nat)=>q1p un70 qr3 (by omega) (by omega) W a2 j c2 gb (qad ((Ws.take j).map (mvW K K'))) (qbf (mvW K K' y)).toArray rfl (q25 _) (by omega) Jw J0
     have xL:(qbf (mvW K K' y)).toArray=#[vI y.num,.string (sb (joinB (mvK K K' y.key))),vI y.d0,vI y.d1,vI y.st]:=rfl;rw[xL]at ml ku;have eZ:K.isPrefixOf y.key=false->mvK K K' y.key=y.key:=fun e=>by unfold mvK;rw[e];rfl
     generalize mvK K K' y.key=ky at *;have nr:(j:Int)<m:=by omega
     have f_:(0:Int)<=j:=by omega
     generalize qad ((Ws.take j).map (mvW K K'))=xs at *;clear hy eU kK lX hG xL eT
     go_upto_region 39 with fail
     have gV:Bw wr (wr.alloc (.cells #[vI y.num,.string (sb (joinB y.key)),vI y.d0,vI y.d1,vI y.st] 178)):=by exact bel2
     have im:Blk (wr.alloc (.cells #[vI y.num,.string (sb (joinB y.key)),vI y.d0,vI y.d1,vI y.st] 178)) wr.heap.size 178 #[vI y.num,.string (sb (joinB y.key)),vI y.d0,vI y.d1,vI y.st]:=Blk.new wr 178 _;have iA:Bw mX (wr.alloc (.cells #[vI y.num,.string (sb (joinB y.key)),vI y.d0,vI y.d1,vI y.st] 178)):=tM.trans (gV.mono tM.size);have pW:=qab (T:=fun _=>False) fg (Keep.new gV) (fun _ _ h=>h);have gz:mX.heap.size<=wr.heap.size:=tM.size;have rF:(Value.slice a2 j c2).ownBlock≠some wr.heap.size:=fun e=>by have:=qal fg e;omega
     generalize wr.alloc (.cells #[vI y.num,.string (sb (joinB y.key)),vI y.d0,vI y.d1,vI y.st] 178)=WA at im iA pW ⊢;generalize wr.heap.size=bq at im gz rF ⊢;clear gV p0 p1 p2 p3 p4 c1 fg tM yl dw;have kO:=im.cell 1;have bf:=im.frozen 1;have BM:=im.lt;simp only[xq0,xq1,xq2]at kO
     go_wp2_with fail
     refine(uM _).mono ?_
     rintro e w2 ⟨rfl,en⟩
     subst en
     cases ny:K.isPrefixOf y.key
     ·have wG:=eZ ny;rw[ny]at *;have ef:Blk w2 bq 178 #[vI y.num,.string (sb (joinB ky)),vI y.d0,vI y.d1,vI y.st]:=by rw[wG];exact im
      have eW:=iA;have iU:=pW;clear im iA pW kO mI eZ wG ny;have b0:=ef.cell 0;have kO:=ef.cell 1;have nC:=ef.cell 2;have nD:=ef.cell 3;have nE:=ef.cell 4;have BL:=ef.lt;simp only[xq0,xq1,xq2]at b0 kO nC nD nE
      go_wp2_with (at_builtin;refine qah (by rfl) _ _ _ _ rfl _ _ rfl (by rfl) (ml _ _ (qab (T:=fun _=>False) iU (Keep.new (by exact bel2)) (fun _ _ h=>h)) (by exact blk2)) ?_;rintro v4 vY ⟨a4,c4,rfl,R4⟩;have mc:Bw mX vY:=qv6 (sl:=.slice a2 j c2) (eW.trans ((by exact bel2:Bw w2 _).mono eW.size)) R4.keep dG)
      go_round
      case rel=>exact⟨j+1,a4,c4,by omega,by go_num,rfl,R4.le,R4.mx,mc,by rw[ku.out];exact R4.own,fun b hb=>by
       rcases R4.new b hb with e|e
       ·exact dG b e
       ·have h1:=eW.size;simp at e;omega⟩
      case measure=>simp[intOf];omega
     ·have l9:=mI ny;clear eZ mI
      go_wp2_with fail
      refine(l9 _).mono ?_
      rintro e w3 ⟨rfl,ig⟩
      subst ig;have ef:Blk (w3.setCell (vA bq 1) (.string (sb (joinB ky)))) bq 178 #[vI y.num,.string (sb (joinB ky)),vI y.d0,vI y.d1,vI y.st]:=by simpa using im.set 1 (.string (sb (joinB ky)))
      have eW:Bw mX (w3.setCell (vA bq 1) (.string (sb (joinB ky)))):=iA.setCell (p:=vA bq 1) gz _;have iU:(w3.setCell (vA bq 1) (.string (sb (joinB ky)))).ownsRow 0 178 5 (.slice a2 j c2) j xs:=xrl pW rF _
      go_upto_region 42 with fail
      generalize w3.setCell (vA bq 1) (.string (sb (joinB ky)))=BE at ef eW iU ⊢;clear im iA pW kO bf BM l9 ny;have b0:=ef.cell 0;have kO:=ef.cell 1;have nC:=ef.cell 2;have nD:=ef.cell 3;have nE:=ef.cell 4;have BL:=ef.lt;simp only[xq0,xq1,xq2]at b0 kO nC nD nE
      go_wp2_with (at_builtin;refine qah (by rfl) _ _ _ _ rfl _ _ rfl (by rfl) (ml _ _ (qab (T:=fun _=>False) iU (Keep.new (by exact bel2)) (fun _ _ h=>h)) (by exact blk2)) ?_;rintro v4 vY ⟨a4,c4,rfl,R4⟩;have mc:Bw mX vY:=qv6 (sl:=.slice a2 j c2) (eW.trans ((by exact bel2:Bw BE _).mono eW.size)) R4.keep dG)
      go_round
      case rel=>exact⟨j+1,a4,c4,by omega,by go_num,rfl,R4.le,R4.mx,mc,by rw[ku.out];exact R4.own,fun b hb=>by
       rcases R4.new b hb with e|e
       ·exact dG b e
       ·have h1:=eW.size;simp at e;omega⟩
      case measure=>simp[intOf];omega
    ·have gX:j=m:=by omega
     subst gX;have AD:Ws.take j=Ws:=xrd (by have:=HN.out.2;omega);rw[AD]at fg;obtain⟨k1,k2,k3,k4,k5,k6,k7⟩:=HK.out;have kC:Bw w9 wr:=qU.trans (tM.mono qU.size);have Ga:(L.map (mvE K K')).length=k:=by rw[List.length_map];exact HN.out.1
     have AN:(Ws.map (mvW K K')).length=j:=by rw[List.length_map];exact HN.out.2
     have tj:=qab (T:=fun _=>False) k3 (Keep.new tM) (fun _ _ h=>h);have JY:=qU.size;have Nc:=sB.size;have uy:Cl 120 #[vP br,vP bu] ((wr.setCell (vA br 0) (vS g3 k c)).setCell (vA br 1) (.slice a2 j c2)) fun e w'=>∃sl er,e=.returned (.tuple #[sl,vI er])/\Hid (MovG br g (Value.slice ao Ws.length cW).ownBlock L (L.map (mvE K K')) Ws (Ws.map (mvW K K')) cnt st w (.returned (.tuple #[sl,vI er])) w'):=by
      obtain⟨j8,fS⟩:=k1.putB (L':=L.map (mvE K K')) (Ws':=Ws.map (mvW K K')) kC (g2:=g3) (q2:=c) (by rw[Ga];exact tj) Db (a2:=a2) (c2:=c2) (by rw[AN];exact fg) (fun b hb=>by rw[AN]at hb;have:=dG b hb;exact⟨by omega,by omega⟩);rw[Ga,AN]at j8 fS;have jL:=k2.q1y fS (by omega) (by omega) (fun b hb=>by have:=m3 b hb;omega);have ou:Keep (fun b=>b=br\/b=g\/(Value.slice ao Ws.length cW).ownBlock=some b) w ((wr.setCell (vA br 0) (vS g3 k c)).setCell (vA br 1) (.slice a2 j c2)):=(Keep.new sB).step fS (fun y _ e=>.inl e)
      exact(qy2 j8 k4 k5 k6 bW jL (by omega) (by omega) (fun b hb=>by have:=m3 b hb;omega)).mono fun e w' hp=>by
       rcases hp with ⟨p1,p2,p3,p4⟩|⟨p1,sl,a3,c3,p2,p3⟩
       ·exact⟨_,_,p2,.inl ⟨p1,rfl,⟨⟨g2,eD,jG,jH,p3,.inr G7,fun b hb=>⟨fun ak=>by have:=m3 b hb;omega,by simp[Value.ownBlock]⟩⟩,ou.step p4 (fun y _ e=>.inl e),xrk _ _ _ _,fun b hb=>by simp[Value.ownBlock]at hb⟩⟩⟩
       ·exact⟨_,_,p2,.inr ⟨p1,sl,rfl,qdw.qn3 ou p3 (fun b hb ak=>by rw[AN]at hb;have:=dG b hb;omega) (.inr (by omega))⟩⟩
     have bh:=hG.ref.at_;rw[HN.out.1,HN.out.2]at bh;have f0:=bh.frozen 0;have f1:=bh.frozen 1;have c0:=bh.cell 0;simp only[xq0,xq1,xq2]at c0;clear HK k1 k2 k3 tj k4 k5 k6 k7 bh hG xN uK uU fg kC
     go_wp2_with (go_at_call 120;refine uy.mono ?_;rintro e Oo ⟨sl,er,rfl,HQ⟩)
     exact xrn (v:=.tuple #[sl,vI er]) (by simp[results,results73,go_sem]) rfl (.inr ⟨GS.out,HQ.out⟩)
end
end Go.Proofs.YtphclnolomgjoaaGreatDoor
