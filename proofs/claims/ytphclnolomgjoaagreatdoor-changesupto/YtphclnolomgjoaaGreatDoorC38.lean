import Derived.Test.YtphclnolomgjoaaGreatDoorC35
import Derived.Test.YtphclnolomgjoaaGreatDoorC37
import Derived.Test.YtphclnolomgjoaaGreatDoorCards
import Derived.Test.YtphclnolomgjoaaGreatDoorTie
import Derived.ProofKit
import Derived.OpenShut
import Derived.Deep.Slices
import Derived.Deep.DeepHandedRow
import Derived.Carry
import Derived.Lay
set_option linter.unusedVariables false
set_option linter.unusedSimpArgs false
set_option maxRecDepth 100000
set_option maxHeartbeats 4000000
namespace Go.Proofs.YtphclnolomgjoaaGreatDoor
open Go.Proofs.Tryz
section
open Go.RowKit
variable {nodes:List Node}{er:Int}
theorem qzs(T:Tree nodes)(s s2:Bs):q02 (nodes.map Node.ent) s s2=errMov nodes s s2:=by
 unfold q02 errMov errF errP
 cases h1:qar s
 ·simp[h1]
 cases h2:qar s2
 ·simp[h1,h2]
 by_cases h3:s=[]
 ·subst h3;simp[h1,h2]
 rw[qft,qft]
 cases h4:findKey nodes (qaa s) with
 |none=>simp[h1,h2,h3]
 |some q =>
  cases h5:findKey nodes (qaa s2) with
  |none=>simp[h1,h2,h3]
  |some tq =>
   obtain⟨hq,fc⟩:=qbw h4;obtain⟨ht,kJ⟩:=qbw h5;have wQ:=(T.ok q hq).1;have qb:=(T.ok tq ht).1;have e1:inB s2 s=q.key.isPrefixOf tq.key:=by
    rw[show s2=joinB tq.key by rw[kJ,qa6],show s=joinB q.key by rw[fc,qa6],Bool.eq_iff_iff,qqv qb wQ,xrw]
   have e2:((nodes.map Node.ent).any fun e=>decide (4<(mvK q.key (tq.key++[qbv q.key]) e.key).length))=qzb nodes q tq:=by
    unfold qzb;rw[List.any_map,List.all_filter,List.not_all_eq_any_not,Bool.eq_iff_iff,xs0,xs0]
    refine exists_congr fun n=>and_congr_right fun hn=>?_
    have hl:=(T.ok n hn).2;simp only[Function.comp,okD]
    show decide (4<(mvK q.key (tq.key++[qbv q.key]) n.key).length)=true↔_
    by_cases c:q.key <+: n.key
    ·have c2:=c.length_le;rw[qxn c,xrw.2 c]
     simp
     omega
    ·rw[qxg c,Bool.eq_false_iff.2 (fun e=>c (xrw.1 e))]
     simp
     omega
   rw[<-fc,<- kJ,e1,qft,e2]
   have:tq.ent.leaf=tq.leaf:=rfl
   simp[h1,h2,h3,this]
theorem q01{L:List Ent}{s:Bs}(h:errF L s=0):qar s=true/\s≠[]/\∃x,qcv L (qaa s)=some x:=by
 unfold errF at h
 by_cases h1:qar s=false
 ·rw[if_pos h1]at h;cases h
 ·rw[if_neg h1]at h
  by_cases h2:s=[]
  ·rw[if_pos h2]at h;cases h
  ·rw[if_neg h2]at h
   cases h3:qcv L (qaa s) with
   |none=>rw[h3]at h;cases h
   |some x=>exact⟨by simpa using h1,h2,x,rfl⟩
section
variable {w:World}{br g cap:Nat}{L:List Ent}{ao:Option Addr}{cW:Nat}{Ws:List Wk}{cnt st:Int}
theorem q1h(h:GRef w br g cap L ao cW Ws cnt st)(E:Ents L)(aH:∀a∈L,∀b∈L,a.key=b.key->a=b)(I:SInv ⟨Ws,st,[]⟩)(bW:st<=900000000)(s s2:ByteArray)(hs:s.size<=2000000)(cv:s2.size<=2000000)(he:q02 L (bl s) (bl s2)=er)(h0:er≠0):
  Cl 73 #[vP br,.string s,.string s2] w fun e w'=>e=.returned (.tuple #[v0_,vI er])/\Bw w w':=by
 unfold q02 at he
 by_cases c1:(qar (bl s)&&qar (bl s2))=false
 ·rw[if_pos c1]at he;subst he;exact q13 s s2 hs cv c1
 rw[if_neg c1]at he;have wg:(qar (bl s)&&qar (bl s2))=true:=by simpa using c1
 obtain⟨hv,dg⟩:qar (bl s)=true/\qar (bl s2)=true:=by simpa using wg
 by_cases c2:errF L (bl s)=0
 ·rw[if_neg (by simpa using c2)]at he;obtain⟨_,_,x,hx⟩:=q01 c2
  cases hy:qcv L (qaa (bl s2)) with
  |none=>rw[hy]at he;simp only at he;subst he;exact q16 h E aH s s2 hs cv hv dg c2 hx hy
  |some y =>
   rw[hy]at he
   simp only at he
   by_cases c3:y.leaf=true
   ·rw[if_pos c3]at he;subst he;exact q18 h E aH s s2 hs cv hv dg c2 hx hy c3
   rw[if_neg c3]at he
   by_cases c4:inB (bl s2) (bl s)=true
   ·rw[if_pos c4]at he;subst he;exact q1g h E aH s s2 hs cv hv dg c2 hx hy (by simpa using c3) c4
   rw[if_neg c4]at he
   cases hz:qcv L (qaa (bl s2)++[qbv (qaa (bl s))]) with
   |some z =>
    rw[hz]at he;simp only[Option.isSome_some,if_true]at he;subst he
    exact q17 h E aH s s2 hs cv hv dg c2 hx hy (by simpa using c3) (by simpa using c4) hz
   |none =>
    rw[hz]at he;simp only[Option.isSome_none,Bool.false_eq_true,if_false]at he
    by_cases c5:(L.any fun e=>decide (4<(mvK (qaa (bl s)) (qaa (bl s2)++[qbv (qaa (bl s))]) e.key).length))=true
    ·rw[if_pos c5]at he;subst he;have c5:qx3 L (qaa (bl s)) (qaa (bl s2)++[qbv (qaa (bl s))])=true:=c5
     refine(qzh h E aH s s2 hs cv hv dg c2 hx hy (by simpa using c3) (by simpa using c4) hz I bW (fun e=>by rw[c5]at e;cases e)).mono ?_
     rintro e w' (⟨_,h1,h2⟩|⟨h1,_⟩)
     ·exact⟨h1,h2⟩
     ·rw[c5]at h1;cases h1
    ·rw[if_neg c5]at he;exact absurd he.symm h0
 ·rw[if_pos c2]at he
  exact q19 h E aH s s2 hs cv wg he h0
end
section
variable {n₀ : Nat}{τ : Nat->Tag}{W:World}{bw:Nat}{ay:List Tw}{K t:Nat}{x:Tw}
theorem q0k(hK:K<=2000000)(h:St n₀ τ W bw ay (200*K))(hA:∀y∈ay,qbj K y)(hx:ay[t]?=some x)(s s2:ByteArray)(hs:s.size<=2000000)(cv:s2.size<=2000000):
  qsb n₀ τ W bw ay.length K 30 #[vP x.bt,.string s,.string s2] 73 #[vP x.br,.string s,.string s2] mkk2:=by
 have A:=hA x (xr2 hx);have bW:x.st<=900000000:=by have:=A.stK;omega
 have T:=A.com.tree;have hp:=fun τ1 W1 (hP:qb6 τ1 t W1 x.bt x.nodes x.last x.vw x.va x.ws x.as_)=>q3c hP A s s2 hs cv
 have jT:q02 x.L (bl s) (bl s2)=errMov x.nodes (bl s) (bl s2):=by rw[A.L];exact qzs T _ _
 by_cases he:errMov x.nodes (bl s) (bl s2)=0
 ·obtain⟨hv,cZ,q,tq,hf,uE,h1,h2,h3,h4⟩:=qyk he;obtain⟨hq,fc⟩:=qbw hf;obtain⟨ht,kJ⟩:=qbw uE;have pV:q.key≠[]:=by rw[fc];intro e;exact cZ (qxp e)
  obtain⟨p,ks,i,kt,at_,M⟩:=Mv.of T hq ht pV h1 h2 h3 h4;have I':=M.sinv A.com.wkl A.inv;have dg:qar (bl s2)=true:=by rw[qba,<- kJ];exact(T.ok tq ht).1
  have hF:errF x.L (bl s)=0:=by unfold errF;rw[A.L,qft,hf];simp[hv,cZ]
  have nR:qcv x.L (qaa (bl s))=some q.ent:=by rw[A.L,qft,hf];rfl
  have C_:qcv x.L (qaa (bl s2))=some tq.ent:=by rw[A.L,qft,uE];rfl
  have vQ:qcv x.L (qaa (bl s2)++[qbv (qaa (bl s))])=none:=by rw[A.L,qft,<- fc,<- kJ,h3];rfl
  have Dj:inB (bl s2) (bl s)=false:=by
   rw[show bl s2=joinB tq.key by rw[kJ,qa6],show bl s=joinB q.key by rw[fc,qa6],q2j (T.ok tq ht).1 (T.ok q hq).1];exact h2
  have FQ:x.L.map (mvE q.key (tq.key++[qbv q.key]))=(x.nodes.map (gM q p tq (qbv q.key) i v0_ at_ v0_)).map Node.ent:=by rw[M.ents,A.L]
  have T':=M.tree v0_ v0_;have rE:qx3 x.L q.key (tq.key++[qbv q.key])=false:=by
   unfold qx3;rw[List.any_eq_false];intro e po
   have:=T'.ents.ok (mvE q.key (tq.key++[qbv q.key]) e) (by rw[<-FQ];exact xrj po)
   have:=this.2
   simp only[mvE]at this
   simp;omega
  have HE:qx3 x.L q.key (tq.key++[qbv q.key])=false->Ents (x.L.map (mvE q.key (tq.key++[qbv q.key])))/\Bors (x.L.map (mvE q.key (tq.key++[qbv q.key])))/\SInv ⟨x.Ws.map (mvW q.key (tq.key++[qbv q.key])),x.st,[]⟩:=fun _=>by
   rw[FQ];exact⟨T'.ents,T'.bors,I'⟩
  have hr:=fun W1 (hR:GRef W1 x.br x.g x.cap x.L x.ao x.cW x.Ws x.cnt x.st)=>qzh hR A.ents A.einj s s2 hs cv hv dg hF nR C_ h1 Dj vQ A.inv bW (by rw[<-fc,<- kJ];exact HE)
  rw[<-fc,<- kJ,rE]at hr;have ho:movOut x (bl s) (bl s2)=if qxf (x.L.map (mvE q.key (tq.key++[qbv q.key]))) (x.Ws.map (mvW q.key (tq.key++[qbv q.key])))=true then x.same 11 else qiu (x.L.map (mvE q.key (tq.key++[qbv q.key]))) x.cnt (qaj (x.L.map (mvE q.key (tq.key++[qbv q.key]))) ⟨x.Ws.map (mvW q.key (tq.key++[qbv q.key])),x.st,[]⟩):=by
   unfold movOut brkE;simp only[hf,uE];rw[if_neg (by simpa using he)]
   cases qxf (x.L.map (mvE q.key (tq.key++[qbv q.key]))) (x.Ws.map (mvW q.key (tq.key++[qbv q.key])))<;>simp
  rw[ho]at hp;generalize x.L.map (mvE q.key (tq.key++[qbv q.key]))=L' at *;generalize x.Ws.map (mvW q.key (tq.key++[qbv q.key]))=Ws' at *
  cases eJ:qxf L' Ws'
  ·rw[eJ]at hp;simp only[Bool.false_eq_true,if_false]at hp;obtain⟨l1,l2,l3⟩:=qfk A L' I' (cnt:=x.cnt) (by have:=A.cntK;omega)
   refine qd0 hK h hA hx (o:=qiu L' x.cnt (qaj L' ⟨Ws',x.st,[]⟩)) l1 l2 l3 mkk2 0 hp (fun W1 hR=>(hr W1 hR).mono fun e w' hM=>?_)
   rcases hM with ⟨h1,_⟩|⟨_,⟨h1,_⟩|⟨_,sl,h1,h2⟩⟩
   ·cases h1
   ·rw[eJ]at h1;cases h1
   ·exact⟨sl,h1,h2⟩
  ·rw[eJ]at hp;simp only[if_true]at hp;obtain⟨l1,l2,l3⟩:=qkk A 11
   refine qd0 hK h hA hx (o:=x.same 11) l1 l2 l3 mkk2 0 hp (fun W1 hR=>(hr W1 hR).mono fun e w' hM=>?_)
   rcases hM with ⟨h1,_⟩|⟨_,⟨_,h1,h2⟩|⟨h1,_⟩⟩
   ·cases h1
   ·exact⟨_,h1,h2⟩
   ·rw[eJ]at h1;cases h1
 ·rw[qzg he]at hp;have hr:=fun W1 (hR:GRef W1 x.br x.g x.cap x.L x.ao x.cW x.Ws x.cnt x.st)=>q1h hR A.ents A.einj A.inv bW s s2 hs cv jT he
  generalize errMov x.nodes (bl s) (bl s2)=err at *;obtain⟨l1,l2,l3⟩:=qkk A err
  exact qd0 hK h hA hx (o:=x.same err) l1 l2 l3 mkk2 0 hp (fun W1 hR=>(hr W1 hR).mono fun e w' hM=>⟨_,hM.1,qfx hR hM.2 err⟩)
end
end
section
open Go.ChangeShapes Go.WideShapes Go.ChangeAt Go.RowKit
variable {P:Program}{fuel:Nat}{cs:List Value}{v:Value}
theorem qmp{H:Type}(d:DataW H):1<=Rows.uptoBulk d:=by
 cases d with
 |lit l=>cases l<;>simp[Rows.uptoBulk]
 |nil=>simp[Rows.uptoBulk]
 |ptr d=>simp[Rows.uptoBulk]
 |slice elems lN=>simp[Rows.uptoBulk]
 |agg parts=>simp[Rows.uptoBulk]
 |iface t d=>simp[Rows.uptoBulk]
 |map entries=>simp[Rows.uptoBulk]
 |held h=>simp[Rows.uptoBulk]
theorem qhx{H:Type}{d:DataW H}{l:List (DataW H)}(h:d∈l):Rows.uptoBulk d<=Rows.uptoBulkAll l:=by
 induction l with
 |nil=>cases h
 |cons x r ih =>
  simp only[Rows.uptoBulkAll]
  cases List.mem_cons.1 h with
  |inl e=>subst e;omega
  |inr e=>have:=ih e;omega
theorem qmr{H:Type}(l:List (DataW H)):l.length<=Rows.uptoBulkAll l:=by
 induction l with
 |nil=>simp[Rows.uptoBulkAll]
 |cons x r ih=>have:=qmp x;simp only[Rows.uptoBulkAll,List.length_cons];omega
theorem qkc:prog.cellsOf 87=9:=by kernel_rfl
theorem qfp:prog.cellsOf 35=2:=by kernel_rfl
theorem qh8:prog.cellsOf 3=1:=by kernel_rfl
theorem qq7:prog.cellsOf 9=1:=by kernel_rfl
section
variable {H:Type}{enc:TypeId×Value->H}{w:World}{base:Nat}{lN:Nat->Bool}{held:Bool}
theorem qn6(vX:P.underlying 35=some (.array 2 3))(u3:P.underlying 3=some (.int .i64))(qfp:P.cellsOf 35=2)(qh8:P.cellsOf 3=1){x:DataW H×List MemPlace}(h:DataW.trod enc P w base lN held fuel 35 cs=some x):∃a b:Int,cs=[vI a,vI b]:=by
 obtain⟨xs,m,rfl,rfl,hl,hx,hf⟩:=DataW.trod_array vX h;rw[qfp]at hl
 match cs,hl,xs,hx with
 | [v0,v1],_,[y0,y1],_ =>
  have g0:=hf 0 (by omega);have g1:=hf 1 (by omega)
  simp[qh8]at g0 g1
  obtain⟨a,e0,_⟩:=DataW.trod_int u3 g0;obtain⟨b,e1,_⟩:=DataW.trod_int u3 g1
  simp at e0 e1
  exact⟨a,b,by rw[e0,e1]⟩
theorem qvi{fs:Array Field}(Ly:P.underlying 87=some (.struct fs))(sP:(fs.map fun f=>(f.type,f.offset))=#[(3,0),(3,1),(9,2),(9,3),(35,4),(35,6),(3,8)])(vX:P.underlying 35=some (.array 2 3))(u3:P.underlying 3=some (.int .i64))(u9:P.underlying 9=some .string)(qkc:P.cellsOf 87=9)(qfp:P.cellsOf 35=2)(qh8:P.cellsOf 3=1)(qq7:P.cellsOf 9=1){x:DataW H×List MemPlace}(h:DataW.trod enc P w base lN held fuel 87 cs=some x):
  ∃o:OpC,cs=o.cells.toList/\(o.s.size<=Rows.uptoBulk x.1/\o.s2.size<=Rows.uptoBulk x.1 /\ -9223372036854775808<=o.nm/\o.nm<=9223372036854775807) /\ -9223372036854775808<=o.t/\o.t<=9223372036854775807:=by
 obtain⟨xs,k,rfl,rfl,hl,hx,hf⟩:=DataW.trod_struct Ly h;rw[qkc]at hl;have dk:fs.size=7:=by have:=congrArg Array.size sP;simpa using this
 rw[dk]at hx;have q9:∀(i:Nat) (t g_:Nat),(#[(3,0),(3,1),(9,2),(9,3),(35,4),(35,6),(3,8)]:Array (Nat×Nat))[i]?=some (t,g_)->DataW.trod enc P w base lN held k t ((cs.drop g_).take (P.cellsOf t))=xs[i]?:=fun i t g_ hi=>by
  rw[<-sP,Array.getElem?_map]at hi;obtain⟨f,h1,h2⟩:=Option.map_eq_some_iff.1 hi;simp only[Prod.mk.injEq]at h2;rw[<-h2.1,<- h2.2]
  exact hf i f h1
 match cs,hl,xs,hx with
 | [v0,v1,v2,v3,v4,v5,v6,v7,v8],_,[y0,y1,y2,y3,y4,y5,y6],_ =>
  have g0:=q9 0 _ _ rfl;have g1:=q9 1 _ _ rfl;have g2:=q9 2 _ _ rfl;have g3:=q9 3 _ _ rfl;have g4:=q9 4 _ _ rfl;have g5:=q9 5 _ _ rfl;have g6:=q9 6 _ _ rfl
  simp[qh8,qq7,qfp]at g0 g1 g2 g3 g4 g5 g6
  obtain⟨k0,e0,_⟩:=DataW.trod_int u3 g0;obtain⟨t0,e1,_,wt⟩:=DataW.trod_int u3 g1;obtain⟨s,e2,es,_⟩:=DataW.trod_string u9 g2;obtain⟨s2,e3,Fm,_⟩:=DataW.trod_string u9 g3;obtain⟨a0,a1,e4⟩:=qn6 vX u3 qfp qh8 g4;obtain⟨c0,c1,e5⟩:=qn6 vX u3 qfp qh8 g5;obtain⟨nm,e6,_,wn⟩:=DataW.trod_int u3 g6
  simp at e0 e1 e2 e3 e4 e5 e6
  obtain⟨rfl,rfl⟩:=e4;obtain⟨rfl,rfl⟩:=e5;subst e0 e1 e2 e3 e6
  refine⟨⟨k0,t0,s,s2,a0,a1,c0,c1,nm⟩,rfl,?_,?_⟩
  ·have h1:Rows.uptoBulk y2.1<=Rows.uptoBulkAll ([y0,y1,y2,y3,y4,y5,y6].map (·.1)):=qhx (by simp);have k1:Rows.uptoBulk y3.1<=Rows.uptoBulkAll ([y0,y1,y2,y3,y4,y5,y6].map (·.1)):=qhx (by simp);subst es Fm;have h2:∀q:ByteArray,Rows.uptoBulk (DataW.lit (H:=H) (.string q.data.toList))=q.data.toList.length+1:=fun q=>by simp only[Rows.uptoBulk]
   rw[h2,Array.length_toList]at h1 k1;have h3:s.size=s.data.size:=rfl;have k3:s2.size=s2.data.size:=rfl;have h4:∀l:List (DataW H),Rows.uptoBulk (.agg l)=Rows.uptoBulkAll l+1:=fun l=>by simp only[Rows.uptoBulk]
   rw[h4];simp only[Lit.wf,Bool.and_eq_true,decide_eq_true_eq]at wn;rw[show IntKind.i64.min = -9223372036854775808 by decide,show IntKind.i64.max=9223372036854775807 by decide]at wn
   refine⟨?_,?_,wn.1,wn.2⟩
   ·show s.size<=_
    omega
   ·show s2.size<=_
    omega
  ·simp only[Lit.wf,Bool.and_eq_true,decide_eq_true_eq]at wt;rw[show IntKind.i64.min = -9223372036854775808 by decide,show IntKind.i64.max=9223372036854775807 by decide]at wt
   exact wt
theorem qm1{d:DataW H}{ps:List MemPlace}(h:DataW.trod enc prog w 0 lN held fuel 22 v.cells.toList=some (d,ps))(hv:v.cells.toList=[v]):
  ∃ao len cap O,v=.slice ao len cap/\len<=cap/\cap<=maxLen/\qfd w ao len O/\len<=Rows.uptoBulk d/\∀i,i<len->((O i).s.size<=Rows.uptoBulk d/\(O i).s2.size<=Rows.uptoBulk d /\ -9223372036854775808<=(O i).nm/\(O i).nm<=9223372036854775807) /\ -9223372036854775808<=(O i).t/\(O i).t<=9223372036854775807:=by
 rw[hv]at h
 rcases Deep.open_slice underlying22 h with ⟨hc,hx⟩|⟨a,len,cap,m,n,D,Pl,hc,_,hl,hm,D0,hx,yu⟩
 ·simp at hc hx
  exact⟨none,0,0,fun _=>⟨0,0,⟨#[]⟩,⟨#[]⟩,0,0,0,0,0⟩,hc,Nat.le_refl _,Nat.zero_le _,fun i hi=>by omega,Nat.zero_le _,fun i hi=>by omega⟩
 ·simp only[Prod.mk.injEq]at hx;have hd:=hx.1;have MT:len<=m:=by rw[D0];split<;>omega
  have:Inhabited OpC:=⟨⟨0,0,⟨#[]⟩,⟨#[]⟩,0,0,0,0,0⟩⟩
  obtain⟨O,hO⟩:=Deep.choose_lt (α := OpC) (n:=len) (p:=fun i o=>(∀j v,o.cells[j]?=some v->w.cell? (a.add (i*9+j))=some v)/\(o.s.size<=Rows.uptoBulk (D i)/\o.s2.size<=Rows.uptoBulk (D i) /\ -9223372036854775808<=o.nm/\o.nm<=9223372036854775807) /\ -9223372036854775808<=o.t/\o.t<=9223372036854775807) (fun i hi=>by
   obtain⟨Mp,h1,h2⟩:=yu i (by omega);rw[qkc]at h1;obtain⟨_,an,bZ⟩:=World.cells?_some h1;obtain⟨o,rfl,o1,o2⟩:=qvi underlying87 (by kernel_rfl) underlying35 underlying3 underlying9 qkc qfp qh8 qq7 h2
   refine⟨o,fun j u hu=>?_,o1,o2⟩
   have hj:j<9:=by
    rcases Nat.lt_or_ge j 9 with h|h
    ·exact h
    ·rw[Array.getElem?_eq_none (by simp[OpC.cells];omega)]at hu;cases hu
   have:=bZ j hj
   rw[Deep.add_add]at this;rw[this];simpa using hu)
  refine⟨some a,len,cap,O,by simpa using hc,hl,hm,fun i hi=>?_,?_,fun i hi=>⟨?_,(hO i hi).2.2⟩⟩
  ·have h0:=(hO 0 (by omega)).1 0 _ rfl;have jh:=World.cell?_spot h0;have ee:a.block<w.heap.size:=by
    rcases Nat.lt_or_ge a.block w.heap.size with h|h
    ·exact h
    ·rw[World.cell?]at h0;simp[Addr.add,Array.getElem?_eq_none h]at h0
   obtain⟨b,g_,sp⟩:=a
   simp[Addr.add]at jh
   subst jh;have hh:=fun j v hj=>(hO i hi).1 j v hj
   simp only[Addr.add_lit]at hh
   refine⟨b,g_,rfl,ee,?_,?_,?_,?_,?_,?_,?_,?_,?_⟩
   ·exact hh 0 _ rfl
   ·exact hh 1 _ rfl
   ·exact hh 2 _ rfl
   ·exact hh 3 _ rfl
   ·exact hh 4 _ rfl
   ·exact hh 5 _ rfl
   ·exact hh 6 _ rfl
   ·exact hh 7 _ rfl
   ·exact hh 8 _ rfl
  ·rw[hd];have h1:=qmr ((List.range len).map D);simp only[Rows.uptoBulk]
   simp at h1
   omega
  ·obtain⟨h1,MB,Ir⟩:=(hO i hi).2.1;have h2:Rows.uptoBulk (D i)<=Rows.uptoBulkAll ((List.range len).map D):=qhx (xrq.2 ⟨i,List.mem_range.2 hi,rfl⟩);rw[hd];simp only[Rows.uptoBulk]
   exact⟨by omega,by omega,Ir⟩
end
def qkn (f:Nat):Prop:=∀(W:World) (ao:Option Addr) (len cap:Nat) (O:Nat->OpC),len<=cap->cap<=maxLen->qfd W ao len O->len<=1048576->(∀i,i<len->((O i).s.size<=1048576/\(O i).s2.size<=1048576 /\ -9223372036854775808<=(O i).nm/\(O i).nm<=9223372036854775807) /\ -9223372036854775808<=(O i).t/\(O i).t<=9223372036854775807) ->
 Cl f #[.slice ao len cap] W fun e w'=>e=.returned (.bool true)/\Bw W w'
theorem own:ownKnob prog.godebug=none:=by kernel_rfl
theorem laidOut:laidOutB prog=true:=by kernel_rfl
theorem qgf{H:Type}{enc:TypeId×Value->H}{C:Checked}{os:Os}{f:FuncId}{fn:Func}{s:OpenSpec}{sq:List PathCond}{apart:Bool}{zU:List (String×DataW Unit)}(w0:World)(args:Array Value)(JD:w0.os=os)
  (fO:(w0.forCall (fun _ _=>0) ⟨#[],args,[]⟩).Shaped C.prog)
  (ec:Input.okWideB C.prog (w0.forCall (fun _ _=>0) ⟨#[],args,[]⟩) f ⟨#[],args,[]⟩=true)
  (au:s.preRow enc C.prog fn sq apart zU (w0.forCall (fun _ _=>0) ⟨#[],args,[]⟩).memory args) :
  ∃(w:World) (tape:Tape) (i:Input),w.os=os/\(w.forCall tape i).Shaped C.prog/\i.vars=[]/\Input.okWide C.prog (w.forCall tape i) .any w.heap.size f i /\
   s.preRow enc C.prog fn sq apart zU (w.forCall tape i).memory i.args/\({}:Assume).holds C.prog (lone (Frame.enter C.prog f i.args .normal) [] (w.forCall tape i)) :=
 ⟨w0,fun _ _=>0,⟨#[],args,[]⟩,JD,fO,(Input.okWide_of_okWideB (base:=0) ec).1,(Input.okWide_of_okWideB ec).2,au,by
  simp only[Assume.holds]
  simp⟩
theorem qyj(mS:qkn 5)(H:Type)(enc:TypeId×Value->H)(W:World)(base:Nat)(args:Array Value)(ds gs:List (DataW H))(before:List MemPlace)
  (aJ:∀(j:Nat) t v,f5.params[j]?=some t->args[j]?=some v->Value.okWide prog W .any base t v)
  (hW:DataW.Whole enc prog f5.params.toList Rows.changesSpec.vars false W args.toList ds gs before) (hk:Rows.uptoSmall H (ds++gs)=true) :
  Cl 5 args W fun e W'=>∃v,e=.returned v/\Rows.changesSpec.post enc prog f5 false true false false W args v W':=by
 have bI:=hW;obtain⟨p,q,tK,hV,rfl,FU,df⟩:=hW;have hA:DataW.TrodAll enc prog W 0 (fun _=>true) true f5.params.toList args.toList ds p:=tK;rw[params5]at hA aJ;obtain⟨v0,On,d0,Ms,p0,q0,FN,rfl,rfl,h0,r0⟩:=trodAll_cons hA;obtain⟨rfl,rfl,rfl⟩:=trodAll_nil r0;obtain rfl:args=#[v0]:=by cases args;simp_all
 obtain⟨rfl,rfl⟩:=trodVars_none hV;have hb:Rows.uptoBulk d0<=1048576:=by
  have:=of_decide_eq_true hk
  simp only[List.append_nil,Rows.uptoBulkAll]at this
  omega
 obtain⟨fuel,hf⟩:=id h0;have dv:v0.cells.toList=[v0]:=by
  have hc:=aJ 0 22 v0 rfl rfl;obtain⟨a,l,c,e⟩:=okWide_slice underlying22 hc;rw[e];rfl
 obtain⟨ao,len,cap,O,rfl,hl,hm,hS,an,hO⟩:=qm1 hf dv
 refine(mS W ao len cap O hl hm hS (by omega) (fun i hi=>⟨⟨Nat.le_trans (hO i hi).1.1 hb,Nat.le_trans (hO i hi).1.2.1 hb,(hO i hi).1.2.2⟩,(hO i hi).2⟩)).mono fun e W' ⟨he,ae⟩=>?_
 subst he;have ak:∀x∈p0,x.block<W.heap.size:=fun x hx=>bI.lt x (by simpa using hx)
 exact⟨_,rfl,_,_,_,[],p0,[],bI,trodAll_cons_mk (shut_bool underlying4 _) trodAll_mk0,by
  have:=trodAll_cons_mk (Below.trod laidOut (by kernel_rfl) (of_decide_eq_true (by kernel_rfl)) h0 ae ak) trodAll_mk0
  rw[List.append_nil]at this
  exact this,rfl,ae.frame _,fun h=>by cases h⟩
theorem qyl(os:Os):laidMetH prog Rows.changesUptoRow.laid ((World.laidAll prog os Rows.changesUptoRow.laid).forCall (fun _ _=>0) ⟨#[],#[v0_],[]⟩).memory:=by
 rw[MakeChecks.laidMetH_plain _ _ _ (by kernel_rfl)]
 exact laidMet_laidAll _ (by kernel_rfl) (by kernel_rfl)
theorem qzn(os:Os){H:Type}(enc:TypeId×Value->H):∃qi,DataW.whole enc prog ((World.laidAll prog os Rows.changesUptoRow.laid).forCall (fun _ _=>0) ⟨#[],#[v0_],[]⟩).memory f5.params.toList Rows.changesSpec.vars false #[v0_].toList 8=some ([.nil],[],qi) :=
 ⟨[],by kernel_rfl⟩
theorem qyb(mS:qkn 5)(os:Os)(km:os.Started)(H:Type)(enc:TypeId×Value->H)(F:Stop.Interp):
  ReturnsInHanded {} checked os 5 .any ((Rows.OpenSpec.upto Rows.changesSpec).preRow enc prog f5 Rows.changesUptoRow.domain false Rows.changesUptoRow.laid) (((Rows.OpenSpec.upto Rows.changesSpec).at F).post enc prog f5 false true false false):=by
 obtain⟨qi,hx⟩:=qzn os enc
 refine returnsInHanded_of_row (C:=checked) (s:=Rows.OpenSpec.upto Rows.changesSpec) own km (by kernel_rfl) func5
  (qgf (enc:=enc) (C:=checked) (World.laidAll prog os Rows.changesUptoRow.laid) #[v0_] (World.laidAll_os _ _ _) (World.shaped_of_ZipB (by kernel_rfl) (by kernel_rfl)) (by kernel_rfl)
   (OpenSpec.preRow_of_cond 8 hx (by kernel_rfl) (fun k hk=>by cases hk;kernel_rfl) (by kernel_rfl) (qyl os))) ?_
 intro W base args ds gs before aJ hW _ yp _ hL _ _
 exact qyj mS H enc W base args ds gs before aJ hW (yp _ rfl)
theorem qyr(mS:qkn 5):Rows.ChangesUptoSaid :=
 OpenClaim.holds_of_cond 5 f5 rfl rfl rfl rfl rfl rfl rfl ⟨rfl,rfl,rfl,rfl,rfl⟩ rfl rfl rfl rfl rfl (by kernel_rfl) func5 (by kernel_rfl)
  (of_decide_eq_true (by kernel_rfl)) (by unfold Func.isWrapper;first|(rw[if_pos (by decide +kernel)];kernel_rfl)|(rw[if_neg (by decide +kernel)];exact⟨rfl,rfl⟩))
  (fun os km H enc _ F=>by rw[OpenClaim.pre_eq_preRow];exact qyb mS os km H enc F)
theorem qzj (f : FuncId) (fn : Func) (hf : Tryz.pinned.checked.prog.funcNamed "borrow/borrowlaw.Changes" = some f) (Jj : Tryz.pinned.checked.prog.funcs[f]? = some fn) :
  false=Tryz.pinned.checked.prog.looks []/\∀(j:Nat) t,fn.params[j]?=some t->Tryz.pinned.checked.prog.wantsStandIn t=false:=by
 obtain rfl : f = 5 := Option.some.inj ((show prog.funcNamed "borrow/borrowlaw.Changes" = some 5 by kernel_rfl).symm.trans hf) |>.symm;obtain rfl:fn=f5:=(Option.some.inj (func5.symm.trans Jj)).symm
 refine⟨by kernel_rfl,fun j t ht=>?_⟩
 rw[params5]at ht;obtain rfl:t=22:=by simpa using Array.mem_of_getElem? ht
 exact(show prog.wantsStandIn 22=false by kernel_rfl)
theorem qyi(mS:qkn 5):Rows.ChangesUptoCardSaid :=
 Claim7.holds_tied_plain_at .later [] _ _ _ _ (qyr mS) (fun _ h=>by cases h) (by kernel_rfl) (fun _ h=>by cases h) changesUpto_row_tie rfl ⟨rfl,rfl⟩ (by kernel_rfl) rfl qzj (by kernel_rfl)
end
section
open Go.RowKit
variable {W:World}{ao:Option Addr}{cap:Nat}
theorem q0t:qur 10:=by
 intro W0 w k hk h z T s s2 a0 a1 c0 c1 nm ho hs cv gw jb cQ da;obtain⟨τ,ay,h1,h2,h3,h4,h5⟩:=h;have qb:=fun z F1 F2 g hz hc=>(q1r (by omega) h1 h2 h3 (by omega) s s2 hs cv z T a0 a1 c0 c1 nm gw jb F1 F2 g hz hc).mono fun e w' hR=>At.next h1 h3 h4 h5 hR
 have hh:z<=0\/z=1\/z=2\/z=3\/z=4\/z=5\/z=6\/z=7\/z=8\/z=9\/z=10:=by omega
 rcases hh with hz|rfl|rfl|rfl|rfl|rfl|rfl|rfl|rfl|rfl|rfl
 ·exact(qp6 (by omega) h1 h2 h3 (by omega) s s2 hs cv z T a0 a1 c0 c1 nm gw jb (.inl hz)).mono fun e w' hR=>At.next h1 h3 h4 h5 hR
 ·exact(qn7 h1 h2 (by omega) s s2 T a0 a1 c0 c1 nm).mono fun e w' hR=>At.next h1 h3 h4 h5 hR.1
 ·exact qb 2 27 67 _ (.inl ⟨rfl,rfl,rfl,rfl⟩) (fun t x hx=>qky (by omega) h1 h2 hx s hs c0 c1)
 ·exact qb 3 26 69 _ (.inr (.inl ⟨rfl,rfl,rfl,rfl⟩)) (fun t x hx=>qqf (by omega) h1 h2 hx s hs a0 a1 c0 c1)
 ·exact(qps (by omega) h1 h2 h3 (by omega) s s2 hs cv T a0 a1 c0 c1 nm gw jb).mono fun e w' hR=>At.next h1 h3 h4 h5 hR
 ·exact(qmu (by omega) h1 h2 h3 (by omega) s s2 hs cv T a0 a1 c0 c1 nm gw jb).mono fun e w' hR=>At.next h1 h3 h4 h5 hR
 ·exact qb 6 28 71 _ (.inr (.inr (.inl ⟨rfl,rfl,rfl,rfl⟩))) (fun t x hx=>qmf (by omega) h1 h2 hx nm)
 ·exact(qr2 (by omega) h1 h2 h3 (by omega) s s2 hs cv T a0 a1 c0 c1 nm gw jb).mono fun e w' hR=>At.next h1 h3 h4 h5 hR
 ·exact qb 8 31 72 _ (.inr (.inr (.inr (.inl ⟨rfl,rfl,rfl,rfl⟩)))) (fun t x hx=>qzo (by omega) h1 h2 hx s hs)
 ·exact qb 9 30 73 _ (.inr (.inr (.inr (.inr (.inl ⟨rfl,rfl,rfl,rfl⟩))))) (fun t x hx=>q0k (by omega) h1 h2 hx s s2 hs cv)
 ·exact qb 10 29 74 _ (.inr (.inr (.inr (.inr (.inr ⟨rfl,rfl,rfl,rfl⟩))))) (fun t x hx=>qzz (by omega) h1 h2 hx s hs a0 a1 c0 c1)
theorem qzr{len:Nat}(hl:len<=cap)(hm:cap<=maxLen){O:Nat->OpC}(hS:qfd W ao len O)(an:len<=1048576)(hO:∀i,i<len->OpOK (O i)):
  Cl 5 #[.slice ao len cap] W fun e w'=>e=.returned (.bool true)/\Bw W w':=by
 have h4:=qqh 10 q0t (by omega) hl hm hS an hO;clear hS hO
 go_enter func5,ntmps5
 go_wp2_with (go_at_call 14;refine h4.mono ?_;rintro e w1 ⟨rfl,hb⟩)
 go_ret
 exact⟨rfl,hb⟩
theorem changesUptoCard:Rows.ChangesUptoCardSaid:=qyi fun _ _ _ _ _ hl hm hS an hO=>qzr hl hm hS an hO
#print axioms changesUptoCard
end
end Go.Proofs.YtphclnolomgjoaaGreatDoor
