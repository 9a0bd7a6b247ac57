import Derived.Test.YtphclnolomgjoaaGreatDoorC09
import Derived.Sort.LoopGhostIn
import Derived.LaidEqlPtr
set_option linter.unusedVariables false
set_option linter.unusedSimpArgs false
set_option maxRecDepth 100000
set_option maxHeartbeats 4000000
namespace Go.Proofs.YtphclnolomgjoaaGreatDoor
open Tryz
section
open Go.RowKit
variable {H b b' br bw c c' cW cap cap' g' i size:Nat}{Ws Ws':List Wk}{h x y:Wk}{k:List Bs}{L:List Ent}{GN cnt st:Int}{s s':SS}{T T':Nat->Prop}{W W' W1 w w':World}{o o0:Option Nat}{a2 ao:Option Addr}{bL bO cC cd cy sl:Value}{evs:List (Int×Int)}{τ τ':Nat->Tag}{es ns xs:List Value}{me ms:List Int}{e:TypeId}
theorem qui(k:List Bs):inB (joinB k) (joinB k)=true:=by simp[inB]
theorem qnw{α : Type}{l:List α}{x : α}(hi:l[i]?=some x):l=l.take i++x::l.drop (i+1):=by
 have ak:=(xr0.1 hi).1
 conv=>lhs;rw[<-List.take_append_drop i l]
 rw[List.drop_eq_getElem_cons ak];rw[xr1 ak]at hi;cases hi;rfl
theorem qge{α : Type}{l:List α}{x : α}(hi:l[i]?=some x)(y : α):l.set i y=l.take i++y::l.drop (i+1):=by
 have ak:=(xr0.1 hi).1
 exact List.set_eq_take_append_cons_drop .. |>.trans (by rw[if_pos ak])
theorem qdn{v:Wk}(hi:Ws[i]?=some v)(hv:0<v.st)(k:List Bs):qa0 (v.adm 0::(Ws.take i++Ws.drop (i+1))) k=if v.key=k then some (v.adm 0) else qa0 Ws k:=by
 have h1:=qnw hi;have hn:¬(v.st=0):=by omega
 unfold qa0
 by_cases hk:v.key=k
 ·rw[if_pos hk,List.find?_cons];simp[Wk.adm,hk]
 ·rw[if_neg hk,List.find?_cons];rw[show(((v.adm 0).st == 0)&&decide ((v.adm 0).key=k))=false from by simp[Wk.adm,hk]]
  simp only
  conv=>rhs;rw[h1]
  rw[List.find?_append,List.find?_append,List.find?_cons];rw[show((v.st == 0)&&decide (v.key=k))=false from by simp[hn]]
theorem qcy(hi:Ws[i]?=some x){t:Int}(ht:0<t)(hk:x.key≠k):qa0 (Ws.set i (x.adm t)) k=qa0 Ws k:=by
 unfold qa0;rw[qge hi]
 conv=>rhs;rw[qnw hi]
 rw[List.find?_append,List.find?_append,List.find?_cons,List.find?_cons];rw[show(((x.adm t).st == 0)&&decide ((x.adm t).key=k))=false from by simp[Wk.adm,hk]];rw[show((x.st == 0)&&decide (x.key=k))=false from by simp[hk]]
theorem qce{v:Wk}(hi:Ws[i]?=some v)(hv:0<v.st)(hn:inB (joinB v.key) (joinB h.key)=false):ownW L (v.adm 0::(Ws.take i++Ws.drop (i+1))) h=ownW L Ws h:=by
 have:=qmb hi hv (joinB h.key)
 rw[hn]at this;unfold ownW;rw[this.1,this.2]
 simp
theorem qd6{v:Wk}(hi:Ws[i]?=some v)(hv:0<v.st)(ho:qq0 L Ws v.key):ownW L (v.adm 0::(Ws.take i++Ws.drop (i+1))) (v.adm 0)=false:=by
 have:=qmb hi hv (joinB v.key)
 rw[qui]at this;simp only[if_true]at this;unfold ownW;rw[qsw]
 show(decide (ws0 _+v.d0<=_)&&decide (ws1 _+v.d1<=_))=false
 rw[<-this.1,<- this.2]
 rcases ho with ho|ho
 ·simp only[Bool.and_eq_false_iff,decide_eq_false_iff_not];left;omega
 ·simp only[Bool.and_eq_false_iff,decide_eq_false_iff_not];right;omega
theorem qdl(hi:Ws[i]?=some x)(hx:x.st=0){t:Int}(ht:0<t)(hn:inB (joinB x.key) (joinB h.key)=false):ownW L (Ws.set i (x.adm t)) h=ownW L Ws h:=by
 have:=qie hi hx ht (joinB h.key)
 rw[hn]at this;unfold ownW;rw[this.1,this.2]
 simp
theorem Anti.not(h:Anti Ws)(hx:x∈Ws)(hy:y∈Ws)(hn:x.key≠y.key):inB (joinB x.key) (joinB y.key)=false:=by
 cases hh:inB (joinB x.key) (joinB y.key)
 ·rfl
 ·exact absurd (h x hx y hy hh) hn
theorem Anti.keys(h:Anti Ws)(hs:∀y∈Ws',∃z∈Ws,z.key=y.key):Anti Ws':=by
 intro x hx y hy hh;obtain⟨a,ha,IK⟩:=hs x hx;obtain⟨b,hb,aZ⟩:=hs y hy;rw[<-IK,<- aZ]at hh ⊢
 exact h a ha b hb hh
theorem qpa{v:Wk}(hi:Ws[i]?=some v)(t:Int):∀y∈v.adm t::(Ws.take i++Ws.drop (i+1)),∃z∈Ws,z.key=y.key:=by
 intro y hy
 rcases List.mem_cons.1 hy with rfl|hy
 ·exact⟨v,xr2 hi,rfl⟩
 ·exact⟨y,(qbg hi).mem_iff.2 (xru _ hy),rfl⟩
theorem qjb{v:Wk}(hi:Ws[i]?=some v)(t:Int):∀y∈Ws.set i (v.adm t),∃z∈Ws,z.key=y.key:=by
 intro y hy
 rcases List.mem_or_eq_of_mem_set hy with hy|rfl
 ·exact⟨y,hy,rfl⟩
 ·exact⟨v,xr2 hi,rfl⟩
theorem qow(hA:Anti Ws){v:Wk}(hi:Ws[i]?=some v)(hv:0<v.st)(ho:qq0 L Ws v.key):mOwn L (v.adm 0::(Ws.take i++Ws.drop (i+1)))<=mOwn L Ws:=by
 have hp:=(qbg hi).countP_eq (fun x=>(x.st == 0)&&qd2 L Ws x.key);have vC:=xr2 hi;unfold mOwn;rw[<-List.countP_eq_length_filter,<- List.countP_eq_length_filter,hp,List.countP_cons,List.countP_cons];have h1:qd2 L (v.adm 0::(Ws.take i++Ws.drop (i+1))) (v.adm 0).key=false:=by
  unfold qd2;rw[qdn hi hv,qsw,if_pos rfl]
  exact qd6 hi hv ho
 rw[h1,Bool.and_false];have h2:¬(v.st=0):=by omega
 simp only[Bool.false_eq_true,if_false,Nat.add_zero]
 refine Nat.le_trans (List.countP_mono_left (fun y hy hh=>?_)) (Nat.le_add_right _ _)
 simp only[Bool.and_eq_true,beq_iff_eq]at hh ⊢
 refine⟨hh.1,?_⟩
 have h3:=hh.2;unfold qd2 at h3 ⊢;rw[qdn hi hv]at h3
 by_cases hk:v.key=y.key
 ·rw[if_pos hk]at h3
  simp only at h3
  rw[qd6 hi hv ho]at h3
  cases h3
 ·rw[if_neg hk]at h3
  cases hh:qa0 Ws y.key with
  |none=>rw[hh]at h3;exact h3
  |some z =>
   rw[hh]at h3;obtain⟨z1,_,z3⟩:=qak hh
   simp only at h3 ⊢
   rwa[qce hi hv (hA.not vC z1 (by rw[z3];exact hk))]at h3
theorem qpn(hA:Anti Ws)(hi:Ws[i]?=some x)(hx:x.st=0){t:Int}(ht:0<t)(hh:qa0 Ws x.key=some x)(ho:ownW L Ws x=true):mOwn L (Ws.set i (x.adm t))<mOwn L Ws:=by
 have hp:=(qbg hi).countP_eq (fun x=>(x.st == 0)&&qd2 L Ws x.key);have hq:(Ws.set i (x.adm t)).Perm (x.adm t::(Ws.take i++Ws.drop (i+1))):=by rw[qge hi];exact List.perm_middle
 have qF:=hq.countP_eq (fun y=>(y.st == 0)&&qd2 L (Ws.set i (x.adm t)) y.key);have cg:=xr2 hi;have mF:qd2 L Ws x.key=true:=by unfold qd2;rw[hh];exact ho
 unfold mOwn;rw[<-List.countP_eq_length_filter,<- List.countP_eq_length_filter,hp,qF,List.countP_cons,List.countP_cons];have h1:((x.adm t).st == 0)=false:=by simp[Wk.adm];omega
 rw[h1,mF,hx];simp only[Bool.false_and,Bool.false_eq_true,if_false,Nat.add_zero,beq_self_eq_true,Bool.and_self,if_true]
 refine Nat.lt_succ_of_le (List.countP_mono_left (fun y hy od=>?_))
 simp only[Bool.and_eq_true,beq_iff_eq]at od ⊢
 refine⟨od.1,?_⟩
 by_cases hk:x.key=y.key
 ·rw[<-hk];exact mF
 ·have h3:=od.2;unfold qd2 at h3 ⊢;rw[qcy hi ht hk]at h3
  cases hz:qa0 Ws y.key with
  |none=>rw[hz]at h3;exact h3
  |some z =>
   rw[hz]at h3;obtain⟨z1,_,z3⟩:=qak hz
   simp only at h3 ⊢
   rwa[qdl hi hx ht (hA.not cg z1 (by rw[z3];exact hk))]at h3
structure RInv (L:List Ent) (x:Wk) (st:Int) (Ws:List Wk):Prop where
 wks:WkS Ws st
 anti:Anti Ws
 head:qa0 Ws x.key=some x
 own:ownW L Ws x=true
theorem qgb{s s':MS}(h:roomStep L x s=some s'):∃(i:Nat) (v:Wk),qch L s.Ws x=some i/\qbm L s.Ws x=false/\s.Ws[i]?=some v/\v.st≠0/\way L s.Ws x v=true/\s'=⟨v.adm 0::(s.Ws.take i++s.Ws.drop (i+1)),s.evs++[(2,v.num)]⟩:=by
 unfold roomStep at h
 split at h
 ·cases h
 ·rename_i hf
  split at h
  ·cases h
  ·rename_i i hi
   obtain⟨v,hv,h0,hw⟩:=qa5 L s.Ws x _ i hi;rw[hv]at h;simp only[Option.some.injEq]at h
   exact⟨i,v,hi,by simpa using hf,hv,h0,hw,h.symm⟩
theorem RInv.step{s s':MS}(h:RInv L x st s.Ws)(he:roomStep L x s=some s'):RInv L x st s'.Ws/\mOwn L s'.Ws<=mOwn L s.Ws/\s'.evs.length+admN s'.Ws=s.evs.length+admN s.Ws/\s'.Ws.length=s.Ws.length:=by
 obtain⟨i,v,rW,hf,hv,h0,hw,rfl⟩:=qgb he;have bW:=(h.wks.st v (xr2 hv)).1;have n9:0<v.st:=by omega
 have ho:=qoh hw;obtain⟨x1,x2,_⟩:=qak h.head;have Gv:=h.wks.wks.num x x1;have hk:v.key≠x.key:=fun e=>qg7 ⟨Gv.1.1,Gv.2.1⟩ h.own (e ▸ ho)
 have ud:=qje hv n9;have hl:=(qbg hv).length_eq
 refine⟨⟨h.wks.qis hv,h.anti.keys (qpa hv 0),?_,?_⟩,qow h.anti hv n9 ho,?_,?_⟩
 ·rw[qdn hv n9,if_neg hk];exact h.head
 ·rw[qce hv n9 (h.anti.not (xr2 hv) x1 hk)];exact h.own
 ·simp at ud ⊢;omega
 ·simp at hl ⊢;omega
theorem RInv.room:∀(n:Nat) (s:MS),RInv L x st s.Ws->RInv L x st (room L x n s).Ws/\mOwn L (room L x n s).Ws<=mOwn L s.Ws/\(room L x n s).evs.length+admN (room L x n s).Ws=s.evs.length+admN s.Ws/\(room L x n s).Ws.length=s.Ws.length
 |0,s,h=>⟨h,Nat.le_refl _,rfl,rfl⟩
 |n+1,s,h=>by
  simp only[Proofs.YtphclnolomgjoaaGreatDoor.room]
  cases he:roomStep L x s with
  |none=>exact⟨h,Nat.le_refl _,rfl,rfl⟩
  |some s' =>
   obtain⟨h1,h2,h3,h4⟩:=h.step he;obtain⟨g1,g2,g3,g4⟩:=RInv.room n s' h1
   exact⟨g1,Nat.le_trans g2 h2,g3.trans h3,g4.trans h4⟩
theorem qqx{s s':MS}(h:roomStep L x s=some s')(n:Nat):room L x (n+1) s=room L x n s':=by simp only[room,h]
theorem room_end{s:MS}(h:roomStep L x s=none)(n:Nat):room L x n s=s:=by
 cases n with
 |zero=>rfl
 |succ n=>simp only[room,h]
theorem qfa(hn:(Ws.map (·.num)).Nodup)(hi:Ws[i]?=some x)(t:Int):qlh Ws x.num t=Ws.set i (x.adm t):=by
 apply List.ext_getElem?
 intro j;unfold qlh;rw[xrs,List.getElem?_set]
 by_cases hj:i=j
 ·subst hj;rw[if_pos rfl,if_pos (xr0.1 hi).1,hi]
  simp
 ·rw[if_neg hj]
  cases hy:Ws[j]? with
  |none=>rfl
  |some y =>
   have:y.num≠x.num:=fun e=>hj (qhj hn hi hy e.symm)
   simp[this]
structure SInv (s:SS):Prop where
 wks:WkS s.Ws s.st
 st0:0<=s.st
 anti:Anti s.Ws
theorem qha(h:ownStep L s=some s'):∃(b:Nat) (x:Wk),qlq L s.Ws=some b/\s.Ws[b]?=some x/\qd7 s.Ws b x=true/\ownW L s.Ws x=true/\s'=qcs L x s:=by
 unfold ownStep at h
 split at h
 ·cases h
 ·rename_i b hb
  obtain⟨x,hx,h1,h2⟩:=qfc hb;rw[hx]at h;simp only[Option.some.injEq]at h
  exact⟨b,x,hb,hx,h1,h2,h.symm⟩
theorem SInv.rinv(h:SInv s)(hx:s.Ws[b]?=some x)(h1:qd7 s.Ws b x=true)(h2:ownW L s.Ws x=true):RInv L x s.st s.Ws :=
 ⟨h.wks,h.anti,qcj (fun y hy=>(h.wks.st y hy).1) hx h1,h2⟩
theorem SInv.own(h:SInv s)(he:ownStep L s=some s'):SInv s'/\mOwn L s'.Ws<mOwn L s.Ws/\s'.st=s.st+1/\s'.Ws.length=s.Ws.length/\s'.evs.length<=s.evs.length+25:=by
 obtain⟨b,x,hb,hx,h1,h2,rfl⟩:=qha he;obtain⟨g1,g2,g3,g4⟩:=RInv.room (admN s.Ws) ⟨s.Ws,s.evs⟩ (h.rinv hx h1 h2);have mN:=h.st0;have dY:admN s.Ws<=24:=Nat.le_trans (xrh _ _) h.wks.wks.len;unfold qcs;obtain⟨m,hm⟩:∃m,m=Proofs.YtphclnolomgjoaaGreatDoor.room L x (admN s.Ws) ⟨s.Ws,s.evs⟩:=⟨_,rfl⟩;rw[<-hm]at g1 g2 g3 g4 ⊢;obtain⟨x1,x2,_⟩:=qak g1.head;obtain⟨i,hi⟩:=xre x1;rw[qfa g1.wks.nums hi]
 simp only at g2 g3 g4 ⊢
 refine⟨⟨g1.wks.admit mN hi x2,by show 0<=s.st+1;omega,g1.anti.keys (qjb hi _)⟩,xrg (qpn g1.anti hi x2 (by omega) g1.head g1.own) g2,trivial,by rw[List.length_set];exact g4,?_⟩
 simp;omega
theorem qks(L:List Ent)(Ws:List Wk)(l:List Nat)(i:Nat):qaw L Ws (l++[i])=qa3 L Ws (qaw L Ws l) i:=by
 unfold qaw;rw[List.foldl_append];rfl
theorem qe8(L:List Ent)(Ws:List Wk)(a:Option Nat×(Int×Int))(i:Nat):qa3 L Ws a i=a\/(qa3 L Ws a i).1=some i/\∃x,Ws[i]?=some x/\qbm L Ws x=true:=by
 unfold qa3
 cases hx:Ws[i]? with
 |none=>exact .inl rfl
 |some x =>
  simp only
  obtain⟨a1,a2⟩:=a
  cases a1 with
  |none =>
   simp only[if_true]
   cases ho:qbm L Ws x
   ·exact .inl rfl
   ·exact .inr ⟨rfl,x,rfl,ho⟩
  |some b =>
   simp only
   split
   ·rename_i ho
    split
    ·exact .inr ⟨rfl,x,rfl,ho⟩
    ·exact .inl rfl
   ·exact .inl rfl
theorem qjt(L:List Ent)(Ws:List Wk):∀(l:List Nat) (a:Option Nat×(Int×Int)) (b:Nat),(l.foldl (qa3 L Ws) a).1=some b->a.1=some b\/(b∈l/\∃x,Ws[b]?=some x/\qbm L Ws x=true)
 | [],a,b,h=>.inl h
 |i::l,a,b,h=>by
  rw[List.foldl_cons]at h
  rcases qjt L Ws l _ b h with h1|⟨h1,h2⟩
  ·rcases qe8 L Ws a i with h3|⟨h3,h4⟩
   ·rw[h3]at h1;exact .inl h1
   ·rw[h3]at h1;cases h1;exact .inr ⟨List.mem_cons_self ..,h4⟩
  ·exact .inr ⟨xru _ h1,h2⟩
theorem qnj{l:List Nat}(h:(qaw L Ws l).1=some b):b∈l/\∃x,Ws[b]?=some x/\qbm L Ws x=true:=by
 rcases qjt L Ws l _ b h with h1|h1
 ·cases h1
 ·exact h1
theorem qc7(h:qd1 L Ws=some b):∃x,Ws[b]?=some x/\qd7 Ws b x=true/\qbm L Ws x=true:=by
 obtain⟨h1,x,hx,ho⟩:=qnj h;obtain⟨y,hy,hh⟩:=qil (qfg h1).2;rw[hx]at hy;cases hy
 exact⟨x,hx,hh,ho⟩
theorem qnn(hi:Ws[i]?=some x)(hx:x.st=0){t:Int}(ht:0<t):qcm (Ws.set i (x.adm t))+1=qcm Ws:=by
 have hp:=(qbg hi).countP_eq (fun x=>x.st == 0);have hq:(Ws.set i (x.adm t)).Perm (x.adm t::(Ws.take i++Ws.drop (i+1))):=by rw[qge hi];exact List.perm_middle
 have qF:=hq.countP_eq (fun y=>y.st == 0);unfold qcm;rw[<-List.countP_eq_length_filter,<- List.countP_eq_length_filter,hp,qF,List.countP_cons,List.countP_cons];have h1:((x.adm t).st == 0)=false:=by simp[Wk.adm];omega
 rw[h1,hx]
 simp
theorem qgi(h:qas L s=some s'):∃(b:Nat) (x:Wk),qd1 L s.Ws=some b/\s.Ws[b]?=some x/\qd7 s.Ws b x=true/\qbm L s.Ws x=true/\s'=qds b x s:=by
 unfold qas at h
 split at h
 ·cases h
 ·rename_i b hb
  obtain⟨x,hx,h1,h2⟩:=qc7 hb;rw[hx]at h;simp only[Option.some.injEq]at h
  exact⟨b,x,hb,hx,h1,h2,h.symm⟩
theorem qqr(h:qd7 Ws b x=true):x.st=0:=by
 unfold qd7 at h;simp only[Bool.and_eq_true,beq_iff_eq]at h
 exact h.1
theorem SInv.idle(h:SInv s)(he:qas L s=some s'):SInv s'/\qcm s'.Ws<qcm s.Ws/\s'.st=s.st+1/\s'.Ws.length=s.Ws.length/\s'.evs.length=s.evs.length+1:=by
 obtain⟨b,x,hb,hx,h1,h2,rfl⟩:=qgi he;have mN:=h.st0;have wV:=qqr h1
 have:=qnn hx wV (t:=s.st+1) (by omega)
 unfold qds
 refine⟨⟨h.wks.admit mN hx wV,by show 0<=s.st+1;omega,h.anti.keys (qjb hx _)⟩,by simp only;omega,rfl,by simp,by simp⟩
def qek (e:Int×Int):List Value:=[vI e.1,vI e.2]
def qai (l:List (Int×Int)):List Value:=l.flatMap qek
theorem qll(l:List (Int×Int)):(qai l).length=l.length*2:=by
 induction l with
 |nil=>rfl
 |cons a l ih=>simp[qai,qek]at ih ⊢;omega
theorem qe3(a b:List (Int×Int)):qai (a++b)=qai a++qai b:=by simp[qai]
theorem qq4(k n:Int):∀u∈qai [(k,n)],u.oneCell'=true:=by
 intro u hu
 simp[qai,qek]at hu
 rcases hu with rfl|rfl<;>rfl
theorem un48:prog.underlying 48=some (.slice 60):=by kernel_rfl
structure qck (w:World) (br g cap:Nat) (L:List Ent) (o0:Option Nat) (cnt:Int) (n:Nat) (W:World) (ao:Option Addr) (cW:Nat) (Ws:List Wk) (st:Int) (sl:Value) (evs:List (Int×Int)):Prop where
 ref:GRef W br g cap L ao cW Ws cnt st
 len:Ws.length=n
 keep:Keep (fun b=>b=br\/o0=some b) w W
 old:∀b,(Value.slice ao Ws.length cW).ownBlock=some b->b<w.heap.size->o0=some b
 row:W.ownsRow 0 60 2 sl evs.length (qai evs)
 new:∀b,sl.ownBlock=some b->w.heap.size<=b
 sep:∀b,sl.ownBlock=some b->(Value.slice ao Ws.length cW).ownBlock≠some b
theorem Keep.qc5(h:Keep T w W)(hb:Bw W W'):Keep T w W' :=
 ⟨hb.os.trans h.os,hb.tape.trans h.tape,hb.output.trans h.output,Nat.le_trans h.size hb.size,fun k hk ht=>(hb.block k (xrg hk h.size)).trans (h.block k hk ht)⟩
theorem Keep.step(h:Keep T w W)(hk:Keep T' W W')(hs:∀b,b<w.heap.size->T' b->T b):Keep T w W' :=
 ⟨hk.os.trans h.os,hk.tape.trans h.tape,hk.output.trans h.output,Nat.le_trans h.size hk.size,fun k c_ ht=>(hk.block k (xrg c_ h.size) (fun e=>ht (hs k c_ e))).trans (h.block k c_ ht)⟩
theorem qck.below{g:Nat}{n:Nat}(h:qck w br g cap L o0 cnt n W ao cW Ws st sl evs)(hb:Bw W W'):qck w br g cap L o0 cnt n W' ao cW Ws st sl evs :=
 ⟨h.ref.below hb,h.len,h.keep.qc5 hb,h.old,qab (T:=fun _=>False) h.row (Keep.new hb) (fun _ _ e=>e),h.new,h.sep⟩
theorem qck.start{g:Nat}(h:GRef w br g cap L ao cW Ws cnt st):qck w br g cap L (Value.slice ao Ws.length cW).ownBlock cnt Ws.length w ao cW Ws st v0_ [] :=
 ⟨h,rfl,Keep.refl _ _,fun b hb _=>hb,xrk _ _ _ _,fun b hb=>by simp[Value.ownBlock]at hb,fun b hb=>by simp[Value.ownBlock]at hb⟩
theorem GRef.qii{g:Nat}(h:GRef W br g cap L ao cW Ws cnt st):br<W.heap.size:=h.ref.at_.lt
theorem qck.qis{g:Nat}{n:Nat}(h:qck w br g cap L o0 cnt n W ao cW Ws st sl evs)(bR:br<w.heap.size)(hl:Ws'.length=Ws.length)(aZ:W.heap.size<=b')(hr:GRef W' br g cap L (some (vA b' 0)) c' Ws' cnt st)(hk:Keep (fun b=>b=br) W W'):qck w br g cap L o0 cnt n W' (some (vA b' 0)) c' Ws' st sl evs:=by
 have hz:=h.keep.size;have ak:∀b,sl.ownBlock=some b->b<W.heap.size:=fun b hb=>(h.row.lt b hb).2
 refine⟨hr,hl.trans h.len,h.keep.step hk (fun b _ e=>.inl e),fun b hb ej=>?_,qab h.row hk (fun b hb e=>?_),h.new,fun b hb e=>?_⟩
 ·simp[Value.ownBlock]at hb;omega
 ·have:=h.new b hb;omega
 ·simp[Value.ownBlock]at e
  have:=ak b hb;omega
theorem qck.admit{g:Nat}{n:Nat}(h:qck w br g cap L o0 cnt n W ao cW Ws st sl evs)(bR:br<w.heap.size)(hl:Ws'.length=Ws.length)(hr:AdmR W br g cap L ao cW Ws' cnt GN W'):qck w br g cap L o0 cnt n W' ao cW Ws' GN sl evs:=by
 have hk:=hr.keep;rw[hl]at hk
 refine⟨hr.ref,hl.trans h.len,h.keep.step hk (fun b hb e=>?_),fun b hb ej=>h.old b (by rw[<-hl];exact hb) ej,qab h.row hk (fun b hb e=>?_),h.new,fun b hb e=>h.sep b hb (by rw[<-hl];exact e)⟩
 ·rcases e with e|e
  ·exact .inl e
  ·exact .inr (h.old b e hb)
 ·rcases e with e|e
  ·have:=h.new b hb;omega
  ·exact h.sep b hb e
theorem qck.tell{g:Nat}{n:Nat}(h:qck w br g cap L o0 cnt n W ao cW Ws st sl evs)(bR:br<w.heap.size)(hg:g<w.heap.size){e:Int×Int}(hr:AppR W sl.ownBlock 60 2 (evs.length+1) (qai evs++qai [e]) g' cap' W'):qck w br g cap L o0 cnt n W' ao cW Ws st (vS g' (evs.length+1) cap') (evs++[e]):=by
 have hz:=h.keep.size;have cU:¬(sl.ownBlock=some br):=fun e=>by have:=h.new br e;omega
 have wK:¬(sl.ownBlock=some g):=fun e=>by have:=h.new g e;omega
 have hW:∀b,(Value.slice ao Ws.length cW).ownBlock=some b->¬(sl.ownBlock=some b):=fun b hb e=>h.sep b e hb
 refine⟨⟨h.ref.ref.keep hr.keep cU wK,qab h.ref.wrow hr.keep hW,h.ref.ne1⟩,h.len,h.keep.step hr.keep (fun b hb e=>?_),h.old,?_,fun b hb=>?_,fun b hb e2=>?_⟩
 ·have:=h.new b e;omega
 ·rw[qe3,List.length_append];exact hr.own
 ·simp[Value.ownBlock]at hb;subst hb
  rcases hr.new with e2|e2
  ·exact h.new _ e2
  ·omega
 ·simp[Value.ownBlock]at hb;subst hb
  rcases hr.new with e3|e3
  ·exact h.sep _ e3 e2
  ·have:=qal h.ref.wrow e2
   omega
def qde (τ : Nat->Tag)(H:Nat)(b:Nat):Tag:=if b<H then τ b else .free
theorem qbx(h:b<H):qde τ H b = τ b:=by simp[qde,h]
theorem qe4(h:H<=b):qde τ H b=.free:=by simp[qde,Nat.not_lt.2 h]
theorem qgh.below(h:qgh τ W bw cd bO cC bL cy ns es ms me)(hb:Bw W W'):qgh (qde τ W.heap.size) W' bw cd bO cC bL cy ns es ms me :=
 h.keep (T:=fun _=>False) (Keep.new hb) (fun _ _ hf=>hf.elim) (fun b hb=>qbx hb)
theorem OwnT.from(hb:Bw W W1)(h:OwnT (qde τ W.heap.size) W1 o τ' w'):OwnT τ W o τ' w':=by
 refine⟨fun b ak ho=>?_,fun b kF=>?_,?_⟩
 ·rw[h.old b (xrg ak hb.size) ho,qbx ak]
 ·by_cases ho:o=some b
  ·exact h.new b (.inr ho)
  ·rcases Nat.lt_or_ge b W1.heap.size with h1|h1
   ·rw[h.old b h1 ho,qe4 (by rcases kF with e|e;exact e;exact absurd e ho)];exact .inl rfl
   ·exact h.new b (.inl h1)
 ·refine(Keep.new hb).step h.keep (fun b ak=>?_)
  rintro⟨_,h2⟩
  rw[qbx ak]at h2
  exact⟨ak,h2⟩
def qro (τ : Nat->Tag)(W:World)(o:Option Nat)(bw:Nat)(cd:Value)(N:Nat)(e:Ending)(w':World):Prop :=
 e=.returned (.bool true)/\∃τ' bO cC bL cy ns es ms me,OwnT τ W o τ' w'/\qgh τ' w' bw cd bO cC bL cy ns es ms me/\ns.length<=N/\es.length<=N
theorem qho{n:Nat}{a:Option Addr}(h:W.ownsRow 0 e size (.slice a n c) n xs):n<=c/\c<=maxLen:=by
 rcases h.2 with ⟨h,h0⟩|⟨g,cap,aD,h,_,_,h2,h3,_⟩
 ·cases h;exact⟨Nat.le_refl _,Nat.zero_le _⟩
 ·cases h;exact⟨h2,h3⟩
theorem qg1:∀(l:List (Int×Int)) (i:Nat) (e:Int×Int),l[i]?=some e->(qai l)[i*2]?=some (vI e.1)/\(qai l)[i*2+1]?=some (vI e.2)
 | [],_,_,h=>by simp at h
 |a::l,0,x,h=>by simp at h;subst h;exact⟨rfl,rfl⟩
 |a::l,t+1,x,h=>by
  have ih:=qg1 l t x (by simpa using h);simp only[qai,List.flatMap_cons]at ih ⊢
  refine⟨?_,?_⟩
  ·rw[xro (by simp[qek];omega)];rw[show(t+1)*2-(qek a).length=t*2 by simp[qek];omega];exact ih.1
  ·rw[xro (by simp[qek];omega)];rw[show(t+1)*2+1-(qek a).length=t*2+1 by simp[qek];omega];exact ih.2
theorem qn9{a:Option Addr}{n:Nat}{l:List (Int×Int)}(h:W.ownsRow 0 60 2 (.slice a n c) n (qai l)):qry W a l:=fun i e hi=>by
 rcases h.2 with ⟨h1,h0⟩|⟨g,cap,aD,h1,_,hg,_⟩
 ·have hl:=h.1;rw[qll]at hl
  have:=(xr0.1 hi).1
  omega
 ·cases h1
  obtain⟨e1,e2⟩:=qg1 l i e hi;have d1:=h.cells (g:=g) rfl _ _ e1;have d2:=h.cells (g:=g) rfl _ _ e2;rw[Addr.add_lit,Nat.zero_add]at d1 d2
  exact⟨g,rfl,(xrc.1 hg).1,d1,d2⟩
theorem qlo{a:Option Addr}{n:Nat}{l:List Int}(h:W.ownsRow 0 3 1 (.slice a n c) n (l.map fun m=>vI m)):qlf W a l:=fun i e hi=>by
 rcases h.2 with ⟨h1,h0⟩|⟨g,cap,aD,h1,_,hg,_⟩
 ·have hl:=h.1;rw[List.length_map]at hl
  have:=(xr0.1 hi).1
  omega
 ·cases h1
  have d1:=h.cells (g:=g) rfl i (vI e) (by simp[hi]);rw[Addr.add_lit,Nat.zero_add]at d1
  exact⟨g,rfl,(xrc.1 hg).1,d1⟩
theorem qtf(h:qgh τ W bw cd bO cC bL cy ns es ms me)(N:Nat)(hN:N<=900000000)(kH:ns.length<=N)(gx:es.length<=N)
  {a:Option Addr} {n c2:Nat} (hn:n=evs.length) (uV:n<=990) (gC:W.ownsRow 0 60 2 (.slice a n c) n (qai evs)) (lE:W.ownsRow 0 60 2 (.slice a2 n c2) n (qai evs)) (cV:∀b,(Value.slice a n c).ownBlock=some b -> τ b=.free) (er:Int) :
  Cl 68 #[vP bw,.slice a n c,vI er,.slice a2 n c2,vI er] W (qro τ W (Value.slice a n c).ownBlock bw cd (N+4)):=by
 have pZ:=qit (w:=W) hn (by omega) (qho gC) (qho lE) (qn9 gC) (qn9 lE);have gY:=fun W1 (hb:Bw W W1)=>qhq (h.below hb).blk (h.below hb).N (h.below hb).E (by omega) (by omega)
 have av:∀W1,Bw W W1->Cl 111 #[vP bw,.slice a n c] W1 fun e w'=>e=.returned (.tuple #[])/\qro τ W (Value.slice a n c).ownBlock bw cd (N+4) (.returned (.bool true)) w':=fun W1 hb=>by
  refine(qov (h.below hb) (by omega) (qab (T:=fun _=>False) gC (Keep.new hb) (fun _ _ h=>h)) uV (fun b aZ=>by rw[qbx (qal gC aZ)];exact cV b aZ)).mono ?_
  rintro e w' ⟨rfl,τ',ki,kh,qt,r_,hT,hI,an⟩
  exact⟨rfl,rfl,τ',_,_,_,_,_,_,_,_,hT.from hb,hI,by omega,by omega⟩
 generalize qro τ W (Value.slice a n c).ownBlock bw cd (N+4)=X at av ⊢;clear h hn gC lE cV
 go_enter func68,ntmps68
 go_wp2_with (first
  |(go_at_call 110;refine pZ.mono ?_;rintro e w1 ⟨rfl,aa⟩)
  |(go_at_call 37;refine(gY _ aa).mono ?_;rintro e w2 ⟨rfl,af⟩;have aw:=qac aa af)
  |(go_at_call 111;refine(av _ aw).mono ?_;rintro e w3 ⟨rfl,hX⟩)
  |(go_at_call 112;refine(qm0 _ _).mono ?_;rintro e w4 ⟨rfl,fQ⟩;subst fQ))
 all_goals exact hX
end
section
open Go.RowKit Go.Shelf
variable {nodes:List Node}{m n:Node}{W:World}
attribute [local go_sem] Oper.semAt_some
theorem qqs(w:World):(binOp .neq 97 (.pointer none) (.pointer none)).run prog w=.ok (.bool false) w:=by
 kernel_rfl
def ups (nodes:List Node):Nat->Node->List Node
 |0,n=>[n]
 |f+1,n=>if n.key=[] then [n] else n::(match findKey nodes n.key.dropLast with|some p=>ups nodes f p|none=>[])
def upsO (nodes:List Node)(f:Nat):Option Node->List Node
 |none=>[]
 |some c=>ups nodes f c
theorem qt2(T:Tree nodes){c:Node}(hc:c∈nodes){f:Nat}(hf:c.key.length<=f):∃(o:Option Node),ups nodes f c=c::upsO nodes (f-1) o/\c.up=o.map (·.blk)/\(∀p,o=some p->p∈nodes/\p.key.length<=f-1):=by
 by_cases hk:c.key=[]
 ·refine⟨none,?_,?_,fun p h=>by cases h⟩
  ·cases f with
   |zero=>rfl
   |succ f=>simp[ups,hk,upsO]
  ·rw[T.top c hc hk];rfl
 ·obtain⟨k,x,js⟩:∃k x,c.key=k++[x]:=⟨_,_,(List.dropLast_concat_getLast hk).symm⟩;obtain⟨p,hp,fU,_,e9⟩:=T.par c hc k x js;have an:c.key.length=k.length+1:=by rw[js];simp
  refine⟨some p,?_,by rw[e9];rfl,fun q h=>by cases h;exact⟨hp,by rw[fU];omega⟩⟩
  obtain⟨g,rfl⟩:∃g,f=g+1:=⟨f-1,by omega⟩;have sO:findKey nodes c.key.dropLast=some p:=by rw[js,List.dropLast_concat];exact qdp T hp fU
  simp only[ups,if_neg hk,sO,upsO,Nat.add_sub_cancel]
theorem qhy(T:Tree nodes):∀(f:Nat) (c:Node),c∈nodes->c.key.length<=f->∀m,m∈ups nodes f c↔(m∈nodes/\m.key <+: c.key):=by
 intro f
 induction f with
 |zero =>
  intro c hc hl m;have hk:c.key=[]:=List.eq_nil_of_length_eq_zero (by omega);simp only[ups,List.mem_singleton]
  constructor
  ·rintro rfl;exact⟨hc,List.prefix_refl _⟩
  ·rintro⟨hm,hp⟩
   rw[hk]at hp
   exact T.inj m hm c hc (by rw[hk];exact List.prefix_nil.1 hp)
 |succ f ih =>
  intro c hc hl m
  by_cases hk:c.key=[]
  ·simp only[ups,if_pos hk,List.mem_singleton]
   constructor
   ·rintro rfl;exact⟨hc,List.prefix_refl _⟩
   ·rintro⟨hm,hp⟩
    rw[hk]at hp
    exact T.inj m hm c hc (by rw[hk];exact List.prefix_nil.1 hp)
  ·obtain⟨k,x,js⟩:∃k x,c.key=k++[x]:=⟨_,_,(List.dropLast_concat_getLast hk).symm⟩;obtain⟨p,hp,fU,_,e9⟩:=T.par c hc k x js;have an:c.key.length=k.length+1:=by rw[js];simp
   have sO:findKey nodes c.key.dropLast=some p:=by rw[js,List.dropLast_concat];exact qdp T hp fU
   simp only[ups,if_neg hk,sO,List.mem_cons,ih p hp (by rw[fU];omega) m];rw[fU]
   constructor
   ·rintro(rfl|⟨h1,h2⟩)
    ·exact⟨hc,List.prefix_refl _⟩
    ·exact⟨h1,by rw[js];exact h2.trans (xry _ _)⟩
   ·rintro⟨hm,aC⟩
    rw[js]at aC
    rcases List.prefix_concat_iff.1 aC with h|h
    ·left;exact T.inj m hm c hc (by rw[h,js])
    ·right;exact⟨hm,h⟩
theorem qvv(nodes:List Node):∀(f:Nat) (c:Node),(ups nodes f c).length<=f+1:=by
 intro f
 induction f with
 |zero=>intro c;simp[ups]
 |succ f ih =>
  intro c;simp only[ups]
  split
  ·simp
  ·split
   ·rename_i p _;have:=ih p;simp;omega
   ·simp
theorem qrs(T:Tree nodes)(hn:n∈nodes)(w:World)(hN:∀n∈nodes,qan w n):
  Cl 191 #[nptr n.blk] w fun e w'=>e=.returned (.func (.func 223) #[] #[vP w.heap.size])/\w'=w.alloc (.cells #[nptr n.blk] 97) /\
   ∀Tm:Nat->Prop,(∀n∈nodes,¬Tm n.blk/\∀g,n.sl.ownBlock=some g->¬Tm g)->SeqK prog 223 #[vP w.heap.size] (fun x:Node=>nptr x.blk) (fun _=>False) Tm (ups nodes 4 n) w':=by
 have nT:∀(fn:Fn) (first cap:Array Value) (w:World),(Instr.makeFunc fn first cap).run prog w=.ok (.func fn first cap) w:=fun _ _ _ _=>rfl
 have key:∀Tm:Nat->Prop,(∀n∈nodes,¬Tm n.blk/\∀g,n.sl.ownBlock=some g->¬Tm g)->SeqK prog 223 #[vP w.heap.size] (fun x:Node=>nptr x.blk) (fun _=>False) Tm (ups nodes 4 n) (w.alloc (.cells #[nptr n.blk] 97)):=by
  intro Tm hT m l J Jx W hW hl hJ nJ hY h0;have b_:∀k:Nat,Fence.wide.depth.isSome=true->1<=k:=fun k h=>by simp[Fence.wide]at h
  have oj:∀n∈nodes,qan W n:=fun n hn=>(hN n hn).below (qac ((Below.refl _ _).alloc (Nat.le_refl _) _) hW)
  have hb:W.cell? (vA w.heap.size 0)=some (nptr n.blk):=((Box.new w 97 (nptr n.blk)).below hW (by simp)).cell;have J8:=(T.ok n hn).2;have ia:=qu1;generalize hXS:ups nodes 4 n=XS at hY ⊢
  refine callsIn_of_wp func223 rfl trivial ?_ rfl
  unfold nptr at hb;simp only[ntmps223,List.size_toArray,List.length_cons,List.length_nil,Nat.reduceAdd,Nat.reduceSub,Array.replicate_succ,Array.replicate_zero,List.push_toArray,List.append_toArray,List.nil_append,List.cons_append]
  gi_wp2
  gi_loopg [3] 5 (fun q v wr=>∃(pre:List Node) (o:Option Node) (f:Nat),v=uptr (o.map (·.blk))/\XS=pre++upsO nodes f o/\(∀c,o=some c->c∈nodes/\c.key.length<=f)/\(upsO nodes f o).length<=q/\J pre wr/\Keep Tm W wr)
  case atStart=>exact⟨[],some n,4,rfl,by rw[<-hXS];rfl,fun c h=>by cases h;exact⟨hn,J8⟩,qvv _ _ _,h0,Keep.refl _ _⟩
  case round =>
   obtain⟨pre,o,f,rfl,hx,ho,hq,F4,hk⟩:=hrel;have Gg:=qqs;have HX:Hid (XS=pre++upsO nodes f o):=hx;clear hx h0 hb hXS
   cases o with
   |none =>
    simp only[uptr,Option.map_none];have cG:J XS wr:=by rw[HX.out];simpa [upsO] using F4
    gi_wp2
    refine⟨fun f h=>(by cases h),?_⟩
    gi_wp2
    go_end0
    exact⟨⟨_,rfl⟩,.inl cG⟩
   |some c =>
    obtain⟨hc,IZ⟩:=ho c rfl;obtain⟨o',he,e9,ib⟩:=qt2 T hc IZ;have om:pre++[c] <+: XS:=by rw[HX.out,show upsO nodes f (some c)=c::upsO nodes (f-1) o' from he];exact⟨upsO nodes (f-1) o',by simp⟩
    obtain⟨fn,tmps,assign,body,hy,hR⟩:=hY (m-1) pre c wr F4 om;have tS:=qel hT oj hk;have eh:=hR.mono (R':=fun e W'=>(e=.returned (.bool true)/\J (pre++[c]) W'/\Keep Tm wr W'/\W'.cell? (vA c.blk 6)=some (uptr (o'.map (·.blk))))\/(e=.returned (.bool false)/\Jx (pre++[c]) W'))
     (fun e W' h=>h.elim (fun ⟨he,hj,hk⟩=>.inl ⟨he,hj,hk,by rw[<-e9];exact((tS c hc).keep hk (hT c hc).1 (hT c hc).2).cell rfl⟩) .inr)
    have HQ:Hid (upsO nodes f (some c)=c::upsO nodes (f-1) o'):=he;clear hR hY he e9;simp only[uptr,Option.map_some];unfold nptr at hy
    gi_wp2_with (refine⟨b_ _,?_⟩;refine eh.mono ?_;clear eh;rintro e W2 (⟨rfl,nI,bM,jc⟩|⟨rfl,ke⟩))
    ·gi_roundg ((upsO nodes (f-1) o').length)
     case measure=>have:=HQ.out;rw[this]at hq;simp at hq;omega
     case rel=>exact⟨pre++[c],o',f-1,rfl,by rw[HX.out,HQ.out];simp,ib,Nat.le_refl _,nI,hk.trans bM⟩
    ·go_end0
     exact⟨⟨_,rfl⟩,.inr ⟨_,om,ke⟩⟩
 unfold nptr at key ⊢
 go_enter func191,ntmps191
 go_wp2
 go_ret
 exact⟨rfl,rfl,key⟩
attribute [local go_sem] Oper.semAt_some
def qa7 (nodes:List Node):Prop:=∀a∈nodes,∀b∈nodes,a.blk=b.blk->a=b
theorem un93:prog.underlying 97=some (.pointer 136):=by kernel_rfl
theorem qwx:(prog.info? 136).map (fun i=>i.size)=some 8:=by kernel_rfl
theorem qvr:∃j,prog.info? 136=some j/\j.size≠0:=by
 have h:=qwx
 cases hi:prog.info? 136 with
 |none=>rw[hi]at h;cases h
 |some j=>rw[hi]at h;simp at h;exact⟨j,rfl,by omega⟩
theorem qut{x:Node}(hx:qan W x)(hm:qan W m):(binOp .eql 97 (vP x.blk) (vP m.blk)).run prog W=.ok (.bool (x.blk == m.blk)) W:=by
 obtain⟨j,hj,hs⟩:=qvr
 by_cases h:x.blk=m.blk
 ·rw[h,beq_self_eq_true]
  exact run_eql_ptr_same _ _ un93 hj
 ·have hb:(x.blk == m.blk)=false:=by simp[h]
  rw[hb]
  exact run_eql_ptr_other _ un93 hj hs (fun e=>h (by injection e)) hx.at_ hm.at_
theorem qsg(T:Tree nodes)(hB:qa7 nodes)(hn:n∈nodes)(hm:m∈nodes)(w:World)(hN:∀n∈nodes,qan w n):
  Cl 142 #[nptr n.blk,nptr m.blk] w fun e w'=>e=.returned (.bool (m.key.isPrefixOf n.key))/\Bw w w':=by
 have b_:∀k:Nat,Fence.wide.depth.isSome=true->1<=k:=fun k h=>by simp[Fence.wide]at h
 have e9:∀W,(∀n∈nodes,qan W n)->_:=fun W hW=>qrs T hn W hW
 have ai:=qhy T 4 n hn (T.ok n hn).2;generalize hX:ups nodes 4 n=X at e9 ai
 refine(xrv (n:=3)).1 ?_
 refine callsIn_of_wp_marks func142 rfl trivial ?_ rfl
 unfold nptr at e9 ⊢;simp only[ntmps142,List.size_toArray,List.length_cons,List.length_nil,Nat.reduceAdd,Nat.reduceSub,Array.replicate_succ,Array.replicate_zero,List.push_toArray,List.append_toArray,List.nil_append,List.cons_append]
 gi_wp2_with ((first|refine⟨trivial,b_ _,?_⟩|refine⟨trivial,?_⟩);gi_at_call 191;refine(xrv.2 (e9 _ (fun n hn=>(hN n hn).below (by exact bel1)))).mono ?_;rintro e W ⟨rfl,rfl,aI⟩)
 obtain⟨W,hW⟩:∃W,W=((w.alloc (.cells #[vP m.blk] 97)).alloc (.cells #[.bool false] 4)).alloc (.cells #[vP n.blk] 97):=⟨_,rfl⟩;have dk:W.heap.size=w.heap.size+3:=by rw[hW];simp
 have e2:((w.alloc (.cells #[vP m.blk] 97)).alloc (.cells #[.bool false] 4)).heap.size=w.heap.size+1+1:=by simp
 have cx:Box W w.heap.size 97 (vP m.blk):=by rw[hW];exact((Box.new w 97 _).alloc _).alloc _
 have aa:Box W (w.heap.size+1) 4 (.bool false):=by
  rw[hW];have:=Box.new (w.alloc (.cells #[vP m.blk] 97)) 4 (.bool false);rw[xrt]at this;exact this.alloc _
 have cn:Bw w W:=by rw[hW];exact bel1
 rw[e2]at aI;simp only[<-hW]at aI ⊢;have hq:=aI (fun b=>b=w.heap.size+1\/W.heap.size<=b) (fun k hk=>⟨fun h=>by have:=(hN k hk).lt;omega,fun g hg h=>by have:=((hN k hk).row.lt g hg).2;omega⟩);clear aI e9 e2 hW;have a7:∀b,b<W.heap.size->¬(False\/W.heap.size<=b):=fun b hb h=>by rcases h with h|h;exact h;omega
 refine qgy (T:=fun b=>b=w.heap.size+1) (S:=fun _=>False) rfl (enters_of func223 (by kernel_rfl) rfl) hq (Below.refl _ _) rfl (fun b h=>h.elim) (fun b h=>by omega)
  (fun pre A=>m ∉ pre/\Box A w.heap.size 97 (vP m.blk)/\Box A (w.heap.size+1) 4 (.bool false)/\Bw w A)
  (fun c pre A=>c=.ret/\m∈pre/\Box A (w.heap.size+1) 4 (.bool true)/\Bw w A)
  (fun pre A B hs hk=>⟨hs.1,hs.2.1.keep hk (a7 _ (by omega)),hs.2.2.1.keep hk (a7 _ (by omega)),hs.2.2.2.trans (hk.toBelow hs.2.2.2.size (fun b aZ=>a7 b (by omega)))⟩)
  (fun c pre A B hs hk=>⟨hs.1,hs.2.1,hs.2.2.1.keep hk (a7 _ (by omega)),hs.2.2.2.trans (hk.toBelow hs.2.2.2.size (fun b aZ=>a7 b (by omega)))⟩)
  ⟨by simp,cx,aa,cn⟩
  (fun x=>{tmps:=#[vP n.blk,vP m.blk,undef,vP w.heap.size,vP (w.heap.size+1),vP x.blk,vP n.blk,
   .func (.func 223) #[] #[vP (w.heap.size+1+1)],vP x.blk,undef,undef,undef],defers:=[]}) ?assign ?body ?done ?stop
 case assign =>
  intro l x W K hK
  gi_wp2
  exact hK
 case body =>
  rintro l pre x W2 ⟨a8,CI,bC,ae⟩ gP aC
  have cg:=((ai x).1 (aC.subset (by simp))).1;have dL:=CI.cell;have hc:=bC.cell;have hf:=bC.frozen;have kY:=qut ((hN x cg).below ae) ((hN m hm).below ae)
  by_cases he:x.blk=m.blk
  ·have qg:x=m:=hB x cg m hm he;subst qg;rw[beq_self_eq_true]at kY;have cO:Hid (x ∉ pre):=a8;clear a8 he
   gi_wp2
   exact⟨(Keep.refl (fun b=>b=w.heap.size+1) _).setCell (p:=vA (w.heap.size+1) 0) rfl _,rfl,by simp,bC.set _,ae.setCell (by simp) _⟩
  ·have qg:m≠x:=fun e=>he (by rw[e])
   have po:(x.blk == m.blk)=false:=by simp[he]
   rw[po]at kY
   gi_wp2
   exact⟨Keep.refl _ _,by simp[a8,qg],CI,bC,ae⟩
 case done =>
  rintro A ⟨a8,CI,bC,ae⟩ hD
  have hc:=bC.cell;have hf:=bC.frozen
  gi_wp2
  have jl:(A.setCell (vA (w.heap.size+1) 0) (.bool false)).heap[W.heap.size]?=some (.deferred (some [])):=(Below.heap_setCell _ _ _ _ (by simp;omega)).trans hD;have af:=((bC.set (.bool false)).put W.heap.size (.deferred none) (by omega)).cell
  refine⟨by simp,.inl ⟨_,_,rfl,run_takeDeferred jl,?_⟩⟩
  refine⟨.bool false,by simp[results,results142,go_sem,af],qa9 ?_,qa8 (ae.setCell (by simp) _) _ _ (by omega)⟩
  cases hp:m.key.isPrefixOf n.key with
  |false=>rfl
  |true=>exact absurd ((ai m).2 ⟨hm,xrw.1 hp⟩) a8
 case stop =>
  rintro c pre A aC ⟨rfl,hv,bC,ae⟩ hD
  gi_wp2
  have af:=(bC.put W.heap.size (.deferred none) (by omega)).cell
  refine⟨by simp,.inl ⟨_,_,rfl,run_takeDeferred hD,?_⟩⟩
  refine⟨.bool true,by simp[results,results142,go_sem,af],qa9 ?_,qa8 ae _ _ (by omega)⟩
  exact(xrw.2 ((ai m).1 (aC.subset hv)).2).symm
end
section
open Go.RowKit
variable {W W':World}{nodes:List Node}{v va:Value}{i:Nat}{m:Node}
structure Pw where
 blk:Nat
 x:Wk
 q:Nat
variable {l:List Pw}{p:Pw}
def Pw.cells(p:Pw):Array Value:=#[vI p.x.num,nptr p.q,vI p.x.d0,vI p.x.d1]
def qay (l:List Pw):List Value:=l.map fun p=>nptr p.blk
structure qhe (W:World) (nodes:List Node) (v:Value) (l:List Pw):Prop where
 row:W.ownsRow 0 95 1 v l.length (qay l)
 works:∀p∈l,Blk W p.blk 105 p.cells
 leaf:∀p∈l,∃n∈nodes,n.blk=p.q/\n.key=p.x.key
 num:∀p∈l,(0<=p.x.d0/\p.x.d0<=1000)/\(0<=p.x.d1/\p.x.d1<=1000)
 len:l.length<=24
theorem qhe.below(h:qhe W nodes v l)(hb:Bw W W'):qhe W' nodes v l :=
 ⟨qab (T:=fun _=>False) h.row (Keep.new hb) (fun _ _ e=>e),fun p hp=>(h.works p hp).below hb (h.works p hp).lt,h.leaf,h.num,h.len⟩
theorem qhe.at_(h:qhe W nodes v l)(hi:l[i]?=some p):∃g cap,v=vS g l.length cap/\g<W.heap.size/\l.length<=cap/\cap<=maxLen/\W.cell? (vA g i)=some (nptr p.blk):=by
 obtain⟨g,cap,rfl,h1,h2⟩:=qat h.row (Nat.lt_of_le_of_lt (Nat.zero_le _) (xr0.1 hi).1)
 have:=h.row.cells (g:=g) rfl i (nptr p.blk) (by unfold qay;rw[xrs,hi];rfl)
 rw[Addr.add_lit,Nat.zero_add]at this
 exact⟨g,cap,rfl,qal h.row rfl,h1,h2,this⟩
theorem qhe.form(h:qhe W nodes v l):∃a cap,v=.slice a l.length cap:=by
 rcases h.row.2 with ⟨rfl,h0⟩|⟨g,cap,aD,rfl,_⟩
 ·exact⟨none,0,by rw[h0]⟩
 ·exact⟨_,_,rfl⟩
def pun (l:List Pw)(k:List Bs):List Wk:=(l.map (·.x)).filter fun x=>k.isPrefixOf x.key
theorem qtq(l:List Pw)(p:Pw)(k:List Bs):pun (l++[p]) k=pun l k++(if k.isPrefixOf p.x.key then [p.x] else []):=by
 unfold pun;rw[List.map_append,List.filter_append];simp[xrz]
theorem quu(h:∀p∈l,(0<=p.x.d0/\p.x.d0<=1000)/\(0<=p.x.d1/\p.x.d1<=1000))(hl:l.length<=24)(k:List Bs):(0<=ws0 (pun l k)/\ws0 (pun l k)<=24000)/\(0<=ws1 (pun l k)/\ws1 (pun l k)<=24000):=by
 have aF:∀x∈pun l k,∃p∈l,p.x=x:=fun x hx=>by
  obtain⟨p,hp,e⟩:=xrq.1 (xrr.1 hx).1;exact⟨p,hp,e⟩
 have an:(pun l k).length<=24:=Nat.le_trans (xrh _ _) (by simpa using hl);have s0:=qrl (pun l k) (fun x hx=>by obtain⟨p,hp,rfl⟩:=aF x hx;exact(h p hp).1);have s1:=qqt (pun l k) (fun x hx=>by obtain⟨p,hp,rfl⟩:=aF x hx;exact(h p hp).2)
 omega
theorem qjo(T:Tree nodes)(hB:qa7 nodes)(w:World)(hN:∀n∈nodes,qan w n)(bt:Nat)(bZ:w.cell? (vA bt 3)=some va)(hA:qhe w nodes va l)(hm:m∈nodes):
  Cl 106 #[.pointer (some (vA bt 1)),nptr m.blk] w fun e w'=>e=.returned (.agg #[vI (ws0 (pun l m.key)),vI (ws1 (pun l m.key))])/\Bw w w':=by
 have dx:=xrb w _ bZ
 simp only at dx
 have cH:=fun W (hW:Bw w W) p (hp:p∈l)=>(show Cl 142 #[nptr p.q,nptr m.blk] W fun e w'=>e=.returned (.bool (m.key.isPrefixOf p.x.key))/\Bw W w' from by
  obtain⟨n,hn,e1,e2⟩:=hA.leaf p hp;rw[<-e1,<- e2]
  exact qsg T hB hn hm W (fun k hk=>(hN k hk).below hW))
 obtain⟨a,cap,zB⟩:=hA.form;have bh:=fun W (hW:Bw w W) i p (hi:l[i]?=some p)=>(hA.below hW).at_ hi
 obtain⟨n,hn⟩:∃n,n=l.length:=⟨_,rfl⟩;have an:=hA.len;rw[<-hn]at an zB bh;have HN:Hid (n=l.length):=hn;clear hn;rw[zB]at bZ bh;unfold nptr at cH ⊢;have M9:(w.alloc (.cells #[vI 0,vI 0] 35)).heap.size=w.heap.size+1:=by simp
 go_enter func106,ntmps106
 go_wp2
 go_loopw [13] (fun i wr=>∃k:Nat,k<=n/\i=vI k/\Bw w wr/\Blk wr w.heap.size 35 #[vI 0,vI 0]/\Blk wr (w.heap.size+1) 35 #[vI (ws0 (pun (l.take k) m.key)),vI (ws1 (pun (l.take k) m.key))]) (fun i _=>n-(intOf i).toNat)
 case atStart=>exact⟨0,Nat.zero_le _,rfl,by exact bel2,by exact blk2,by refine Blk.new' ?_;simp⟩
 case round =>
  obtain⟨k,hk,rfl,ae,a_,aG⟩:=hrel
  by_cases ak:k<n
  ·have aV:k<l.length:=by rw[<-HN.out];exact ak
   obtain⟨p,hp⟩:∃p,l[k]?=some p:=⟨_,xr1 aV⟩;have dM:=xr2 hp;have HT:Hid (l.take (k+1)=l.take k++[p]):=by
    show _=_
    rw[xrf aV];rw[xr1 aV]at hp;cases hp;rfl
   obtain⟨g,cap',he,ct,de,jc,FW⟩:=bh _ ae k p hp;injection he with ni _ Je;subst ni Je;have qC:=(hA.works p dM).below ae (hA.works p dM).lt;have fN:=(hA.works p dM).lt;have x1:=qC.cell 1;have lr:=fun W hW=>cH W hW p dM
   have pg:=quu (l:=l.take k) (fun q hq=>hA.num q (List.mem_of_mem_take hq)) (by simp;omega) m.key;have ic:=hA.num p dM;unfold Pw.cells nptr at x1 qC;simp only[xq0,xq1,xq2]at x1;have nr:(k:Int)<n:=by omega
   have f_:(0:Int)<=k:=by omega
   clear hp bh cH;unfold nptr at FW;have bU:Hid (∀(W:World) (e0 e1:Int),Bw w W->Blk W w.heap.size 35 #[vI 0,vI 0]->Blk W (w.heap.size+1) 35 #[vI e0,vI e1]->e0=ws0 (pun (l.take (k+1)) m.key)->e1=ws1 (pun (l.take (k+1)) m.key)->(∃eA:Nat,eA<=n/\vI ((k:Int)+1)=vI eA/\Bw w W/\Blk W w.heap.size 35 #[vI 0,vI 0]/\Blk W (w.heap.size+1) 35 #[vI (ws0 (pun (l.take eA) m.key)),vI (ws1 (pun (l.take eA) m.key))])/\n-(intOf (vI ((k:Int)+1))).toNat<n-(intOf (vI (k:Int))).toNat) :=
    fun W e0 e1 h1 h2 h3 h4 h5=>⟨⟨k+1,by omega,by go_num,h1,h2,by rw[<-h4,<- h5];exact h3⟩,by simp[intOf];omega⟩
   have HS:Hid (pun (l.take (k+1)) m.key=pun (l.take k) m.key++(if m.key.isPrefixOf p.x.key then [p.x] else [])):=by
    show _=_
    rw[HT.out,qtq]
   obtain⟨e0,mv⟩:∃e0,e0=ws0 (pun (l.take k) m.key):=⟨_,rfl⟩;obtain⟨e1,ni⟩:∃e1,e1=ws1 (pun (l.take k) m.key):=⟨_,rfl⟩;rw[<-mv,<- ni]at aG pg;have qk:Hid (e0=ws0 (pun (l.take k) m.key)):=mv;have ql:Hid (e1=ws1 (pun (l.take k) m.key)):=ni;clear mv ni
   go_wp2_with fail
   refine(lr _ ae).mono ?_
   rintro e w1 ⟨rfl,aa⟩
   have aj:Bw w w1:=qac ae aa;have sk:=a_.below aa a_.lt;have gm:=aG.below aa aG.lt;have BP:=qC.below aa qC.lt;clear lr a_ aG qC FW x1
   cases aC:m.key.isPrefixOf p.x.key
   ·go_wp2_with fail
    refine bU.out _ e0 e1 aj sk gm ?_ ?_
    ·rw[HS.out,aC,qk.out];simp
    ·rw[HS.out,aC,ql.out];simp
   ·have z0:=gm.cell 0;have z1:=gm.cell 1;have y2:=BP.cell 2;have y3:=BP.cell 3;have r0:=gm.frozen 0;have r1:=gm.frozen 1;simp only[xq0,xq1,xq2]at z0 z1 y2 y3;have iB:=fun W=>qid e0 e1 p.x.d0 p.x.d1 W (by omega) (by omega) (by omega) (by omega) (by omega) (by omega) (by omega) (by omega)
    have lY:Hid (∀W:World,Bw w W->Blk W w.heap.size 35 #[vI 0,vI 0]->Blk W (w.heap.size+1) 35 #[vI (e0+p.x.d0),vI (e1+p.x.d1)]->(∃eA:Nat,eA<=n/\vI ((k:Int)+1)=vI eA/\Bw w W/\Blk W w.heap.size 35 #[vI 0,vI 0]/\Blk W (w.heap.size+1) 35 #[vI (ws0 (pun (l.take eA) m.key)),vI (ws1 (pun (l.take eA) m.key))])/\n-(intOf (vI ((k:Int)+1))).toNat<n-(intOf (vI (k:Int))).toNat):=fun W h1 h2 h3=>bU.out W _ _ h1 h2 h3 (by rw[HS.out,aC,qk.out];simp[ws0]) (by rw[HS.out,aC,ql.out];simp[ws1])
    clear bU HS aC;have lb:=gm.lt;have lp:=BP.lt
    go_upto_region 6 with fail
    go_region_with (go_at_call 139;refine(iB _).mono ?_;rintro e w2 ⟨rfl,af⟩;have aw:Bw w w2:=qac (by exact bel2) af;have qP:Blk w2 w.heap.size 35 #[vI 0,vI 0]:=Blk.below (by exact blk2) af (by first|omega|(simp<;>omega));have gH:Blk w2 (w.heap.size+1) 35 #[vI e0,vI e1]:=Blk.below (by exact blk2) af (by first|omega|(simp<;>omega));have q0:=gH.cell 0;have q1:=gH.cell 1;have s0:=gH.frozen 0;have s1:=gH.frozen 1;simp only[xq0,xq1,xq2]at q0 q1)
    all_goals go_wp2_with fail
    all_goals refine lY.out _ ((aw.setCell (by simp) _).setCell (by simp) _) ((qP.other _ _ (by simp)).other _ _ (by simp)) ?_
    all_goals have:=(gH.set 0 (vI (e0+p.x.d0))).set 1 (vI (e1+p.x.d1))
    all_goals simpa using this
  ·have d0:=aG.cell 0;have d1:=aG.cell 1;have c0:=a_.cell 0;have c1:=a_.cell 1;have f0:=a_.frozen 0;have f1:=a_.frozen 1;simp only[xq0,xq1,xq2]at d0 d1 c0 c1
   go_wp2
   have sg:l.take k=l:=xrd (by rw[<-HN.out];omega);have pd:=(a_.set 0 (vI (ws0 (pun (l.take k) m.key)))).set 1 (vI (ws1 (pun (l.take k) m.key)));have fR:=pd.cell;rw[sg]at fR
   refine xrn (v:=.agg #[vI (ws0 (pun l m.key)),vI (ws1 (pun l m.key))]) ?_ rfl ⟨rfl,by exact bel2⟩
   rw[sg]
   simp[results,results106,go_sem,fR]
end
end Go.Proofs.YtphclnolomgjoaaGreatDoor
