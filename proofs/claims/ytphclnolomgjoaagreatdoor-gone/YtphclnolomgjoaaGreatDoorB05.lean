import Derived.Test.YtphclnolomgjoaaGreatDoorB04
set_option linter.unusedVariables false
set_option linter.unusedSimpArgs false
set_option maxRecDepth 100000
set_option maxHeartbeats 4000000
namespace Go.Proofs.YtphclnolomgjoaaGreatDoor
open Tryz
open Go.RowKit
variable {b i:Nat}{Ws fg:List Wk}{h x y:Wk}{L:List Ent}{st:Int}{s s':SS}{T T':Nat->Prop}{W W' w:World}
theorem qie(k:List Bs):inB (qaa k) (qaa k)=true:=by simp[inB]
theorem qib{α : Type}{l:List α}{x : α}(hi:l[i]?=some x):l=l.take i++x::l.drop (i+1):=by
 have ak:=(xr0.1 hi).1
 conv=>lhs;rw[<-List.take_append_drop i l]
 rw[List.drop_eq_getElem_cons ak];rw[xr1 ak]at hi;cases hi;rfl
theorem qfr{α : Type}{l:List α}{x : α}(hi:l[i]?=some x)(y : α):l.set i y=l.take i++y::l.drop (i+1):=by
 have ak:=(xr0.1 hi).1
 exact List.set_eq_take_append_cons_drop .. |>.trans (by rw[if_pos ak])
theorem qd9{v:Wk}(hi:Ws[i]?=some v)(hv:0<v.st)(k:List Bs):qaz (v.adm 0::(Ws.take i++Ws.drop (i+1))) k=if v.key=k then some (v.adm 0) else qaz Ws k:=by
 have h1:=qib hi;have hn:¬(v.st=0):=by omega
 unfold qaz
 by_cases hk:v.key=k
 ·rw[if_pos hk,List.find?_cons];simp[Wk.adm,hk]
 ·rw[if_neg hk,List.find?_cons];rw[show(((v.adm 0).st == 0)&&decide ((v.adm 0).key=k))=false from by simp[Wk.adm,hk]]
  simp only
  conv=>rhs;rw[h1]
  rw[List.find?_append,List.find?_append,List.find?_cons];rw[show((v.st == 0)&&decide (v.key=k))=false from by simp[hn]]
theorem qcv(hi:Ws[i]?=some x){t:Int}(ht:0<t){k:List Bs}(hk:x.key≠k):qaz (Ws.set i (x.adm t)) k=qaz Ws k:=by
 unfold qaz;rw[qfr hi]
 conv=>rhs;rw[qib hi]
 rw[List.find?_append,List.find?_append,List.find?_cons,List.find?_cons];rw[show(((x.adm t).st == 0)&&decide ((x.adm t).key=k))=false from by simp[Wk.adm,hk]];rw[show((x.st == 0)&&decide (x.key=k))=false from by simp[hk]]
theorem qc2{v:Wk}(hi:Ws[i]?=some v)(hv:0<v.st)(hn:inB (qaa v.key) (qaa h.key)=false):ownW L (v.adm 0::(Ws.take i++Ws.drop (i+1))) h=ownW L Ws h:=by
 have:=qjn hi hv (qaa h.key)
 rw[hn]at this;unfold ownW;rw[this.1,this.2]
 simp
theorem qem{v:Wk}(hi:Ws[i]?=some v)(hv:0<v.st)(ho:qtl L Ws v.key):ownW L (v.adm 0::(Ws.take i++Ws.drop (i+1))) (v.adm 0)=false:=by
 have:=qjn hi hv (qaa v.key)
 rw[qie]at this;simp only[if_true]at this;unfold ownW;rw[qrz]
 show(decide (ws0 _+v.d0<=_)&&decide (ws1 _+v.d1<=_))=false
 rw[<-this.1,<- this.2]
 rcases ho with ho|ho
 ·simp only[Bool.and_eq_false_iff,decide_eq_false_iff_not];left;omega
 ·simp only[Bool.and_eq_false_iff,decide_eq_false_iff_not];right;omega
theorem qc1(hi:Ws[i]?=some x)(hx:x.st=0){t:Int}(ht:0<t)(hn:inB (qaa x.key) (qaa h.key)=false):ownW L (Ws.set i (x.adm t)) h=ownW L Ws h:=by
 have:=qfu hi hx ht (qaa h.key)
 rw[hn]at this;unfold ownW;rw[this.1,this.2]
 simp
theorem Anti.not(h:Anti Ws)(hx:x∈Ws)(hy:y∈Ws)(hn:x.key≠y.key):inB (qaa x.key) (qaa y.key)=false:=by
 cases hh:inB (qaa x.key) (qaa y.key)
 ·rfl
 ·exact absurd (h x hx y hy hh) hn
theorem Anti.keys(h:Anti Ws)(hs:∀y∈fg,∃z∈Ws,z.key=y.key):Anti fg:=by
 intro x hx y hy hh;obtain⟨a,ha,Bk⟩:=hs x hx;obtain⟨b,hb,bh⟩:=hs y hy;rw[<-Bk,<- bh]at hh ⊢
 exact h a ha b hb hh
theorem qqw{v:Wk}(hi:Ws[i]?=some v)(t:Int):∀y∈v.adm t::(Ws.take i++Ws.drop (i+1)),∃z∈Ws,z.key=y.key:=by
 intro y hy
 rcases List.mem_cons.1 hy with rfl|hy
 ·exact⟨v,xr2 hi,rfl⟩
 ·exact⟨y,(qbn hi).mem_iff.2 (xru _ hy),rfl⟩
theorem qkk{v:Wk}(hi:Ws[i]?=some v)(t:Int):∀y∈Ws.set i (v.adm t),∃z∈Ws,z.key=y.key:=by
 intro y hy
 rcases List.mem_or_eq_of_mem_set hy with hy|rfl
 ·exact⟨y,hy,rfl⟩
 ·exact⟨v,xr2 hi,rfl⟩
theorem qq2(hA:Anti Ws){v:Wk}(hi:Ws[i]?=some v)(hv:0<v.st)(ho:qtl L Ws v.key):mOwn L (v.adm 0::(Ws.take i++Ws.drop (i+1)))<=mOwn L Ws:=by
 have hp:=(qbn hi).countP_eq (fun x=>(x.st == 0)&&qek L Ws x.key);have ud:=xr2 hi;unfold mOwn;rw[<-List.countP_eq_length_filter,<- List.countP_eq_length_filter,hp,List.countP_cons,List.countP_cons];have h1:qek L (v.adm 0::(Ws.take i++Ws.drop (i+1))) (v.adm 0).key=false:=by
  unfold qek;rw[qd9 hi hv,qrz,if_pos rfl]
  exact qem hi hv ho
 rw[h1,Bool.and_false];have h2:¬(v.st=0):=by omega
 simp only[Bool.false_eq_true,if_false,Nat.add_zero]
 refine Nat.le_trans (List.countP_mono_left (fun y hy hh=>?_)) (Nat.le_add_right _ _)
 simp only[Bool.and_eq_true,beq_iff_eq]at hh ⊢
 refine⟨hh.1,?_⟩
 have h3:=hh.2;unfold qek at h3 ⊢;rw[qd9 hi hv]at h3
 by_cases hk:v.key=y.key
 ·rw[if_pos hk]at h3
  simp only at h3
  rw[qem hi hv ho]at h3
  cases h3
 ·rw[if_neg hk]at h3
  cases hh:qaz Ws y.key with
  |none=>rw[hh]at h3;exact h3
  |some z =>
   rw[hh]at h3;obtain⟨z1,_,z3⟩:=qaj hh
   simp only at h3 ⊢
   rwa[qc2 hi hv (hA.not ud z1 (by rw[z3];exact hk))]at h3
theorem qq1(hA:Anti Ws)(hi:Ws[i]?=some x)(hx:x.st=0){t:Int}(ht:0<t)(hh:qaz Ws x.key=some x)(ho:ownW L Ws x=true):mOwn L (Ws.set i (x.adm t))<mOwn L Ws:=by
 have hp:=(qbn hi).countP_eq (fun x=>(x.st == 0)&&qek L Ws x.key);have hq:(Ws.set i (x.adm t)).Perm (x.adm t::(Ws.take i++Ws.drop (i+1))):=by rw[qfr hi];exact List.perm_middle
 have jT:=hq.countP_eq (fun y=>(y.st == 0)&&qek L (Ws.set i (x.adm t)) y.key);have cm:=xr2 hi;have jK:qek L Ws x.key=true:=by unfold qek;rw[hh];exact ho
 unfold mOwn;rw[<-List.countP_eq_length_filter,<- List.countP_eq_length_filter,hp,jT,List.countP_cons,List.countP_cons];have h1:((x.adm t).st == 0)=false:=by simp[Wk.adm];omega
 rw[h1,jK,hx];simp only[Bool.false_and,Bool.false_eq_true,if_false,Nat.add_zero,beq_self_eq_true,Bool.and_self,if_true]
 refine Nat.lt_succ_of_le (List.countP_mono_left (fun y hy j_=>?_))
 simp only[Bool.and_eq_true,beq_iff_eq]at j_ ⊢
 refine⟨j_.1,?_⟩
 by_cases hk:x.key=y.key
 ·rw[<-hk];exact jK
 ·have h3:=j_.2;unfold qek at h3 ⊢;rw[qcv hi ht hk]at h3
  cases hz:qaz Ws y.key with
  |none=>rw[hz]at h3;exact h3
  |some z =>
   rw[hz]at h3;obtain⟨z1,_,z3⟩:=qaj hz
   simp only at h3 ⊢
   rwa[qc1 hi hx ht (hA.not cm z1 (by rw[z3];exact hk))]at h3
structure RInv (L:List Ent) (x:Wk) (st:Int) (Ws:List Wk):Prop where
 wks:WkS Ws st
 anti:Anti Ws
 head:qaz Ws x.key=some x
 own:ownW L Ws x=true
theorem qdo{s s':MS}(h:qa3 L x s=some s'):∃(i:Nat) (v:Wk),qda L s.Ws x=some i/\qbv L s.Ws x=false/\s.Ws[i]?=some v/\v.st≠0/\way L s.Ws x v=true/\s'=⟨v.adm 0::(s.Ws.take i++s.Ws.drop (i+1)),s.evs++[(2,v.num)]⟩:=by
 unfold qa3 at h
 split at h
 ·cases h
 ·rename_i hf
  split at h
  ·cases h
  ·rename_i i hi
   obtain⟨v,hv,h0,hw⟩:=qbh L s.Ws x _ i hi;rw[hv]at h;simp only[Option.some.injEq]at h
   exact⟨i,v,hi,by simpa using hf,hv,h0,hw,h.symm⟩
theorem RInv.step{s s':MS}(h:RInv L x st s.Ws)(he:qa3 L x s=some s'):RInv L x st s'.Ws/\mOwn L s'.Ws<=mOwn L s.Ws/\s'.evs.length+admN s'.Ws=s.evs.length+admN s.Ws/\s'.Ws.length=s.Ws.length:=by
 obtain⟨i,v,su,hf,hv,h0,hw,rfl⟩:=qdo he;have cJ:=(h.wks.st v (xr2 hv)).1;have jw:0<v.st:=by omega
 have ho:=qpv hw;obtain⟨x1,x2,_⟩:=qaj h.head;have zH:=h.wks.wks.num x x1;have hk:v.key≠x.key:=fun e=>qh2 ⟨zH.1.1,zH.2.1⟩ h.own (e ▸ ho)
 have qL:=qj0 hv jw;have hl:=(qbn hv).length_eq
 refine⟨⟨h.wks.qjs hv,h.anti.keys (qqw hv 0),?_,?_⟩,qq2 h.anti hv jw ho,?_,?_⟩
 ·rw[qd9 hv jw,if_neg hk];exact h.head
 ·rw[qc2 hv jw (h.anti.not (xr2 hv) x1 hk)];exact h.own
 ·simp at qL ⊢;omega
 ·simp at hl ⊢;omega
theorem RInv.room:∀(n:Nat) (s:MS),RInv L x st s.Ws->RInv L x st (room L x n s).Ws/\mOwn L (room L x n s).Ws<=mOwn L s.Ws/\(room L x n s).evs.length+admN (room L x n s).Ws=s.evs.length+admN s.Ws/\(room L x n s).Ws.length=s.Ws.length
 |0,s,h=>⟨h,Nat.le_refl _,rfl,rfl⟩
 |n+1,s,h=>by
  simp only[Proofs.YtphclnolomgjoaaGreatDoor.room]
  cases he:qa3 L x s with
  |none=>exact⟨h,Nat.le_refl _,rfl,rfl⟩
  |some s' =>
   obtain⟨h1,h2,h3,h4⟩:=h.step he;obtain⟨g1,g2,g3,g4⟩:=RInv.room n s' h1
   exact⟨g1,Nat.le_trans g2 h2,g3.trans h3,g4.trans h4⟩
theorem qlu{s s':MS}(h:qa3 L x s=some s')(n:Nat):room L x (n+1) s=room L x n s':=by simp only[room,h]
theorem room_end{s:MS}(h:qa3 L x s=none)(n:Nat):room L x n s=s:=by
 cases n with
 |zero=>rfl
 |succ n=>simp only[room,h]
theorem qcg(hn:(Ws.map (·.num)).Nodup)(hi:Ws[i]?=some x)(t:Int):qd7 Ws x.num t=Ws.set i (x.adm t):=by
 apply List.ext_getElem?
 intro j;unfold qd7;rw[xrs,List.getElem?_set]
 by_cases hj:i=j
 ·subst hj;rw[if_pos rfl,if_pos (xr0.1 hi).1,hi]
  simp
 ·rw[if_neg hj]
  cases hy:Ws[j]? with
  |none=>rfl
  |some y =>
   have:y.num≠x.num:=fun e=>hj (qfy hn hi hy e.symm)
   simp[this]
structure SInv (s:SS):Prop where
 wks:WkS s.Ws s.st
 st0:0<=s.st
 anti:Anti s.Ws
theorem qee(h:qbc L s=some s'):∃(b:Nat) (x:Wk),qlr L s.Ws=some b/\s.Ws[b]?=some x/\qer s.Ws b x=true/\ownW L s.Ws x=true/\s'=qdz L x s:=by
 unfold qbc at h
 split at h
 ·cases h
 ·rename_i b hb
  obtain⟨x,hx,h1,h2⟩:=qhj hb;rw[hx]at h;simp only[Option.some.injEq]at h
  exact⟨b,x,hb,hx,h1,h2,h.symm⟩
theorem SInv.rinv(h:SInv s)(hx:s.Ws[b]?=some x)(h1:qer s.Ws b x=true)(h2:ownW L s.Ws x=true):RInv L x s.st s.Ws :=
 ⟨h.wks,h.anti,qch (fun y hy=>(h.wks.st y hy).1) hx h1,h2⟩
theorem SInv.own(h:SInv s)(he:qbc L s=some s'):SInv s'/\mOwn L s'.Ws<mOwn L s.Ws/\s'.st=s.st+1/\s'.Ws.length=s.Ws.length/\s'.evs.length<=s.evs.length+25:=by
 obtain⟨b,x,hb,hx,h1,h2,rfl⟩:=qee he;obtain⟨g1,g2,g3,g4⟩:=RInv.room (admN s.Ws) ⟨s.Ws,s.evs⟩ (h.rinv hx h1 h2);have lH:=h.st0;have ec:admN s.Ws<=24:=Nat.le_trans (xrh _ _) h.wks.wks.len;unfold qdz;obtain⟨m,hm⟩:∃m,m=Proofs.YtphclnolomgjoaaGreatDoor.room L x (admN s.Ws) ⟨s.Ws,s.evs⟩:=⟨_,rfl⟩;rw[<-hm]at g1 g2 g3 g4 ⊢;obtain⟨x1,x2,_⟩:=qaj g1.head;obtain⟨i,hi⟩:=xre x1;rw[qcg g1.wks.nums hi]
 simp only at g2 g3 g4 ⊢
 refine⟨⟨g1.wks.admit lH hi x2,by show 0<=s.st+1;omega,g1.anti.keys (qkk hi _)⟩,xrg (qq1 g1.anti hi x2 (by omega) g1.head g1.own) g2,trivial,by rw[List.length_set];exact g4,?_⟩
 simp;omega
theorem qi0(L:List Ent)(Ws:List Wk)(a:Option Nat×(Int×Int))(i:Nat):qb5 L Ws a i=a\/(qb5 L Ws a i).1=some i/\∃x,Ws[i]?=some x/\qbv L Ws x=true:=by
 unfold qb5
 cases hx:Ws[i]? with
 |none=>exact .inl rfl
 |some x =>
  simp only
  obtain⟨a1,a2⟩:=a
  cases a1 with
  |none =>
   simp only[if_true]
   cases ho:qbv L Ws x
   ·exact .inl rfl
   ·exact .inr ⟨rfl,x,rfl,ho⟩
  |some b =>
   simp only
   split
   ·rename_i ho
    split
    ·exact .inr ⟨rfl,x,rfl,ho⟩
    ·exact .inl rfl
   ·exact .inl rfl
theorem qj9(L:List Ent)(Ws:List Wk):∀(l:List Nat) (a:Option Nat×(Int×Int)) (b:Nat),(l.foldl (qb5 L Ws) a).1=some b->a.1=some b\/(b∈l/\∃x,Ws[b]?=some x/\qbv L Ws x=true)
 | [],a,b,h=>.inl h
 |i::l,a,b,h=>by
  rw[List.foldl_cons]at h
  rcases qj9 L Ws l _ b h with h1|⟨h1,h2⟩
  ·rcases qi0 L Ws a i with h3|⟨h3,h4⟩
   ·rw[h3]at h1;exact .inl h1
   ·rw[h3]at h1;cases h1;exact .inr ⟨List.mem_cons_self ..,h4⟩
  ·exact .inr ⟨xru _ h1,h2⟩
theorem qn0{l:List Nat}(h:(qwu L Ws l).1=some b):b∈l/\∃x,Ws[b]?=some x/\qbv L Ws x=true:=by
 rcases qj9 L Ws l _ b h with h1|h1
 ·cases h1
 ·exact h1
theorem qdn(h:qdm L Ws=some b):∃x,Ws[b]?=some x/\qer Ws b x=true/\qbv L Ws x=true:=by
 obtain⟨h1,x,hx,ho⟩:=qn0 h;obtain⟨y,hy,hh⟩:=qiy (qke h1).2;rw[hx]at hy;cases hy
 exact⟨x,hx,hh,ho⟩
theorem qoa(hi:Ws[i]?=some x)(hx:x.st=0){t:Int}(ht:0<t):qi4 (Ws.set i (x.adm t))+1=qi4 Ws:=by
 have hp:=(qbn hi).countP_eq (fun x=>x.st == 0);have hq:(Ws.set i (x.adm t)).Perm (x.adm t::(Ws.take i++Ws.drop (i+1))):=by rw[qfr hi];exact List.perm_middle
 have jT:=hq.countP_eq (fun y=>y.st == 0);unfold qi4;rw[<-List.countP_eq_length_filter,<- List.countP_eq_length_filter,hp,jT,List.countP_cons,List.countP_cons];have h1:((x.adm t).st == 0)=false:=by simp[Wk.adm];omega
 rw[h1,hx]
 simp
theorem qcz(h:qat L s=some s'):∃(b:Nat) (x:Wk),qdm L s.Ws=some b/\s.Ws[b]?=some x/\qer s.Ws b x=true/\qbv L s.Ws x=true/\s'=qf5 b x s:=by
 unfold qat at h
 split at h
 ·cases h
 ·rename_i b hb
  obtain⟨x,hx,h1,h2⟩:=qdn hb;rw[hx]at h;simp only[Option.some.injEq]at h
  exact⟨b,x,hb,hx,h1,h2,h.symm⟩
theorem qgt(h:qer Ws b x=true):x.st=0:=by
 unfold qer at h;simp only[Bool.and_eq_true,beq_iff_eq]at h
 exact h.1
theorem SInv.idle(h:SInv s)(he:qat L s=some s'):SInv s'/\qi4 s'.Ws<qi4 s.Ws/\s'.st=s.st+1/\s'.Ws.length=s.Ws.length/\s'.evs.length=s.evs.length+1:=by
 obtain⟨b,x,hb,hx,h1,h2,rfl⟩:=qcz he;have lH:=h.st0;have jY:=qgt h1
 have:=qoa hx jY (t:=s.st+1) (by omega)
 unfold qf5
 refine⟨⟨h.wks.admit lH hx jY,by show 0<=s.st+1;omega,h.anti.keys (qkk hx _)⟩,by simp only;omega,rfl,by simp,by simp⟩
def qfe (e:Int×Int):List Value:=[.int .i64 e.1,.int .i64 e.2]
def qam (l:List (Int×Int)):List Value:=l.flatMap qfe
theorem qmd(l:List (Int×Int)):(qam l).length=l.length*2:=by
 induction l with
 |nil=>rfl
 |cons a l ih=>simp[qam,qfe]at ih ⊢;omega
theorem qiv(a b:List (Int×Int)):qam (a++b)=qam a++qam b:=by simp[qam]
theorem un48:prog.underlying 48=some (.slice 60):=by kernel_rfl
theorem Keep.qj3(h:Keep T w W)(hb:Below W.heap.size W W'):Keep T w W' :=
 ⟨hb.os.trans h.os,hb.tape.trans h.tape,hb.output.trans h.output,Nat.le_trans h.size hb.size,fun k hk ht=>(hb.block k (xrg hk h.size)).trans (h.block k hk ht)⟩
theorem Keep.step(h:Keep T w W)(hk:Keep T' W W')(hs:∀b,b<w.heap.size->T' b->T b):Keep T w W' :=
 ⟨hk.os.trans h.os,hk.tape.trans h.tape,hk.output.trans h.output,Nat.le_trans h.size hk.size,fun k cf ht=>(hk.block k (xrg cf h.size) (fun e=>ht (hs k cf e))).trans (h.block k cf ht)⟩
end Go.Proofs.YtphclnolomgjoaaGreatDoor
