import Derived.Test.YtphclnolomgjoaaGreatDoorB03
import Derived.Lib.AppendZeros
import Derived.ArgAppend
import Derived.BigRegion
import Derived.Deep.RegionHeld3
import Derived.Deep.CutRange
set_option linter.unusedVariables false
set_option linter.unusedSimpArgs false
set_option maxRecDepth 100000
set_option maxHeartbeats 4000000
namespace Go.Proofs.YtphclnolomgjoaaGreatDoor
open Tryz
open Go.RowKit
variable {nodes:List Node}{n r:Node}{P:Program}{W W' w:World}{e t t':TypeId}{sl v z:Value}{xs:List Value}{vs:Array Value}{B b bytes i j:Nat}{T:Nat->Prop}{st:Int}
def findKey(nodes:List Node)(k:List Bs):Option Node:=nodes.find? fun n=>n.key == k
theorem qb0(T:Tree nodes)(hn:n∈nodes){k:List Bs}(hk:n.key=k):findKey nodes k=some n:=by
 unfold findKey
 cases h:nodes.find? fun n=>n.key == k with
 |none=>have:=List.find?_eq_none.1 h n hn;simp[hk]at this
 |some m =>
  have h1:=List.mem_of_find?_eq_some h;have h2:=List.find?_some h
  simp at h2
  rw[T.inj m h1 n hn (by rw[h2,hk])]
theorem qhv{k:List Bs}(h:∀n∈nodes,n.key≠k):findKey nodes k=none:=by
 unfold findKey;rw[List.find?_eq_none];intro n hn;simpa using h n hn
theorem qan{k:List Bs}(h:findKey nodes k=some n):n∈nodes/\n.key=k:=by
 unfold findKey at h
 exact⟨List.mem_of_find?_eq_some h,by have:=List.find?_some h;simpa using this⟩
def qsl (nodes:List Node)(k:List Bs):Int:=match findKey nodes k with
 |none=>3
 |some p=>if p.leaf then 5 else if 20<=nodes.length then 7 else 0
def qbo (nodes:List Node)(s:Bs)(ok:Bool):Int :=
 if qar s=false then 1 else if s=[] then 2 else if ok=false then 6 else if 4<qep s then 8
 else if (findKey nodes (qac s)).isSome then 4 else qsl nodes (qac s).dropLast
theorem qrh(s a b:Bs)(hv:qar s=true)(hs:s≠[])(h:(¬qd5 s/\a=[]/\b=s)\/(s=a++47::b/\¬qd5 b)):
  qac s=qac a++[b]/\a.length<=s.length:=by
 rcases h with ⟨h1,rfl,rfl⟩|⟨h1,h2⟩
 ·exact⟨by simp only[qac,hs,if_false,if_true];rw[qc9 _ h1];rfl,by simp⟩
 ·have h3:qax s=qax a++[b]:=by rw[h1,qeg,qc9 _ h2]
  have ha:a≠[]:=fun e=>by
   subst e
   have:qac s=qax s:=by simp[qac,hs]
   rw[qcd,this,h3]at hv
   have:=qby hv (n:=[]) (by simp[qax])
   simp[qbr]at this
  exact⟨by simp only[qac,hs,ha,if_false];exact h3,by rw[h1];simp⟩
def qry (s:ByteArray)(e:Ending):Prop:=∃a b:ByteArray,e=.returned (.tuple #[.string a,.string b])/\qac (bl s)=qac (bl a)++[bl b]/\a.size<=s.size
theorem qe6(s:ByteArray)(hs:s.size<=2000000)(hv:qar (bl s)=true)(aW:bl s≠[])(w:World):
  Calls prog 81 #[.string s] w fun e w'=>qry s e/\Below w.heap.size w w':=by
 refine(qt6 s w hs).mono ?_
 rintro e w' ⟨⟨a,b,rfl,h⟩,n,rfl⟩
 have:=qrh (bl s) (bl a) (bl b) hv aW h
 exact⟨⟨a,b,rfl,this.1,by have h2:=this.2;rw[qcl,qcl]at h2;exact h2⟩,xrm (Below.refl _ _) n⟩
def qbj (l:List (Int×Int)):Bool:=l.all fun x=>qao x.1 x.2
theorem qf2(vb c:Nat)(l:List (Int×Int))(hl:l.length<=100)(w:World)(hb:vb<w.heap.size)
  (hc:∀(j:Nat) (x:Int×Int),l[j]?=some x->w.cell? ⟨vb,j*2,none⟩=some (.int .i64 x.1)/\w.cell? ⟨vb,j*2+1,none⟩=some (.int .i64 x.2)) :
  Calls prog 133 #[.slice (some ⟨vb,0,none⟩) l.length c] w fun e w'=>e=.returned (.bool (qbj l))/\Below w.heap.size w w':=by
 obtain⟨L,hL⟩:∃L,L=l.length:=⟨_,rfl⟩;rw[<-hL];rw[<-hL]at hl;have HL:Hid (L=l.length):=hL;clear hL
 go_enter func133,ntmps133
 go_wp2
 go_loopw [7] (fun i wr=>∃k:Nat,k<=L/\i=.int .i64 k/\qbj (l.take k)=true/\Below w.heap.size w wr) (fun i _=>L-(intOf i).toNat)
 case atStart=>exact⟨0,Nat.zero_le _,rfl,rfl,Below.refl _ _⟩
 case round =>
  obtain⟨k,hk,rfl,hf,ah⟩:=hrel;have HF:Hid (qbj (l.take k)=true):=hf;clear hf
  by_cases ak:k<L
  ·have bN:k<l.length:=by rw[<-HL.out];exact ak
   obtain⟨x,hx⟩:∃x,l[k]?=some x:=⟨_,xr1 bN⟩;have HX:Hid (l.take (k+1)=l.take k++[x]):=by
    rw[xrf bN];rw[xr1 bN]at hx;cases hx;rfl
   have HM:Hid (x∈l):=xr2 hx;obtain⟨c0,c1⟩:=hc k x hx
   replace c0:=(ah.cell (p:=⟨vb,k*2,none⟩) hb).trans c0
   replace c1:=(ah.cell (p:=⟨vb,k*2+1,none⟩) hb).trans c1
   clear hx hc;have de:=fun W=>qip x.1 x.2 W
   cases hfx:qao x.1 x.2
   ·rw[hfx]at de
    go_wp2_with (go_at_call 147;refine(de _).mono ?_;rintro e w1 ⟨rfl,aa⟩)
    go_ret
    refine⟨qbt ?_,qab (ah.alloc ah.size _) aa⟩
    symm;unfold qbj;rw[List.all_eq_false];exact⟨x,HM.out,by simp[hfx]⟩
   ·rw[hfx]at de
    go_wp2_with (go_at_call 147;refine(de _).mono ?_;rintro e w1 ⟨rfl,aa⟩)
    go_roundw
    case rel=>exact⟨k+1,by omega,by go_num,by rw[HX.out];have:=HF.out;unfold qbj at this ⊢;rw[List.all_append,this];simp[hfx],qab (ah.alloc ah.size _) aa⟩
    case measure=>simp[intOf];omega
  ·go_wp2
   go_ret
   have:=HF.out
   rw[xrd (by rw[<-HL.out];omega)]at this
   exact⟨qbt this.symm,ah⟩
theorem qna(T:Tree nodes)(w:World)(hN:∀n∈nodes,qag w n)(hr:r∈nodes)(a_:r.key=[])(bt:Nat)(ht:w.cell? ⟨bt,0,none⟩=some (nptr r.blk))(k:List Bs):
  Calls prog 135 #[.pointer (some ⟨bt,0,none⟩),match findKey nodes k with|none=>.pointer none|some p=>nptr p.blk] w fun e w'=>e=.returned (.int .i64 (qsl nodes k))/\Below w.heap.size w w':=by
 unfold qsl
 cases hf:findKey nodes k with
 |none =>
  go_enter func135,ntmps135
  go_wp2
  go_ret
  exact⟨rfl,Below.refl _ _⟩
 |some p =>
  obtain⟨hp,_⟩:=qan hf;obtain⟨ch,K⟩:=T.ch;have iv:=qvb T K hr (by have:=qo5 T K hr;omega) bt w hN ht;rw[qu2 T K hr a_]at iv;have c1:w.cell? ⟨p.blk,1,none⟩=some (.bool p.leaf):=(hN p hp).cell rfl;have aZ:=qgx p.blk p.leaf w c1;unfold nptr;clear hf
  cases hl:p.leaf
  ·rw[hl]at aZ
   by_cases mB:20<=nodes.length
   ·simp only[mB,decide_true]at iv;simp only[hl,Bool.false_eq_true,if_false,mB,if_true]
    go_enter func135,ntmps135
    go_wp2_with (first|(go_at_call 105;refine aZ.mono ?_;rintro e w1 ⟨rfl,ck⟩;subst ck)|(go_at_call 182;refine iv.mono ?_;rintro e w1 ⟨rfl,aa⟩))
    go_ret
    exact⟨rfl,aa⟩
   ·simp only[mB,decide_false]at iv;simp only[hl,Bool.false_eq_true,if_false,mB]
    go_enter func135,ntmps135
    go_wp2_with (first|(go_at_call 105;refine aZ.mono ?_;rintro e w1 ⟨rfl,ck⟩;subst ck)|(go_at_call 182;refine iv.mono ?_;rintro e w1 ⟨rfl,aa⟩))
    go_ret
    exact⟨rfl,aa⟩
  ·rw[hl]at aZ;simp only[hl,if_true]
   go_enter func135,ntmps135
   go_wp2_with (go_at_call 105;refine aZ.mono ?_;rintro e w1 ⟨rfl,ck⟩;subst ck)
   go_ret
   exact⟨rfl,Below.refl _ _⟩
theorem qcr(T:Tree nodes)(hr:r∈nodes)(a_:r.key=[])(s:ByteArray)(hs:s.size<=2000000)(w:World)(hN:∀n∈nodes,qag w n)(v:Value)
  (hv:v=match findKey nodes (qac (bl s)) with|none=>.pointer none|some p=>nptr p.blk) :
  Calls prog 63 #[nptr r.blk,.string s] w fun e w'=>e=.returned v/\Below w.heap.size w w':=by
 refine(qu6 T hr a_ s hs w hN).mono ?_
 rintro e w' ⟨(⟨n,hn,bX,rfl⟩|⟨ay,rfl⟩),hb⟩
 ·rw[qb0 T hn bX]at hv;exact⟨by rw[hv],hb⟩
 ·rw[qhv ay]at hv;exact⟨by rw[hv],hb⟩
structure Ent where
 key:List Bs
 leaf:Bool
 n0:Int
 n1:Int
 b0:Int
 b1:Int
variable {L:List Ent}
def Node.ent(n:Node):Ent:=⟨n.key,n.leaf,n.n0,n.n1,n.b0,n.b1⟩
def qeq (L:List Ent)(k:List Bs):Option Ent:=L.find? fun n=>n.key == k
def qwt (L:List Ent)(k:List Bs):Int:=match qeq L k with
 |none=>3
 |some p=>if p.leaf then 5 else if 20<=L.length then 7 else 0
def errE (L:List Ent)(s:Bs)(ok:Bool):Int :=
 if qar s=false then 1 else if s=[] then 2 else if ok=false then 6 else if 4<qep s then 8
 else if (qeq L (qac s)).isSome then 4 else qwt L (qac s).dropLast
theorem qb4(nodes:List Node)(k:List Bs):qeq (nodes.map Node.ent) k=(findKey nodes k).map Node.ent:=by
 unfold qeq findKey
 induction nodes with
 |nil=>rfl
 |cons n l ih =>
  simp only[List.map_cons,List.find?_cons]
  have:(Node.ent n).key=n.key:=rfl
  rw[this]
  cases n.key == k<;>simp[ih]
theorem qo6(nodes:List Node)(s:Bs)(ok:Bool):errE (nodes.map Node.ent) s ok=qbo nodes s ok:=by
 unfold errE qbo qwt qsl;rw[qb4,qb4]
 cases findKey nodes (qac s)<;>cases findKey nodes (qac s).dropLast<;>simp[Node.ent]
theorem qj1(w:World)(t e:TypeId)(i0:TypeInfo)(z:Value)(size bytes:Nat)(ht:P.underlying t=some (.slice e))(hi:P.info? e=some i0)(fM:i0.zero=some z)
  (dz:i0.size=size) (fq:i0.bytes=bytes) (qc:z.cells.size=size) (cY:0<size) (sl:Value) (n:Nat) (xs:List Value) (aG:w.ownsRow 0 e size sl n xs)
  (ad:Addr) (m c:Nat) (hm:0<n+m) (bM:List Value) (hl:bM.length=m*size) (c_:∀j u,bM[j]?=some u->w.cell? (ad.add j)=some u) (h1:∀u∈bM,u.oneCell'=true)
  (nH:n+m<=maxLen) (hb:(n+m)*bytes<=140737488355328) :
  ∃v' w',(∀ty,(Builtin.append_ #[t,t] ty #[sl,.slice (some ad) m c]).run P w=.ok v' w')/\w'.ownsRow 0 e size v' (n+m) (xs++bM)/\w.grownBy w' sl.ownBlock/\(v'.ownBlock=sl.ownBlock\/∃g,v'.ownBlock=some g/\w.heap.size<=g):=by
 have cn:∀ {v':Value} {w':World},w'.ownsRow w.heap.size e size v' (n+m) (xs++bM)->w'.ownsRow 0 e size v' (n+m) (xs++bM)/\∃g,v'.ownBlock=some g/\w.heap.size<=g:=fun {v' w'} h=>by
  obtain⟨h1,h2⟩:=h
  rcases h2 with ⟨_,h0⟩|⟨g,cap,aH,rfl,hb,rest⟩
  ·omega
  ·exact⟨⟨h1,.inr ⟨g,cap,aH,rfl,Nat.zero_le _,rest⟩⟩,g,rfl,hb⟩
 rcases aG.2 with ⟨rfl,rfl⟩|⟨g,cap,aH,rfl,_,hg,lu,iT,cv,db⟩
 ·have hx:xs=[]:=List.eq_nil_of_length_eq_zero (by simpa using aG.1);subst hx;obtain⟨v',w',hr,ho,dB,_⟩:=run_append_own (P:=P) w w.heap.size t 0 e i0 z size bytes ht hi fM dz fq qc cY (.slice none 0 0) 0 [] (xrk w _ e size) ad m c bM hl c_ h1 nH hb (Nat.le_refl _);have gR:=cn ho
  exact⟨v',w',fun ty=>hr,gR.1,dB,.inr gR.2⟩
 ·by_cases bo:n+m<=cap
  ·have hr:=fun ty=>run_append_room (P:=P) w t ty e i0 ht hi g n cap aH hg ad m c bM (by rw[dz];exact hl) c_ h1 bo (by rw[dz,hl,cv,<- Nat.add_mul];exact Nat.mul_le_mul_right _ bo)
   rw[dz]at hr;have a9:(xs++bM).length=(n+m)*size:=by rw[List.length_append,aG.1,hl,Nat.add_mul]
   refine⟨_,_,hr,⟨a9,.inr ⟨g,cap,_,rfl,Nat.zero_le _,setRow_heap w g aH _ e _ hg,bo,iT,?_,?_⟩⟩,⟨rfl,rfl,rfl,by simp,fun k _ hk=>setRow_other w g k _ (fun e=>hk (by simp[Value.ownBlock,e]))⟩,.inl rfl⟩
   ·have jH:n*size+bM.length<=aH.size:=by rw[hl,cv,<- Nat.add_mul];exact Nat.mul_le_mul_right _ bo
    simp only[List.size_toArray,List.length_append,List.length_take,List.length_drop,Array.length_toList]
    omega
   ·rw[db,<- a9]
    exact List.take_left
  ·obtain⟨v',w',hr,ho,dB⟩:=run_append_arg_grows (P:=P) w t 0 e i0 z size bytes ht hi fM dz fq qc cY ⟨g,0,none⟩ n cap xs aG.1 (aG.cells (g:=g) rfl) ad m c bM hl c_ (by omega) nH hb;have gR:=cn ho
   exact⟨v',w',fun ty=>hr,gR.1,⟨dB.os,dB.tape,dB.output,dB.size,fun k hk _=>dB.block k hk (by simp)⟩,.inr gR.2⟩
theorem qa8{eu:Array Oper}{o:Oper}{a:Act}{K:Act->World->Prop}{Q:Exit->Act->World->Prop}{E:Prop}{R:Value->World->Prop}
  (hg:o.guard=none) (d x:Operand) (dT sT:TypeId) (rR:o.op=Op.call {callee:=Callee.builtin Builtin.append,args:=#[d,x],argTypes:=#[dT,sT]})
  (v u:Value) (hd:a.eval d=v) (hx:a.eval x=u) (hk:∃v' w',(∀ty,(Builtin.append_ #[dT,sT] ty #[v,u]).run P w=.ok v' w')/\R v' w') (hK:∀v' w',R v' w'->K (a.put o.dst v') w') :
  if Region.wanted o (yielded eu a.tmps)=true then Oper.wp P o a w K Q else E:=by
 obtain⟨v',w',hr,hR⟩:=hk;rw[if_pos (by simp[Region.wanted,hg])];unfold Oper.wp;have pW:=hr o.type
 simp[execOp,rR,resolve,invoke,builtin,hd,hx,pW,Result.andThen]
 exact hK v' w' hR
theorem qbd{eu:Array Oper}{rest:List Oper}{o:Oper}{a:Act}{Q:Exit->Act->World->Prop}{R:Value->World->Prop}(wo:o.guard=none)(s x:Operand)(t tn:TypeId)
  (ho:o.op=.call {callee:=.builtin .append,args:=#[s,x],argTypes:=#[t,tn]}) (vs vx:Value) (hs:a.eval s=vs) (hx:a.eval x=vx)
  (hk:∃v' w',(∀ty,(Builtin.append_ #[t,tn] ty #[vs,vx]).run P w=.ok v' w')/\R v' w') (h:∀v' w',R v' w'->wpList P eu Q rest (a.put o.dst v') w'):wpList P eu Q (o::rest) a w:=by
 obtain⟨v',w',hr,hR⟩:=hk
 exact Lib.wpList_append_run w wo s x t tn ho vs vx hs hx v' w' (hr _) (h v' w' hR)
theorem qa9{size n:Nat}(h:w.ownsRow 0 e size v n xs)(hn:0<n):∃g cap,v=.slice (some ⟨g,0,none⟩) n cap/\n<=cap/\cap<=maxLen:=by
 rcases h.2 with ⟨_,h0⟩|⟨g,cap,aH,rfl,_,_,h1,h2,_⟩
 ·omega
 ·exact⟨g,cap,rfl,h1,h2⟩
theorem Blk.new'(h:b=W.heap.size):Blk (W.alloc (.cells vs t)) b t vs:=by subst h;exact Blk.new W t vs
def qfa (e:TypeId)(size bytes:Nat):Prop:=∃i0 z,prog.info? e=some i0/\i0.zero=some z/\i0.size=size/\i0.bytes=bytes/\z.cells.size=size
theorem qge{size:Nat}(h1:(prog.info? e).map (fun i=>(i.size,i.bytes))=some (size,bytes))(h2:(prog.info? e).bind (fun i=>i.zero)=some z)(hz:z.cells.size=size):qfa e size bytes:=by
 cases h:prog.info? e with
 |none=>rw[h]at h1;cases h1
 |some i0 =>
  rw[h]at h1 h2;simp only[Option.map_some,Option.some.injEq,Prod.mk.injEq,Option.bind_some]at h1 h2
  exact⟨i0,z,h,h2,h1.1,h1.2,hz⟩
theorem i3a:(prog.info? 3).map (fun i=>(i.size,i.bytes))=some (1,8):=by kernel_rfl
theorem i3b:(prog.info? 3).bind (fun i=>i.zero)=some (.int .i64 0):=by kernel_rfl
theorem i59a:(prog.info? 60).map (fun i=>(i.size,i.bytes))=some (2,16):=by kernel_rfl
theorem i59b:(prog.info? 60).bind (fun i=>i.zero)=some (.agg #[.int .i64 0,.int .i64 0]):=by kernel_rfl
theorem inf3:qfa 3 1 8:=qge i3a i3b rfl
theorem q0e:qfa 60 2 16:=qge i59a i59b rfl
theorem un29:prog.underlying 25=some (.slice 3):=by kernel_rfl
structure AppR (W:World) (kd:Option Nat) (e:TypeId) (size n:Nat) (xs:List Value) (g cap:Nat) (w':World):Prop where
 le:n<=cap
 mx:cap<=maxLen
 own:w'.ownsRow 0 e size (.slice (some ⟨g,0,none⟩) n cap) n xs
 keep:Keep (fun b=>kd=some b) W w'
 new:kd=some g\/W.heap.size<=g
theorem qey{size:Nat}(ht:prog.underlying t=some (.slice e))(hi:qfa e size bytes)(cY:0<size)(W:World)(sl:Value)(n:Nat)(xs:List Value)(aG:W.ownsRow 0 e size sl n xs)
  (nb m c:Nat) (hm:0<n+m) (bM:List Value) (hl:bM.length=m*size) (dI:Blk W nb t' bM.toArray) (h1:∀u∈bM,u.oneCell'=true) (nH:n+m<=maxLen) (hb:(n+m)*bytes<=140737488355328) :
  ∃v' w',(∀ty,(Builtin.append_ #[t,t] ty #[sl,.slice (some ⟨nb,0,none⟩) m c]).run prog W=.ok v' w')/\∃g cap,v'=.slice (some ⟨g,0,none⟩) (n+m) cap/\AppR W sl.ownBlock e size (n+m) (xs++bM) g cap w':=by
 obtain⟨i0,z,h2,h3,h4,h5,h6⟩:=hi;obtain⟨v',w',hr,ho,dB,gT⟩:=qj1 (P:=prog) W t e i0 z size bytes ht h2 h3 h4 h5 h6 cY sl n xs aG ⟨nb,0,none⟩ m c hm bM hl
  (fun j u hu=>by rw[Addr.add_lit,Nat.zero_add,dI.cell];simpa using hu) h1 nH hb
 obtain⟨g',av,rfl,dn,ia⟩:=qa9 ho (by omega)
 refine⟨_,w',hr,g',av,rfl,dn,ia,ho,(Keep.refl _ _).grown dB (fun k hk=>hk),?_⟩
 rcases gT with e|⟨g2,e,h2⟩
 ·left;rw[<-e];rfl
 ·simp[Value.ownBlock]at e;subst e;exact .inr h2
theorem qxb{size:Nat}(ht:prog.underlying t=some (.slice e))(hi:qfa e size bytes)(cY:0<size)(W:World)(sl:Value)(n:Nat)(xs:List Value)(aG:W.ownsRow 0 e size sl n xs)
  (ad:Addr) (m c:Nat) (hm:0<n+m) (bM:List Value) (hl:bM.length=m*size) (dI:∀j u,bM[j]?=some u->W.cell? (ad.add j)=some u) (h1:∀u∈bM,u.oneCell'=true) (nH:n+m<=maxLen) (hb:(n+m)*bytes<=140737488355328) :
  ∃v' w',(∀ty,(Builtin.append_ #[t,t] ty #[sl,.slice (some ad) m c]).run prog W=.ok v' w')/\∃g cap,v'=.slice (some ⟨g,0,none⟩) (n+m) cap/\AppR W sl.ownBlock e size (n+m) (xs++bM) g cap w':=by
 obtain⟨i0,z,h2,h3,h4,h5,h6⟩:=hi;obtain⟨v',w',hr,ho,dB,gT⟩:=qj1 (P:=prog) W t e i0 z size bytes ht h2 h3 h4 h5 h6 cY sl n xs aG ad m c hm bM hl dI h1 nH hb;obtain⟨g',av,rfl,dn,ia⟩:=qa9 ho (by omega)
 refine⟨_,w',hr,g',av,rfl,dn,ia,ho,(Keep.refl _ _).grown dB (fun k hk=>hk),?_⟩
 rcases gT with e|⟨g2,e,h2⟩
 ·left;rw[<-e];rfl
 ·simp[Value.ownBlock]at e;subst e;exact .inr h2
theorem qaf{size n:Nat}(h:W.ownsRow 0 e size sl n xs)(hk:Keep T W W')(hT:∀g,sl.ownBlock=some g->¬T g):W'.ownsRow 0 e size sl n xs:=by
 obtain⟨hl,hr⟩:=h
 refine⟨hl,?_⟩
 rcases hr with hr|⟨g',av,aH,rfl,eQ,hg,rest⟩
 ·exact .inl hr
 ·exact .inr ⟨g',av,aH,rfl,eQ,(hk.block g' (xrc.1 hg).1 (hT g' rfl)).trans hg,rest⟩
theorem qap{size n:Nat}(h:W.ownsRow 0 e size sl n xs){g:Nat}(hg:sl.ownBlock=some g):g<W.heap.size:=by
 rcases h.2 with ⟨rfl,_⟩|⟨g',av,aH,rfl,eQ,cd,rest⟩
 ·cases hg
 ·simp[Value.ownBlock]at hg;subst hg;exact(xrc.1 cd).1
theorem bel2{p:Prop}(h:p:=by(repeat (first|(with_reducible exact Below.refl _ _)|(with_reducible assumption)|((with_reducible refine Below.setCell ?_ ?_ _);rotate_left;(focus (first|omega|(simp<;>omega))))|((with_reducible refine Below.alloc ?_ ?_ _);rotate_left;(focus (first|omega|(simp<;>omega))))|(with_reducible refine Below.drew ?_)|(with_reducible refine xrm ?_ _)|(refine qab ?_ (by with_reducible assumption))))):p:=h
theorem blk2{p:Prop}(h:p:=by(repeat (first|(with_reducible assumption)|((with_reducible refine Blk.new' ?_);simp;done)|(with_reducible refine Blk.alloc ?_ _)|(with_reducible refine Blk.drew ?_)|(with_reducible refine Blk.drewN ?_ _)))):p:=h
theorem blk3{p:Prop}(h:p:=by(repeat (first|(with_reducible assumption)|((with_reducible refine Blk.new' ?_);simp;done)|(with_reducible refine Blk.alloc ?_ _)|(with_reducible refine Blk.drew ?_)|(with_reducible refine Blk.drewN ?_ _)|((with_reducible refine Blk.other ?_ _ _ ?_);rotate_left;(focus (first|omega|(simp;done)|(simp;omega))))))):p:=h
theorem bel1{p:Prop}(h:p:=by(repeat (first|exact Below.refl _ _|refine qab ?_ (by assumption)|refine Below.setCell ?_ (by first|omega|(simp<;>omega)) _|refine Below.alloc ?_ (by first|omega|(simp<;>omega)) _|refine Below.drew ?_|refine xrm ?_ _))):p:=h
theorem blk1{p:Prop}(h:p:=by(repeat (first|assumption|(refine Blk.new' ?_;simp;done)|refine Blk.alloc ?_ _|refine Blk.drew ?_|refine Blk.drewN ?_ _))):p:=h
theorem qo1{size:Nat}(ht:prog.underlying t=some (.slice e))(hi:qfa e size bytes)(W:World)(base:Option Addr)(n cap:Nat)(hn:n<=cap)(x2:Option Addr)(c:Nat)(ty:TypeId):
  (Builtin.append_ #[t,t] ty #[.slice base n cap,.slice x2 0 c]).run prog W=.ok (.slice base n cap) W:=by
 obtain⟨i0,z,h2,h3,h4,h5,h6⟩:=hi
 cases base<;>cases x2<;>simp[Builtin.append_,run_underlying ht,sizeOf,typeInfo,h2,hn,Builtin.firstCells,Builtin.lenOf,storeCells,loadCells,loadCellsFrom]
structure AppO (W:World) (kd:Option Nat) (e:TypeId) (size n:Nat) (xs:List Value) (a:Option Addr) (cap:Nat) (w':World):Prop where
 le:n<=cap
 mx:cap<=maxLen
 own:w'.ownsRow 0 e size (.slice a n cap) n xs
 keep:Keep (fun b=>kd=some b) W w'
 new:∀b,(Value.slice a n cap).ownBlock=some b->kd=some b\/W.heap.size<=b
theorem qr1{size:Nat}(ht:prog.underlying t=some (.slice e))(hi:qfa e size bytes)(cY:0<size)(W:World)(a:Option Addr)(n cap:Nat)(hn:n<=cap)(ia:cap<=maxLen)(xs:List Value)(aG:W.ownsRow 0 e size (.slice a n cap) n xs)
  (x2:Option Addr) (m c:Nat) (bM:List Value) (hl:bM.length=m*size) (dI:0<m->∃ad,x2=some ad/\∀j u,bM[j]?=some u->W.cell? (ad.add j)=some u) (h1:∀u∈bM,u.oneCell'=true) (nH:n+m<=maxLen) (hb:(n+m)*bytes<=140737488355328) :
  ∃v' w',(∀ty,(Builtin.append_ #[t,t] ty #[.slice a n cap,.slice x2 m c]).run prog W=.ok v' w')/\∃a' av,v'=.slice a' (n+m) av/\AppO W (Value.slice a n cap).ownBlock e size (n+m) (xs++bM) a' av w':=by
 by_cases hm:m=0
 ·subst hm;have hz:bM=[]:=List.eq_nil_of_length_eq_zero (by simpa using hl);subst hz
  refine⟨_,W,fun ty=>qo1 ht hi W a n cap hn x2 c ty,a,cap,by simp,by simpa using hn,ia,by simpa using aG,Keep.refl _ _,fun b hb=>.inl (by simpa using hb)⟩
 ·obtain⟨ad,rfl,bm⟩:=dI (by omega);obtain⟨v',w',hr,g,av,rfl,R⟩:=qxb ht hi cY W _ n xs aG ad m c (by omega) bM hl bm h1 nH hb
  refine⟨_,w',hr,some ⟨g,0,none⟩,av,rfl,R.le,R.mx,R.own,R.keep,fun b hb=>?_⟩
  simp[Value.ownBlock]at hb
  subst hb
  exact R.new
def errP (l:List Bs)(first:Bs):Int:=if (l.all qar)=false then 1 else if first=[] then 2 else 0
theorem i9a:(prog.info? 9).map (fun i=>(i.size,i.bytes))=some (1,16):=by kernel_rfl
theorem i9b:(prog.info? 9).bind (fun i=>i.zero)=some (.string ⟨#[]⟩):=by kernel_rfl
theorem inf9:qfa 9 1 16:=qge i9a i9b rfl
theorem qzw:prog.underlying 46=some (.slice 9):=by kernel_rfl
theorem qh9(first:ByteArray)(v:Value)(l:List ByteArray)(cY:∀s∈l,s.size<=2000000)(hl:l.length<=100)(w:World)
  (cB:∃v' w',(∀ty,(Builtin.append_ #[46,46] ty #[v,.slice (some ⟨w.heap.size,0,none⟩) 1 1]).run prog (w.alloc (.cells #[.string first] 9))=.ok v' w')/\∃g cap,v'=.slice (some ⟨g,0,none⟩) l.length cap/\l.length<=cap/\cap<=maxLen/\g<w'.heap.size/\Below w.heap.size w w'/\∀(k:Nat) s,l[k]?=some s->w'.cell? ⟨g,k,none⟩=some (.string s)) :
  Calls prog 132 #[.string first,v] w fun e w'=>e=.returned (.int .i64 (errP (l.map bl) (bl first)))/\Below w.heap.size w w':=by
 have aA:=fun s (hs:s∈l) W=>qg9 s (cY s hs) W
 obtain⟨n,hn⟩:∃n,n=l.length:=⟨_,rfl⟩;rw[<-hn]at cB hl;have HN:Hid (n=l.length):=hn;clear hn
 go_enter func132,ntmps132
 go_wp2_with (at_builtin;refine qbd (by rfl) _ _ _ _ rfl _ _ rfl (by rfl) cB ?_;rintro v1 w1 ⟨g1,q1,rfl,dV,gU,me,au,bm⟩)
 clear cB
 go_loopw [12] (fun i wr=>∃k:Nat,k<=n/\i=.int .i64 k/\((l.map bl).take k).all qar=true/\Below w1.heap.size w1 wr) (fun i _=>n-(intOf i).toNat)
 case atStart=>exact⟨0,Nat.zero_le _,rfl,rfl,Below.refl _ _⟩
 case round =>
  obtain⟨k,hk,rfl,aC,ah⟩:=hrel;have HA:Hid (((l.map bl).take k).all qar=true):=aC;clear aC
  by_cases ak:k<n
  ·have bN:k<l.length:=by rw[<-HN.out];exact ak
   obtain⟨s,hs⟩:∃s,l[k]?=some s:=⟨_,xr1 bN⟩;have hc:=(ah.cell (p:=⟨g1,k,none⟩) me).trans (bm k s hs);have hv:=aA s (xr2 hs);have HT:Hid ((l.map bl).take (k+1)=(l.map bl).take k++[bl s]):=by
    show _=_
    rw[xrf (by simpa using bN)];rw[xr1 bN]at hs;cases hs;simp
   have HM:Hid (bl s∈l.map bl):=xrq.2 ⟨s,xr2 hs,rfl⟩;clear hs bm aA;have ja:(k:Int)<n:=by omega
   have eM:(0:Int)<=k:=by omega
   cases cU:qar (bl s)
   ·rw[cU]at hv
    go_wp2_with (go_at_call 62;refine(hv _).mono ?_;rintro e w2 ⟨rfl,ag⟩)
    go_ret
    have h1:errP (l.map bl) (bl first)=1:=by
     unfold errP
     exact if_pos (List.all_eq_false.2 ⟨_,HM.out,by simp[cU]⟩)
    exact⟨by rw[h1];rfl,qab (qab au ah) ag⟩
   ·rw[cU]at hv
    go_wp2_with (go_at_call 62;refine(hv _).mono ?_;rintro e w2 ⟨rfl,ag⟩)
    refine⟨⟨k+1,by omega,by go_num,?_,qab ah ag⟩,by simp[intOf];omega⟩
    rw[HT.out,List.all_append,HA.out]
    simp[cU]
  ·have aC:(l.map bl).all qar=true:=by
    have:=HA.out
    rwa[xrd (by simp;have:=HN.out;omega)]at this
   have HF:Hid (errP (l.map bl) (bl first)=if bl first=[] then 2 else 0):=by
    show _=_
    unfold errP;rw[aC];simp
   clear aC HA bm aA
   by_cases h0:bl first=[]
   ·have hz:first=⟨#[]⟩:=qd8 (h0.trans qhs.symm);have h1:errP (l.map bl) (bl first)=2:=by rw[HF.out,if_pos h0]
    subst hz;have H1:Hid (errP (l.map bl) (bl ⟨#[]⟩)=2):=h1;clear h1 HF h0
    go_wp2
    go_ret
    exact⟨by rw[H1.out];rfl,qab au ah⟩
   ·have hq:(first.toList.isEmpty)=false:=by rw[qb3];simpa using h0
    have h1:errP (l.map bl) (bl first)=0:=by rw[HF.out,if_neg h0]
    have H1:Hid (errP (l.map bl) (bl first)=0):=h1;clear h1 HF h0
    go_wp2
    go_ret
    exact⟨by rw[H1.out];rfl,qab au ah⟩
theorem qd1(first:ByteArray)(hs:first.size<=2000000)(w:World):Calls prog 132 #[.string first,.slice none 0 0] w fun e w'=>e=.returned (.int .i64 (errP [bl first] (bl first)))/\Below w.heap.size w w':=by
 refine qh9 first (.slice none 0 0) [first] (fun s h=>by simp at h;subst h;exact hs) (by simp) w ?_
 have hb:Blk (w.alloc (.cells #[.string first] 9)) w.heap.size 9 #[.string first]:=Blk.new w 9 _;obtain⟨v',w',hr,g,cap,rfl,R⟩:=qey qzw inf9 (by omega) (w.alloc (.cells #[.string first] 9)) (.slice none 0 0) 0 [] (xrk _ _ _ _) w.heap.size 1 1 (by omega) [.string first] rfl hb (fun u hu=>by simp at hu;subst hu;rfl) (by unfold maxLen;omega) (by omega)
 refine⟨_,w',hr,g,cap,rfl,R.le,R.mx,qap R.own rfl,?_,fun k s hk=>?_⟩
 ·have hk:=R.keep
  exact(((Below.refl _ _).alloc (Nat.le_refl _) _:Below w.heap.size w (w.alloc (.cells #[.string first] 9)))).trans ⟨hk.os,hk.tape,hk.output,hk.size,fun k cf=>hk.block k (by simp;omega) (by simp[Value.ownBlock])⟩
 ·have:=R.own.cells (g:=g) rfl k (.string s) (by
   cases k with
   |zero=>simp at hk;subst hk;rfl
   |succ k=>simp at hk)
  rwa[Addr.add_lit,Nat.zero_add]at this
theorem qk8(s:Bs):errP [s] s=if qar s=false then 1 else if s=[] then 2 else 0:=by
 unfold errP;simp
def qai (L:List Ent)(s:Bs):List Ent:=L.filter fun e=>e.leaf&&inB (qaa e.key) s
def es0 (l:List Ent):Int:=(l.map (·.n0)).sum
def es1 (l:List Ent):Int:=(l.map (·.n1)).sum
theorem qyn(l:List Ent)(h:∀n∈l,0<=n.n0/\n.n0<=1000):0<=es0 l/\es0 l<=1000*l.length:=by
 induction l with
 |nil=>simp[es0]
 |cons a l ih =>
  have h1:=ih (fun n hn=>h n (by simp[hn]));have h2:=h a (by simp)
  simp[es0]at h1 ⊢;omega
theorem qyo(l:List Ent)(h:∀n∈l,0<=n.n1/\n.n1<=1000):0<=es1 l/\es1 l<=1000*l.length:=by
 induction l with
 |nil=>simp[es1]
 |cons a l ih =>
  have h1:=ih (fun n hn=>h n (by simp[hn]));have h2:=h a (by simp)
  simp[es1]at h1 ⊢;omega
structure Ents (L:List Ent):Prop where
 ok:∀e∈L,qbx e.key=true/\e.key.length<=4
 num:∀e∈L,(0<=e.n0/\e.n0<=1000)/\(0<=e.n1/\e.n1<=1000)
 len:L.length<=20
 pos:0<L.length
structure Wk where
 num:Int
 key:List Bs
 d0:Int
 d1:Int
 st:Int
variable {Ws:List Wk}{x:Wk}
structure Wks (Ws:List Wk):Prop where
 ok:∀x∈Ws,qbx x.key=true/\x.key.length<=4
 num:∀x∈Ws,(0<=x.d0/\x.d0<=1000)/\(0<=x.d1/\x.d1<=1000)
 len:Ws.length<=24
def qae (Ws:List Wk)(s:Bs):List Wk:=Ws.filter fun x=>decide (0<x.st)&&inB (qaa x.key) s
def ws0 (l:List Wk):Int:=(l.map (·.d0)).sum
def ws1 (l:List Wk):Int:=(l.map (·.d1)).sum
theorem qur(l:List Wk)(h:∀n∈l,0<=n.d0/\n.d0<=1000):0<=ws0 l/\ws0 l<=1000*l.length:=by
 induction l with
 |nil=>simp[ws0]
 |cons a l ih =>
  have h1:=ih (fun n hn=>h n (xru _ hn));have h2:=h a (List.mem_cons_self ..)
  simp[ws0]at h1 ⊢;omega
theorem qus(l:List Wk)(h:∀n∈l,0<=n.d1/\n.d1<=1000):0<=ws1 l/\ws1 l<=1000*l.length:=by
 induction l with
 |nil=>simp[ws1]
 |cons a l ih =>
  have h1:=ih (fun n hn=>h n (xru _ hn));have h2:=h a (List.mem_cons_self ..)
  simp[ws1]at h1 ⊢;omega
theorem qyf(h:Wks Ws)(s:Bs):(0<=ws0 (qae Ws s)/\ws0 (qae Ws s)<=24000)/\(0<=ws1 (qae Ws s)/\ws1 (qae Ws s)<=24000):=by
 have aD:∀e∈qae Ws s,e∈Ws:=fun e he=>(xrr.1 he).1
 have a9:(qae Ws s).length<=24:=Nat.le_trans (xrh _ _) h.len;have s0:=qur (qae Ws s) (fun e he=>(h.num e (aD e he)).1);have s1:=qus (qae Ws s) (fun e he=>(h.num e (aD e he)).2)
 omega
def sh0 (L:List Ent)(Ws:List Wk)(x:Ent)(d:Int):Bool:=decide (ws0 (qae Ws (qaa x.key))+d>es0 (qai L (qaa x.key))+x.b0)
def sh1 (L:List Ent)(Ws:List Wk)(x:Ent)(d:Int):Bool:=decide (ws1 (qae Ws (qaa x.key))+d>es1 (qai L (qaa x.key))+x.b1)
theorem qiu(E:Ents L)(s:Bs):(0<=es0 (qai L s)/\es0 (qai L s)<=20000)/\(0<=es1 (qai L s)/\es1 (qai L s)<=20000):=by
 have aD:∀e∈qai L s,e∈L:=fun e he=>(xrr.1 he).1
 have a9:(qai L s).length<=20:=Nat.le_trans (xrh _ _) E.len;have s0:=qyn (qai L s) (fun e he=>(E.num e (aD e he)).1);have s1:=qyo (qai L s) (fun e he=>(E.num e (aD e he)).2)
 omega
def ownW (L:List Ent)(Ws:List Wk)(x:Wk):Bool:=decide (ws0 (qae Ws (qaa x.key))+x.d0<=es0 (qai L (qaa x.key)))&&decide (ws1 (qae Ws (qaa x.key))+x.d1<=es1 (qai L (qaa x.key)))
def tight(L:List Ent)(Ws:List Wk)(x:Wk)(e:Ent):Bool:=inB (qaa x.key) (qaa e.key)&&(sh0 L Ws e x.d0||sh1 L Ws e x.d1)
def qbv (L:List Ent)(Ws:List Wk)(x:Wk):Bool:=L.all fun e=>!tight L Ws x e
def qer (Ws:List Wk)(i:Nat)(x:Wk):Bool:=(x.st == 0)&&(Ws.take i).all fun y=>decide (0<y.st)||decide (y.key≠x.key)
def qmj (Ws:List Wk)(i:Nat):Bool:=match Ws[i]? with|some x=>qer Ws i x|none=>false
def qnx (Ws:List Wk)(k:Nat):List Nat:=(List.range k).filter (qmj Ws)
def qf4 (Ws:List Wk):List Nat:=qnx Ws Ws.length
theorem qfq{size n:Nat}(h:W.ownsRow B e size sl n xs)(hb:Below W.heap.size W W'):W'.ownsRow B e size sl n xs:=by
 obtain⟨hl,hr⟩:=h
 refine⟨hl,?_⟩
 rcases hr with hr|⟨g',av,aH,rfl,eQ,hg,rest⟩
 ·exact .inl hr
 ·exact .inr ⟨g',av,aH,rfl,eQ,(hb.block g' (xrc.1 hg).1).trans hg,rest⟩
def Wk.adm(x:Wk)(st:Int):Wk:={x with st:=st}
def way0 (L:List Ent)(Ws:List Wk)(x v:Wk)(e:Ent):Bool:=inB (qaa x.key) (qaa e.key)&&(inB (qaa v.key) (qaa e.key)&&(sh0 L Ws e x.d0&&(decide (ws0 (qae Ws (qaa v.key))>es0 (qai L (qaa v.key)))&&decide (v.d0>0))))
def way1 (L:List Ent)(Ws:List Wk)(x v:Wk)(e:Ent):Bool:=inB (qaa x.key) (qaa e.key)&&(inB (qaa v.key) (qaa e.key)&&(sh1 L Ws e x.d1&&(decide (ws1 (qae Ws (qaa v.key))>es1 (qai L (qaa v.key)))&&decide (v.d1>0))))
def way (L:List Ent)(Ws:List Wk)(x v:Wk):Bool:=L.any fun e=>way0 L Ws x v e||way1 L Ws x v e
def stAt (Ws:List Wk)(k:Nat):Int:=match Ws[k]? with|some x=>x.st|none=>0
def qrf (Ws:List Wk)(fT:Option Nat)(v:Wk):Bool:=(v.st == 0)||(match fT with|some b=>decide (v.st<stAt Ws b)|none=>false)
def qwn (L:List Ent)(Ws:List Wk)(x:Wk)(fT:Option Nat)(k:Nat):Option Nat :=
 match Ws[k]? with
 |some v=>if qrf Ws fT v then fT else if way L Ws x v then some k else fT
 |none=>fT
def qdd (L:List Ent)(Ws:List Wk)(x:Wk)(n:Nat):Option Nat:=(List.range n).foldl (qwn L Ws x) none
def qda (L:List Ent)(Ws:List Wk)(x:Wk):Option Nat:=qdd L Ws x Ws.length
theorem qha(L:List Ent)(Ws:List Wk)(x:Wk)(n:Nat):qdd L Ws x (n+1)=qwn L Ws x (qdd L Ws x n) n:=by
 unfold qdd;rw[List.range_succ,List.foldl_append]
 rfl
structure WkS (Ws:List Wk) (st:Int):Prop where
 wks:Wks Ws
 nums:(Ws.map (·.num)).Nodup
 st:∀x∈Ws,0<=x.st/\x.st<=st
 sts:((Ws.filter fun x=>decide (0<x.st)).map (·.st)).Nodup
theorem qrz(x:Wk)(t:Int):(x.adm t).key=x.key:=rfl
theorem Wks.set(h:Wks Ws)(hi:Ws[i]?=some x)(t:Int):Wks (Ws.set i (x.adm t)):=by
 have hx:=xr2 hi
 refine⟨fun y hy=>?_,fun y hy=>?_,by rw[List.length_set];exact h.len⟩
 ·rcases List.mem_or_eq_of_mem_set hy with hy|rfl
  ·exact h.ok y hy
  ·exact h.ok x hx
 ·rcases List.mem_or_eq_of_mem_set hy with hy|rfl
  ·exact h.num y hy
  ·exact h.num x hx
theorem qbn(hi:Ws[i]?=some x):Ws.Perm (x::(Ws.take i++Ws.drop (i+1))):=by
 have ak:=(xr0.1 hi).1;have h1:Ws=Ws.take i++x::Ws.drop (i+1):=by
  conv=>lhs;rw[<-List.take_append_drop i Ws]
  rw[List.drop_eq_getElem_cons ak];rw[xr1 ak]at hi;cases hi;rfl
 conv=>lhs;rw[h1]
 exact List.perm_middle
theorem Wks.qjs(h:Wks Ws)(hi:Ws[i]?=some x)(t:Int):Wks (x.adm t::(Ws.take i++Ws.drop (i+1))):=by
 have hp:=qbn hi;have hx:=xr2 hi;have aD:∀y∈Ws.take i++Ws.drop (i+1),y∈Ws:=fun y hy=>hp.mem_iff.2 (xru _ hy)
 have a9:=hp.length_eq
 refine⟨fun y hy=>?_,fun y hy=>?_,by have:=h.len;simp at a9 ⊢;omega⟩
 ·rcases List.mem_cons.1 hy with rfl|hy
  ·exact h.ok x hx
  ·exact h.ok y (aD y hy)
 ·rcases List.mem_cons.1 hy with rfl|hy
  ·exact h.num x hx
  ·exact h.num y (aD y hy)
def admN (Ws:List Wk):Nat:=(Ws.filter fun x=>decide (0<x.st)).length
theorem qj0(hi:Ws[i]?=some x)(hx:0<x.st):admN (x.adm 0::(Ws.take i++Ws.drop (i+1)))+1=admN Ws:=by
 have hp:=(qbn hi).filter fun x=>decide (0<x.st)
 have h1:=hp.length_eq;unfold admN;rw[h1,xrz,xrz]
 simp[Wk.adm,hx]
theorem WkS.qjs(h:WkS Ws st)(hi:Ws[i]?=some x):WkS (x.adm 0::(Ws.take i++Ws.drop (i+1))) st:=by
 have hp:=qbn hi;have hx:=xr2 hi;have aD:∀y∈Ws.take i++Ws.drop (i+1),y∈Ws:=fun y hy=>hp.mem_iff.2 (xru _ hy)
 refine⟨h.wks.qjs hi 0,?_,fun y hy=>?_,?_⟩
 ·have h1:=((hp.map (·.num)).nodup_iff).1 h.nums
  exact h1
 ·rcases List.mem_cons.1 hy with rfl|hy
  ·exact⟨Int.le_refl 0,Int.le_trans (h.st x hx).1 (h.st x hx).2⟩
  ·exact h.st y (aD y hy)
 ·have h1:=(((hp.filter fun x=>decide (0<x.st)).map (·.st)).nodup_iff).1 h.sts;rw[xrz]at h1 ⊢;simp only[show decide (0<(x.adm 0).st)=false from rfl,Bool.false_eq_true,if_false]
  split at h1
  ·simp only[List.map_cons,List.nodup_cons]at h1;exact h1.2
  ·exact h1
theorem WkS.admit(h:WkS Ws st)(h0:0<=st)(hi:Ws[i]?=some x)(jY:x.st=0):WkS (Ws.set i (x.adm (st+1))) (st+1):=by
 have ak:=(xr0.1 hi).1;have eN:Ws.set i (x.adm (st+1))=Ws.take i++x.adm (st+1)::Ws.drop (i+1):=List.set_eq_take_append_cons_drop .. |>.trans (by rw[if_pos ak]);have hp:=qbn hi;have hx:=xr2 hi
 refine⟨h.wks.set hi _,?_,fun y hy=>?_,?_⟩
 ·have h1:((Ws.set i (x.adm (st+1))).map (·.num))=Ws.map (·.num):=by
   rw[List.map_set]
   apply List.ext_getElem?
   intro j;rw[List.getElem?_set]
   split
   ·rename_i e;subst e
    rw[if_pos (by simpa using ak),xrs,hi];rfl
   ·rfl
  rw[h1];exact h.nums
 ·rcases List.mem_or_eq_of_mem_set hy with hy|rfl
  ·have:=h.st y hy;omega
  ·simp[Wk.adm];omega
 ·have hq:(Ws.set i (x.adm (st+1))).Perm (x.adm (st+1)::(Ws.take i++Ws.drop (i+1))):=by rw[eN];exact List.perm_middle
  refine(((hq.filter fun x=>decide (0<x.st)).map (·.st)).nodup_iff).2 ?_
  have h1:=(((hp.filter fun x=>decide (0<x.st)).map (·.st)).nodup_iff).1 h.sts;rw[xrz]at h1 ⊢;rw[if_neg (by simp[jY])]at h1;rw[if_pos (show decide (0<(x.adm (st+1)).st)=true from decide_eq_true (show(0:Int)<st+1 by omega))];simp only[List.map_cons,List.nodup_cons]
  refine⟨fun hm=>?_,h1⟩
  obtain⟨y,hy,he⟩:=xrq.1 hm;have j_:=hp.mem_iff.2 (xru _ (xrr.1 hy).1)
  have:=(h.st y j_).2
  simp[Wk.adm]at he
  omega
theorem qbh(L:List Ent)(Ws:List Wk)(x:Wk):∀n b,qdd L Ws x n=some b->∃v,Ws[b]?=some v/\v.st≠0/\way L Ws x v=true
 |0,b,h=>by simp[qdd]at h
 |n+1,b,h=>by
  rw[qha]at h;unfold qwn at h
  split at h
  ·rename_i v hv
   split at h
   ·exact qbh L Ws x n b h
   ·rename_i hs
    split at h
    ·rename_i hw
     simp at h;subst h
     refine⟨v,hv,fun e=>hs ?_,hw⟩
     unfold qrf;simp[e]
    ·exact qbh L Ws x n b h
  ·exact qbh L Ws x n b h
structure MS where
 Ws:List Wk
 evs:List (Int×Int)
def qa3 (L:List Ent)(x:Wk)(s:MS):Option MS :=
 if qbv L s.Ws x then none else match qda L s.Ws x with
  |none=>none
  |some i=>match s.Ws[i]? with
   |some v=>some ⟨v.adm 0::(s.Ws.take i++s.Ws.drop (i+1)),s.evs++[(2,v.num)]⟩
   |none=>none
def room (L:List Ent)(x:Wk):Nat->MS->MS
 |0,s=>s
 |n+1,s=>match qa3 L x s with
  |none=>s
  |some s'=>room L x n s'
theorem qfp{s s':MS}(hS:WkS s.Ws st)(h:qa3 L x s=some s'):admN s'.Ws+1=admN s.Ws/\WkS s'.Ws st/\s'.Ws.length=s.Ws.length:=by
 unfold qa3 at h
 split at h
 ·cases h
 ·split at h
  ·cases h
  ·rename_i i hi
   obtain⟨v,hv,h0,_⟩:=qbh L s.Ws x _ i hi;rw[hv]at h
   simp at h
   subst h
   have:=(hS.st v (xr2 hv)).1
   have hl:=(qbn hv).length_eq
   exact⟨qj0 hv (by omega),hS.qjs hv,by simp at hl ⊢;omega⟩
def shr (u d n al:Int):Int×Int:=if al=0\/u+d-n<0 then(0,1) else(u+d-n,al)
def better(a b:Int×Int):Int×Int:=if a.1*b.2<b.1*a.2 then b else a
def qbg (L:List Ent)(Ws:List Wk)(x:Wk):Int×Int :=
 better (better (0,1) (shr (ws0 (qae Ws (qaa x.key))) x.d0 (es0 (qai L (qaa x.key))) (es0 (qai L [])))) (shr (ws1 (qae Ws (qaa x.key))) x.d1 (es1 (qai L (qaa x.key))) (es1 (qai L [])))
structure SS where
 Ws:List Wk
 st:Int
 evs:List (Int×Int)
variable {s s':SS}
def qeu (Ws:List Wk)(b:Nat):Bs:=match Ws[b]? with|some y=>qaa y.key|none=>[]
def qxx (Ws:List Wk)(b:Nat):Int:=match Ws[b]? with|some y=>y.num|none=>0
def qc3 (L:List Ent)(Ws:List Wk)(fT:Option Nat)(i:Nat):Option Nat :=
 match Ws[i]? with
 |some x=>if ownW L Ws x&&(match fT with|none=>true|some b=>Op.bytesLess (qaa x.key) (qeu Ws b)) then some i else fT
 |none=>fT
def qw3 (L:List Ent)(Ws:List Wk)(l:List Nat):Option Nat:=l.foldl (qc3 L Ws) none
def qlr (L:List Ent)(Ws:List Wk):Option Nat:=qw3 L Ws (qf4 Ws)
def qd7 (Ws:List Wk)(n t:Int):List Wk:=Ws.map fun y=>if y.num=n then y.adm t else y
def qdz (L:List Ent)(x:Wk)(s:SS):SS :=
 ⟨qd7 (room L x (admN s.Ws) ⟨s.Ws,s.evs⟩).Ws x.num (s.st+1),s.st+1,(room L x (admN s.Ws) ⟨s.Ws,s.evs⟩).evs++[(1,x.num)]⟩
def qbc (L:List Ent)(s:SS):Option SS :=
 match qlr L s.Ws with
 |none=>none
 |some b=>match s.Ws[b]? with
  |none=>none
  |some x=>some (qdz L x s)
def qej (a b:Int×Int):Bool:=decide (a.1*b.2<b.1*a.2)
def qb5 (L:List Ent)(Ws:List Wk)(pD:Option Nat×(Int×Int))(i:Nat):Option Nat×(Int×Int) :=
 match Ws[i]? with
 |none=>pD
 |some x=>if qbv L Ws x then
   (if (match pD.1 with|none=>true|some b=>qej (qbg L Ws x) pD.2||(!qej pD.2 (qbg L Ws x)&&decide (x.num<qxx Ws b))) then(some i,qbg L Ws x) else pD)
  else pD
def qwu (L:List Ent)(Ws:List Wk)(l:List Nat):Option Nat×(Int×Int):=l.foldl (qb5 L Ws) (none,(0,0))
def qdm (L:List Ent)(Ws:List Wk):Option Nat:=(qwu L Ws (qf4 Ws)).1
def qf5 (b:Nat)(x:Wk)(s:SS):SS:=⟨s.Ws.set b (x.adm (s.st+1)),s.st+1,s.evs++[(1,x.num)]⟩
def qat (L:List Ent)(s:SS):Option SS :=
 match qdm L s.Ws with
 |none=>none
 |some b=>match s.Ws[b]? with
  |none=>none
  |some x=>some (qf5 b x s)
def qbf (f:SS->Option SS):Nat->SS->SS
 |0,s=>s
 |n+1,s=>match f s with
  |none=>s
  |some s'=>qbf f n s'
def qcn (L:List Ent)(s:SS):SS:=qbf (qbc L) s.Ws.length s
def qal (L:List Ent)(s:SS):SS:=qbf (qat L) s.Ws.length (qcn L s)
theorem qkj{f:SS->Option SS}(h:f s=none):∀n,qbf f n s=s
 |0=>rfl
 |n+1=>by simp only[qbf,h]
theorem qki{f:SS->Option SS}(h:f s=some s')(n:Nat):qbf f (n+1) s=qbf f n s':=by simp only[qbf,h]
theorem qhf{f:SS->Option SS}{I:SS->Prop}{m:SS->Nat}(hI:∀s s',I s->f s=some s'->I s'/\m s'<m s):∀(n:Nat) (s:SS),I s->m s<=n->f (qbf f n s)=none
 |0,s,h,hn=>by
  simp only[qbf]
  cases he:f s with
  |none=>rfl
  |some s'=>have:=(hI s s' h he).2;omega
 |n+1,s,h,hn=>by
  simp only[qbf]
  cases he:f s with
  |none=>exact he
  |some s' =>
   have:=hI s s' h he
   exact qhf hI n s' this.1 (by omega)
theorem qdv{f:SS->Option SS}{I:SS->Prop}(hI:∀s s',I s->f s=some s'->I s'):∀(n:Nat) (s:SS),I s->I (qbf f n s)
 |0,s,h=>h
 |n+1,s,h=>by
  simp only[qbf]
  cases he:f s with
  |none=>exact h
  |some s'=>exact qdv hI n s' (hI s s' h he)
def Anti (Ws:List Wk):Prop:=∀x∈Ws,∀y∈Ws,inB (qaa x.key) (qaa y.key)=true->x.key=y.key
theorem qe8{a b:List Wk}(h:a.Perm b):ws0 a=ws0 b:=by
 unfold ws0
 induction h with
 |nil=>rfl
 |cons x _ ih=>simp[ih]
 |swap x y l=>simp;omega
 |trans _ _ h1 h2=>exact h1.trans h2
theorem qe9{a b:List Wk}(h:a.Perm b):ws1 a=ws1 b:=by
 unfold ws1
 induction h with
 |nil=>rfl
 |cons x _ ih=>simp[ih]
 |swap x y l=>simp;omega
 |trans _ _ h1 h2=>exact h1.trans h2
theorem qjn{v:Wk}(hi:Ws[i]?=some v)(hv:0<v.st)(k:Bs):
  ws0 (qae Ws k)=ws0 (qae (v.adm 0::(Ws.take i++Ws.drop (i+1))) k)+(if inB (qaa v.key) k then v.d0 else 0)/\ws1 (qae Ws k)=ws1 (qae (v.adm 0::(Ws.take i++Ws.drop (i+1))) k)+(if inB (qaa v.key) k then v.d1 else 0):=by
 have hp:=(qbn hi).filter fun x=>decide (0<x.st)&&inB (qaa x.key) k
 have h0:=qe8 hp;have h1:=qe9 hp;unfold qae;rw[h0,h1,xrz,xrz];rw[show(decide (0<(v.adm 0).st)&&inB (qaa (v.adm 0).key) k)=false from by simp[Wk.adm]];rw[show(decide (0<v.st)&&inB (qaa v.key) k)=inB (qaa v.key) k from by simp[hv]]
 cases inB (qaa v.key) k<;>simp[ws0,ws1]<;>omega
theorem qfu(hi:Ws[i]?=some x)(hx:x.st=0){t:Int}(ht:0<t)(k:Bs):
  ws0 (qae (Ws.set i (x.adm t)) k)=ws0 (qae Ws k)+(if inB (qaa x.key) k then x.d0 else 0)/\ws1 (qae (Ws.set i (x.adm t)) k)=ws1 (qae Ws k)+(if inB (qaa x.key) k then x.d1 else 0):=by
 have ak:=(xr0.1 hi).1;have eN:Ws.set i (x.adm t)=Ws.take i++x.adm t::Ws.drop (i+1):=List.set_eq_take_append_cons_drop .. |>.trans (by rw[if_pos ak]);have hq:(Ws.set i (x.adm t)).Perm (x.adm t::(Ws.take i++Ws.drop (i+1))):=by rw[eN];exact List.perm_middle
 have hp:=(qbn hi).filter fun x=>decide (0<x.st)&&inB (qaa x.key) k
 have jT:=hq.filter fun x=>decide (0<x.st)&&inB (qaa x.key) k
 unfold qae;rw[qe8 hp,qe9 hp,qe8 jT,qe9 jT,xrz,xrz];rw[show(decide (0<(x.adm t).st)&&inB (qaa (x.adm t).key) k)=inB (qaa x.key) k from by simp[Wk.adm,ht]];rw[show(decide (0<x.st)&&inB (qaa x.key) k)=false from by simp[hx]]
 cases inB (qaa x.key) k<;>simp[ws0,ws1,Wk.adm]<;>omega
def qaz (Ws:List Wk)(k:List Bs):Option Wk:=Ws.find? fun y=>(y.st == 0)&&decide (y.key=k)
def qek (L:List Ent)(Ws:List Wk)(k:List Bs):Bool:=match qaz Ws k with|some h=>ownW L Ws h|none=>false
def mOwn (L:List Ent)(Ws:List Wk):Nat:=(Ws.filter fun x=>(x.st == 0)&&qek L Ws x.key).length
def qi4 (Ws:List Wk):Nat:=(Ws.filter fun x=>x.st == 0).length
theorem qtb(L:List Ent)(Ws:List Wk):mOwn L Ws<=Ws.length:=xrh _ _
theorem qpj(Ws:List Wk):qi4 Ws<=Ws.length:=xrh _ _
theorem qaj{k:List Bs}(h:qaz Ws k=some x):x∈Ws/\x.st=0/\x.key=k:=by
 have h1:=List.find?_some h;have h2:=List.mem_of_find?_eq_some h
 simp at h1
 exact⟨h2,h1.1,h1.2⟩
theorem qch(hS:∀x∈Ws,0<=x.st)(hi:Ws[i]?=some x)(h:qer Ws i x=true):qaz Ws x.key=some x:=by
 have ak:=(xr0.1 hi).1;have h1:Ws=Ws.take i++x::Ws.drop (i+1):=by
  conv=>lhs;rw[<-List.take_append_drop i Ws]
  rw[List.drop_eq_getElem_cons ak];rw[xr1 ak]at hi;cases hi;rfl
 unfold qer at h;simp only[Bool.and_eq_true,beq_iff_eq,List.all_eq_true,Bool.or_eq_true,decide_eq_true_eq]at h;unfold qaz;rw[h1,List.find?_append];rw[List.find?_eq_none.2 (fun y hy=>by
  have:=h.2 y hy
  have h0:=hS y (List.mem_of_mem_take hy)
  simp;intro h3
  rcases this with h4|h4
  ·omega
  ·exact h4)]
 simp[h.1]
theorem qfy{α β : Type}{f : α -> β}{l:List α}(hn:(l.map f).Nodup){x y : α}(hi:l[i]?=some x)(hj:l[j]?=some y)(e:f x=f y):i=j:=by
 obtain⟨h1,h2⟩:=xr0.1 hi
 refine(List.getElem?_inj (l:=l.map f) (by simpa using h1) hn).1 ?_
 rw[xrs,xrs,hi,hj]
 simp[e]
theorem qiy(h:qmj Ws i=true):∃x,Ws[i]?=some x/\qer Ws i x=true:=by
 unfold qmj at h
 split at h
 ·rename_i x hx;exact⟨x,hx,h⟩
 ·cases h
theorem qke(h:i∈qf4 Ws):i<Ws.length/\qmj Ws i=true:=by
 unfold qf4 qnx at h;rw[xrr,List.mem_range]at h
 exact h
theorem qjw(L:List Ent)(Ws:List Wk)(a:Option Nat)(i:Nat):qc3 L Ws a i=a\/(qc3 L Ws a i=some i/\∃x,Ws[i]?=some x/\ownW L Ws x=true):=by
 unfold qc3
 cases hx:Ws[i]? with
 |none=>exact .inl rfl
 |some x =>
  simp only
  generalize (match a with|none=>true|some b=>Op.bytesLess (qaa x.key) (qeu Ws b))=c
  cases ho:ownW L Ws x<;>cases c
  ·exact .inl rfl
  ·exact .inl rfl
  ·exact .inl rfl
  ·exact .inr ⟨rfl,x,rfl,ho⟩
theorem qka(L:List Ent)(Ws:List Wk):∀(l:List Nat) (a:Option Nat) (b:Nat),l.foldl (qc3 L Ws) a=some b->a=some b\/(b∈l/\∃x,Ws[b]?=some x/\ownW L Ws x=true)
 | [],a,b,h=>.inl h
 |i::l,a,b,h=>by
  rw[List.foldl_cons]at h
  rcases qka L Ws l _ b h with h1|⟨h1,h2⟩
  ·rcases qjw L Ws a i with h3|⟨h3,h4⟩
   ·rw[h3]at h1;exact .inl h1
   ·rw[h3]at h1;cases h1;exact .inr ⟨List.mem_cons_self ..,h4⟩
  ·exact .inr ⟨xru _ h1,h2⟩
theorem qje{l:List Nat}(h:qw3 L Ws l=some b):b∈l/\∃x,Ws[b]?=some x/\ownW L Ws x=true:=by
 rcases qka L Ws l none b h with h1|h1
 ·cases h1
 ·exact h1
theorem qhj(h:qlr L Ws=some b):∃x,Ws[b]?=some x/\qer Ws b x=true/\ownW L Ws x=true:=by
 obtain⟨h1,x,hx,ho⟩:=qje h;obtain⟨y,hy,hh⟩:=qiy (qke h1).2;rw[hx]at hy;cases hy
 exact⟨x,hx,hh,ho⟩
def qtl (L:List Ent)(Ws:List Wk)(k:List Bs):Prop:=ws0 (qae Ws (qaa k))>es0 (qai L (qaa k))\/ws1 (qae Ws (qaa k))>es1 (qai L (qaa k))
theorem qpv{v:Wk}(h:way L Ws x v=true):qtl L Ws v.key:=by
 unfold way at h;rw[xs0]at h;obtain⟨e,_,he⟩:=h;rw[Bool.or_eq_true]at he;unfold way0 way1 at he;simp only[Bool.and_eq_true,decide_eq_true_eq]at he
 rcases he with ⟨_,_,_,h1,_⟩|⟨_,_,_,h1,_⟩
 ·exact .inl h1
 ·exact .inr h1
theorem qh2(hx:0<=x.d0/\0<=x.d1)(h:ownW L Ws x=true):¬qtl L Ws x.key:=by
 unfold ownW at h;simp only[Bool.and_eq_true,decide_eq_true_eq]at h
 rintro(h1|h1)<;>omega
end Go.Proofs.YtphclnolomgjoaaGreatDoor
