import Derived.Test.YtphclnolomgjoaaGreatDoorC03
import Derived.Lib.AppendZeros
import Derived.ArgAppend
set_option linter.unusedVariables false
set_option linter.unusedSimpArgs false
set_option maxRecDepth 100000
set_option maxHeartbeats 4000000
namespace Go.Proofs.YtphclnolomgjoaaGreatDoor
open Tryz
open Go.RowKit
variable {nodes:List Node}{n r:Node}{k:List Bs}{P:Program}{W W' w w':World}{e t':TypeId}{b br bw bytes cA cB cap i j size:Nat}{bL bO cC cd cy sl v v1 v2 v3 z:Value}{es ns xs:List Value}{vs:Array Value}{T:Nat->Prop}{aA aB:Option Addr}{me ms:List Int}
def findKey(nodes:List Node)(k:List Bs):Option Node:=nodes.find? fun n=>n.key == k
theorem qdp(T:Tree nodes)(hn:n∈nodes)(hk:n.key=k):findKey nodes k=some n:=by
 unfold findKey
 cases h:nodes.find? fun n=>n.key == k with
 |none=>have:=List.find?_eq_none.1 h n hn;simp[hk]at this
 |some m =>
  have h1:=List.mem_of_find?_eq_some h;have h2:=List.find?_some h
  simp at h2
  rw[T.inj m h1 n hn (by rw[h2,hk])]
theorem qkz(h:∀n∈nodes,n.key≠k):findKey nodes k=none:=by
 unfold findKey;rw[List.find?_eq_none];intro n hn;simpa using h n hn
theorem qbw(h:findKey nodes k=some n):n∈nodes/\n.key=k:=by
 unfold findKey at h
 exact⟨List.mem_of_find?_eq_some h,by have:=List.find?_some h;simpa using this⟩
def errIn(nodes:List Node)(k:List Bs):Int:=match findKey nodes k with
 |none=>3
 |some p=>if p.leaf then 5 else if 20<=nodes.length then 7 else 0
def qbc (nodes:List Node)(s:Bs)(ok:Bool):Int :=
 if qar s=false then 1 else if s=[] then 2 else if ok=false then 6 else if 4<qdm s then 8
 else if (findKey nodes (qaa s)).isSome then 4 else errIn nodes (qaa s).dropLast
theorem qpf(s a b:Bs)(hv:qar s=true)(hs:s≠[])(h:(¬qhd s/\a=[]/\b=s)\/(s=a++47::b/\¬qhd b)):
  qaa s=qaa a++[b]/\a.length<=s.length:=by
 rcases h with ⟨h1,rfl,rfl⟩|⟨h1,h2⟩
 ·exact⟨by simp only[qaa,hs,if_false,if_true];rw[qcp _ h1];rfl,by simp⟩
 ·have h3:splitB s=splitB a++[b]:=by rw[h1,qca,qcp _ h2]
  have ha:a≠[]:=fun e=>by
   subst e
   have:qaa s=splitB s:=by simp[qaa,hs]
   rw[qba,this,h3]at hv
   have:=qbz hv (n:=[]) (by simp[splitB])
   simp[qbd]at this
  exact⟨by simp only[qaa,hs,ha,if_false];exact h3,by rw[h1];simp⟩
def qrg (s:ByteArray)(e:Ending):Prop:=∃a b:ByteArray,e=.returned (.tuple #[.string a,.string b])/\qaa (bl s)=qaa (bl a)++[bl b]/\a.size<=s.size
theorem qih(s:ByteArray)(hs:s.size<=2000000)(hv:qar (bl s)=true)(aW:bl s≠[])(w:World):
  Cl 81 #[.string s] w fun e w'=>qrg s e/\Bw w w':=by
 refine(qqy s w hs).mono ?_
 rintro e w' ⟨⟨a,b,rfl,h⟩,n,rfl⟩
 have:=qpf (bl s) (bl a) (bl b) hv aW h
 exact⟨⟨a,b,rfl,this.1,by have h2:=this.2;rw[qb4,qb4]at h2;exact h2⟩,xrm (Below.refl _ _) n⟩
def qb3 (l:List (Int×Int)):Bool:=l.all fun x=>qao x.1 x.2
theorem qi1(vb c:Nat)(l:List (Int×Int))(hl:l.length<=100)(w:World)(hb:vb<w.heap.size)
  (hc:∀(j:Nat) (x:Int×Int),l[j]?=some x->w.cell? (vA vb (j*2))=some (vI x.1)/\w.cell? (vA vb (j*2+1))=some (vI x.2)) :
  Cl 133 #[vS vb l.length c] w fun e w'=>e=.returned (.bool (qb3 l))/\Bw w w':=by
 obtain⟨L,hL⟩:∃L,L=l.length:=⟨_,rfl⟩;rw[<-hL];rw[<-hL]at hl;have HL:Hid (L=l.length):=hL;clear hL
 go_enter func133,ntmps133
 go_wp2
 go_loopw [7] (fun i wr=>∃k:Nat,k<=L/\i=vI k/\qb3 (l.take k)=true/\Bw w wr) (fun i _=>L-(intOf i).toNat)
 case atStart=>exact⟨0,Nat.zero_le _,rfl,rfl,Below.refl _ _⟩
 case round =>
  obtain⟨k,hk,rfl,hf,ae⟩:=hrel;have HF:Hid (qb3 (l.take k)=true):=hf;clear hf
  by_cases ak:k<L
  ·have aV:k<l.length:=by rw[<-HL.out];exact ak
   obtain⟨x,hx⟩:∃x,l[k]?=some x:=⟨_,xr1 aV⟩;have HX:Hid (l.take (k+1)=l.take k++[x]):=by
    rw[xrf aV];rw[xr1 aV]at hx;cases hx;rfl
   have HM:Hid (x∈l):=xr2 hx;obtain⟨c0,c1⟩:=hc k x hx
   replace c0:=(ae.cell (p:=vA vb (k*2)) hb).trans c0
   replace c1:=(ae.cell (p:=vA vb (k*2+1)) hb).trans c1
   clear hx hc;have ee:=fun W=>qin x.1 x.2 W
   cases hfx:qao x.1 x.2
   ·rw[hfx]at ee
    go_wp2_with (go_at_call 147;refine(ee _).mono ?_;rintro e w1 ⟨rfl,aa⟩)
    go_ret
    refine⟨qa9 ?_,qac (ae.alloc ae.size _) aa⟩
    symm;unfold qb3;rw[List.all_eq_false];exact⟨x,HM.out,by simp[hfx]⟩
   ·rw[hfx]at ee
    go_wp2_with (go_at_call 147;refine(ee _).mono ?_;rintro e w1 ⟨rfl,aa⟩)
    go_roundw
    case rel=>exact⟨k+1,by omega,by go_num,by rw[HX.out];have:=HF.out;unfold qb3 at this ⊢;rw[List.all_append,this];simp[hfx],qac (ae.alloc ae.size _) aa⟩
    case measure=>simp[intOf];omega
  ·go_wp2
   go_ret
   have:=HF.out
   rw[xrd (by rw[<-HL.out];omega)]at this
   exact⟨qa9 this.symm,ae⟩
theorem qmi(T:Tree nodes)(w:World)(hN:∀n∈nodes,qan w n)(hr:r∈nodes)(bK:r.key=[])(bt:Nat)(ht:w.cell? (vA bt 0)=some (nptr r.blk))(k:List Bs):
  Cl 135 #[vP bt,match findKey nodes k with|none=>.pointer none|some p=>nptr p.blk] w fun e w'=>e=.returned (vI (errIn nodes k))/\Bw w w':=by
 unfold errIn
 cases hf:findKey nodes k with
 |none =>
  go_enter func135,ntmps135
  go_wp2
  go_ret
  exact⟨rfl,Below.refl _ _⟩
 |some p =>
  obtain⟨hp,_⟩:=qbw hf;obtain⟨ch,K⟩:=T.ch;have kZ:=qun T K hr (by have:=qoe T K hr;omega) bt w hN ht;rw[qt5 T K hr bK]at kZ;have c1:w.cell? (vA p.blk 1)=some (.bool p.leaf):=(hN p hp).cell rfl;have bD:=qko p.blk p.leaf w c1;unfold nptr;clear hf
  cases hl:p.leaf
  ·rw[hl]at bD
   by_cases lP:20<=nodes.length
   ·simp only[lP,decide_true]at kZ;simp only[hl,Bool.false_eq_true,if_false,lP,if_true]
    go_enter func135,ntmps135
    go_wp2_with (first|(go_at_call 105;refine bD.mono ?_;rintro e w1 ⟨rfl,bX⟩;subst bX)|(go_at_call 182;refine kZ.mono ?_;rintro e w1 ⟨rfl,aa⟩))
    go_ret
    exact⟨rfl,aa⟩
   ·simp only[lP,decide_false]at kZ;simp only[hl,Bool.false_eq_true,if_false,lP]
    go_enter func135,ntmps135
    go_wp2_with (first|(go_at_call 105;refine bD.mono ?_;rintro e w1 ⟨rfl,bX⟩;subst bX)|(go_at_call 182;refine kZ.mono ?_;rintro e w1 ⟨rfl,aa⟩))
    go_ret
    exact⟨rfl,aa⟩
  ·rw[hl]at bD;simp only[hl,if_true]
   go_enter func135,ntmps135
   go_wp2_with (go_at_call 105;refine bD.mono ?_;rintro e w1 ⟨rfl,bX⟩;subst bX)
   go_ret
   exact⟨rfl,Below.refl _ _⟩
theorem qfh(T:Tree nodes)(hr:r∈nodes)(bK:r.key=[])(s:ByteArray)(hs:s.size<=2000000)(w:World)(hN:∀n∈nodes,qan w n)(v:Value)
  (hv:v=match findKey nodes (qaa (bl s)) with|none=>.pointer none|some p=>nptr p.blk) :
  Cl 63 #[nptr r.blk,.string s] w fun e w'=>e=.returned v/\Bw w w':=by
 refine(quc T hr bK s hs w hN).mono ?_
 rintro e w' ⟨(⟨n,hn,dh,rfl⟩|⟨a7,rfl⟩),hb⟩
 ·rw[qdp T hn dh]at hv;exact⟨by rw[hv],hb⟩
 ·rw[qkz a7]at hv;exact⟨by rw[hv],hb⟩
structure Ent where
 key:List Bs
 leaf:Bool
 n0:Int
 n1:Int
 b0:Int
 b1:Int
variable {L:List Ent}
def Node.ent(n:Node):Ent:=⟨n.key,n.leaf,n.n0,n.n1,n.b0,n.b1⟩
def qcv (L:List Ent)(k:List Bs):Option Ent:=L.find? fun n=>n.key == k
def errInE(L:List Ent)(k:List Bs):Int:=match qcv L k with
 |none=>3
 |some p=>if p.leaf then 5 else if 20<=L.length then 7 else 0
def errE (L:List Ent)(s:Bs)(ok:Bool):Int :=
 if qar s=false then 1 else if s=[] then 2 else if ok=false then 6 else if 4<qdm s then 8
 else if (qcv L (qaa s)).isSome then 4 else errInE L (qaa s).dropLast
theorem qft(nodes:List Node)(k:List Bs):qcv (nodes.map Node.ent) k=(findKey nodes k).map Node.ent:=by
 unfold qcv findKey
 induction nodes with
 |nil=>rfl
 |cons n l ih =>
  simp only[List.map_cons,List.find?_cons]
  have:(Node.ent n).key=n.key:=rfl
  rw[this]
  cases n.key == k<;>simp[ih]
theorem qok(nodes:List Node)(s:Bs)(ok:Bool):errE (nodes.map Node.ent) s ok=qbc nodes s ok:=by
 unfold errE qbc errInE errIn;rw[qft,qft]
 cases findKey nodes (qaa s)<;>cases findKey nodes (qaa s).dropLast<;>simp[Node.ent]
theorem qgu(w:World)(t e:TypeId)(i0:TypeInfo)(z:Value)(size bytes:Nat)(ht:P.underlying t=some (.slice e))(hi:P.info? e=some i0)(fE:i0.zero=some z)
  (cJ:i0.size=size) (dO:i0.bytes=bytes) (rY:z.cells.size=size) (dk:0<size) (sl:Value) (n:Nat) (xs:List Value) (av:w.ownsRow 0 e size sl n xs)
  (ad:Addr) (m c:Nat) (hm:0<n+m) (bH:List Value) (hl:bH.length=m*size) (dq:∀j u,bH[j]?=some u->w.cell? (ad.add j)=some u) (h1:∀u∈bH,u.oneCell'=true)
  (nH:n+m<=maxLen) (hb:(n+m)*bytes<=140737488355328) :
  ∃v' w',(∀ty,(Builtin.append_ #[t,t] ty #[sl,.slice (some ad) m c]).run P w=.ok v' w')/\w'.ownsRow 0 e size v' (n+m) (xs++bH)/\w.grownBy w' sl.ownBlock/\(v'.ownBlock=sl.ownBlock\/∃g,v'.ownBlock=some g/\w.heap.size<=g):=by
 have bQ:∀ {v':Value} {w':World},w'.ownsRow w.heap.size e size v' (n+m) (xs++bH)->w'.ownsRow 0 e size v' (n+m) (xs++bH)/\∃g,v'.ownBlock=some g/\w.heap.size<=g:=fun {v' w'} h=>by
  obtain⟨h1,h2⟩:=h
  rcases h2 with ⟨_,h0⟩|⟨g,cap,aD,rfl,hb,rest⟩
  ·omega
  ·exact⟨⟨h1,.inr ⟨g,cap,aD,rfl,Nat.zero_le _,rest⟩⟩,g,rfl,hb⟩
 rcases av.2 with ⟨rfl,rfl⟩|⟨g,cap,aD,rfl,_,hg,nw,jd,dp,kJ⟩
 ·have hx:xs=[]:=List.eq_nil_of_length_eq_zero (by simpa using av.1);subst hx;obtain⟨v',w',hr,ho,dj,_⟩:=run_append_own (P:=P) w w.heap.size t 0 e i0 z size bytes ht hi fE cJ dO rY dk v0_ 0 [] (xrk w _ e size) ad m c bH hl dq h1 nH hb (Nat.le_refl _);have ib:=bQ ho
  exact⟨v',w',fun ty=>hr,ib.1,dj,.inr ib.2⟩
 ·by_cases bE:n+m<=cap
  ·have hr:=fun ty=>run_append_room (P:=P) w t ty e i0 ht hi g n cap aD hg ad m c bH (by rw[cJ];exact hl) dq h1 bE (by rw[cJ,hl,dp,<- Nat.add_mul];exact Nat.mul_le_mul_right _ bE)
   rw[cJ]at hr;have an:(xs++bH).length=(n+m)*size:=by rw[List.length_append,av.1,hl,Nat.add_mul]
   refine⟨_,_,hr,⟨an,.inr ⟨g,cap,_,rfl,Nat.zero_le _,setRow_heap w g aD _ e _ hg,bE,jd,?_,?_⟩⟩,⟨rfl,rfl,rfl,by simp,fun k _ hk=>setRow_other w g k _ (fun e=>hk (by simp[Value.ownBlock,e]))⟩,.inl rfl⟩
   ·have mz:n*size+bH.length<=aD.size:=by rw[hl,dp,<- Nat.add_mul];exact Nat.mul_le_mul_right _ bE
    simp only[List.size_toArray,List.length_append,List.length_take,List.length_drop,Array.length_toList]
    omega
   ·rw[kJ,<- an]
    exact List.take_left
  ·obtain⟨v',w',hr,ho,dj⟩:=run_append_arg_grows (P:=P) w t 0 e i0 z size bytes ht hi fE cJ dO rY dk (vA g 0) n cap xs av.1 (av.cells (g:=g) rfl) ad m c bH hl dq (by omega) nH hb;have ib:=bQ ho
   exact⟨v',w',fun ty=>hr,ib.1,⟨dj.os,dj.tape,dj.output,dj.size,fun k hk _=>dj.block k hk (by simp)⟩,.inr ib.2⟩
theorem qau{fF:Array Oper}{o:Oper}{a:Act}{K:Act->World->Prop}{Q:Exit->Act->World->Prop}{E:Prop}{R:Value->World->Prop}
  (hg:o.guard=none) (d x:Operand) (dT sT:TypeId) (u_:o.op=Op.call {callee:=Callee.builtin Builtin.append,args:=#[d,x],argTypes:=#[dT,sT]})
  (v u:Value) (hd:a.eval d=v) (hx:a.eval x=u) (hk:∃v' w',(∀ty,(Builtin.append_ #[dT,sT] ty #[v,u]).run P w=.ok v' w')/\R v' w') (hK:∀v' w',R v' w'->K (a.put o.dst v') w') :
  if Region.wanted o (yielded fF a.tmps)=true then Oper.wp P o a w K Q else E:=by
 obtain⟨v',w',hr,hR⟩:=hk;rw[if_pos (by simp[Region.wanted,hg])];unfold Oper.wp;have wR:=hr o.type
 simp[execOp,u_,resolve,invoke,builtin,hd,hx,wR,Result.andThen]
 exact hK v' w' hR
theorem qah{fF:Array Oper}{rest:List Oper}{o:Oper}{a:Act}{Q:Exit->Act->World->Prop}{R:Value->World->Prop}(Dc:o.guard=none)(s x:Operand)(t tn:TypeId)
  (ho:o.op=.call {callee:=.builtin .append,args:=#[s,x],argTypes:=#[t,tn]}) (vs vx:Value) (hs:a.eval s=vs) (hx:a.eval x=vx)
  (hk:∃v' w',(∀ty,(Builtin.append_ #[t,tn] ty #[vs,vx]).run P w=.ok v' w')/\R v' w') (h:∀v' w',R v' w'->wpList P fF Q rest (a.put o.dst v') w'):wpList P fF Q (o::rest) a w:=by
 obtain⟨v',w',hr,hR⟩:=hk
 exact Lib.wpList_append_run w Dc s x t tn ho vs vx hs hx v' w' (hr _) (h v' w' hR)
theorem qat{n:Nat}(h:w.ownsRow 0 e size v n xs)(hn:0<n):∃g cap,v=vS g n cap/\n<=cap/\cap<=maxLen:=by
 rcases h.2 with ⟨_,h0⟩|⟨g,cap,aD,rfl,_,_,h1,h2,_⟩
 ·omega
 ·exact⟨g,cap,rfl,h1,h2⟩
theorem Blk.new'{t:TypeId}(h:b=W.heap.size):Blk (W.alloc (.cells vs t)) b t vs:=by subst h;exact Blk.new W t vs
def qdf (e:TypeId)(size bytes:Nat):Prop:=∃i0 z,prog.info? e=some i0/\i0.zero=some z/\i0.size=size/\i0.bytes=bytes/\z.cells.size=size
theorem qep(h1:(prog.info? e).map (fun i=>(i.size,i.bytes))=some (size,bytes))(h2:(prog.info? e).bind (fun i=>i.zero)=some z)(hz:z.cells.size=size):qdf e size bytes:=by
 cases h:prog.info? e with
 |none=>rw[h]at h1;cases h1
 |some i0 =>
  rw[h]at h1 h2;simp only[Option.map_some,Option.some.injEq,Prod.mk.injEq,Option.bind_some]at h1 h2
  exact⟨i0,z,h,h2,h1.1,h1.2,hz⟩
theorem i3a:(prog.info? 3).map (fun i=>(i.size,i.bytes))=some (1,8):=by kernel_rfl
theorem i3b:(prog.info? 3).bind (fun i=>i.zero)=some (vI 0):=by kernel_rfl
theorem i29a:(prog.info? 25).map (fun i=>(i.size,i.bytes))=some (1,24):=by kernel_rfl
theorem i29b:(prog.info? 25).bind (fun i=>i.zero)=some v0_:=by kernel_rfl
theorem i46a:(prog.info? 48).map (fun i=>(i.size,i.bytes))=some (1,24):=by kernel_rfl
theorem i46b:(prog.info? 48).bind (fun i=>i.zero)=some v0_:=by kernel_rfl
theorem i59a:(prog.info? 60).map (fun i=>(i.size,i.bytes))=some (2,16):=by kernel_rfl
theorem i59b:(prog.info? 60).bind (fun i=>i.zero)=some (.agg #[vI 0,vI 0]):=by kernel_rfl
theorem inf3:qdf 3 1 8:=qep i3a i3b rfl
theorem qxb:qdf 25 1 24:=qep i29a i29b rfl
theorem qxd:qdf 48 1 24:=qep i46a i46b rfl
theorem qm7:qdf 60 2 16:=qep i59a i59b rfl
theorem un29:prog.underlying 25=some (.slice 3):=by kernel_rfl
theorem un27:prog.underlying 80=some (.slice 25):=by kernel_rfl
theorem un28:prog.underlying 81=some (.slice 48):=by kernel_rfl
theorem un46:prog.underlying 48=some (.slice 60):=by kernel_rfl
structure AppR (W:World) (old:Option Nat) (e:TypeId) (size n:Nat) (xs:List Value) (g cap:Nat) (w':World):Prop where
 le:n<=cap
 mx:cap<=maxLen
 own:w'.ownsRow 0 e size (vS g n cap) n xs
 keep:Keep (fun b=>old=some b) W w'
 new:old=some g\/W.heap.size<=g
theorem qby{t:TypeId}(ht:prog.underlying t=some (.slice e))(hi:qdf e size bytes)(dk:0<size)(W:World)(sl:Value)(n:Nat)(xs:List Value)(av:W.ownsRow 0 e size sl n xs)
  (nb m c:Nat) (hm:0<n+m) (bH:List Value) (hl:bH.length=m*size) (cU:Blk W nb t' bH.toArray) (h1:∀u∈bH,u.oneCell'=true) (nH:n+m<=maxLen) (hb:(n+m)*bytes<=140737488355328) :
  ∃v' w',(∀ty,(Builtin.append_ #[t,t] ty #[sl,vS nb m c]).run prog W=.ok v' w')/\∃g cap,v'=vS g (n+m) cap/\AppR W sl.ownBlock e size (n+m) (xs++bH) g cap w':=by
 obtain⟨i0,z,h2,h3,h4,h5,h6⟩:=hi;obtain⟨v',w',hr,ho,dj,dH⟩:=qgu (P:=prog) W t e i0 z size bytes ht h2 h3 h4 h5 h6 dk sl n xs av (vA nb 0) m c hm bH hl
  (fun j u hu=>by rw[Addr.add_lit,Nat.zero_add,cU.cell];simpa using hu) h1 nH hb
 obtain⟨g',cap',rfl,dV,jf⟩:=qat ho (by omega)
 refine⟨_,w',hr,g',cap',rfl,dV,jf,ho,(Keep.refl _ _).grown dj (fun k hk=>hk),?_⟩
 rcases dH with e|⟨g2,e,h2⟩
 ·left;rw[<-e];rfl
 ·simp[Value.ownBlock]at e;subst e;exact .inr h2
theorem qnf{t:TypeId}(ht:prog.underlying t=some (.slice e))(hi:qdf e size bytes)(dk:0<size)(W:World)(sl:Value)(n:Nat)(xs:List Value)(av:W.ownsRow 0 e size sl n xs)
  (ad:Addr) (m c:Nat) (hm:0<n+m) (bH:List Value) (hl:bH.length=m*size) (cU:∀j u,bH[j]?=some u->W.cell? (ad.add j)=some u) (h1:∀u∈bH,u.oneCell'=true) (nH:n+m<=maxLen) (hb:(n+m)*bytes<=140737488355328) :
  ∃v' w',(∀ty,(Builtin.append_ #[t,t] ty #[sl,.slice (some ad) m c]).run prog W=.ok v' w')/\∃g cap,v'=vS g (n+m) cap/\AppR W sl.ownBlock e size (n+m) (xs++bH) g cap w':=by
 obtain⟨i0,z,h2,h3,h4,h5,h6⟩:=hi;obtain⟨v',w',hr,ho,dj,dH⟩:=qgu (P:=prog) W t e i0 z size bytes ht h2 h3 h4 h5 h6 dk sl n xs av ad m c hm bH hl cU h1 nH hb;obtain⟨g',cap',rfl,dV,jf⟩:=qat ho (by omega)
 refine⟨_,w',hr,g',cap',rfl,dV,jf,ho,(Keep.refl _ _).grown dj (fun k hk=>hk),?_⟩
 rcases dH with e|⟨g2,e,h2⟩
 ·left;rw[<-e];rfl
 ·simp[Value.ownBlock]at e;subst e;exact .inr h2
theorem qab{n:Nat}(h:W.ownsRow 0 e size sl n xs)(hk:Keep T W W')(hT:∀g,sl.ownBlock=some g->¬T g):W'.ownsRow 0 e size sl n xs:=by
 obtain⟨hl,hr⟩:=h
 refine⟨hl,?_⟩
 rcases hr with hr|⟨g',cap',aD,rfl,eO,hg,rest⟩
 ·exact .inl hr
 ·exact .inr ⟨g',cap',aD,rfl,eO,(hk.block g' (xrc.1 hg).1 (hT g' rfl)).trans hg,rest⟩
theorem qal{n:Nat}(h:W.ownsRow 0 e size sl n xs){g:Nat}(hg:sl.ownBlock=some g):g<W.heap.size:=by
 rcases h.2 with ⟨rfl,_⟩|⟨g',cap',aD,rfl,eO,fB,rest⟩
 ·cases hg
 ·simp[Value.ownBlock]at hg;subst hg;exact(xrc.1 fB).1
theorem AppR.below{n g:Nat}(h:AppR W none e size n xs g cap w'):Bw W w' :=
 h.keep.toBelow (Nat.le_refl _) (fun b _ hb=>by cases hb)
theorem bel2{p:Prop}(h:p:=by(repeat (first|(with_reducible exact Below.refl _ _)|(with_reducible assumption)|((with_reducible refine Below.setCell ?_ ?_ _);rotate_left;(focus (first|omega|(simp<;>omega))))|((with_reducible refine Below.alloc ?_ ?_ _);rotate_left;(focus (first|omega|(simp<;>omega))))|(with_reducible refine Below.drew ?_)|(with_reducible refine xrm ?_ _)|(refine qac ?_ (by with_reducible assumption))))):p:=h
theorem blk2{p:Prop}(h:p:=by(repeat (first|(with_reducible assumption)|((with_reducible refine Blk.new' ?_);simp;done)|(with_reducible refine Blk.alloc ?_ _)|(with_reducible refine Blk.drew ?_)|(with_reducible refine Blk.drewN ?_ _)))):p:=h
theorem blk3{p:Prop}(h:p:=by(repeat (first|(with_reducible assumption)|((with_reducible refine Blk.new' ?_);simp;done)|(with_reducible refine Blk.alloc ?_ _)|(with_reducible refine Blk.drew ?_)|(with_reducible refine Blk.drewN ?_ _)|((with_reducible refine Blk.other ?_ _ _ ?_);rotate_left;(focus (first|omega|(simp;done)|(simp;omega))))))):p:=h
theorem bel1{p:Prop}(h:p:=by(repeat (first|exact Below.refl _ _|refine qac ?_ (by assumption)|refine Below.setCell ?_ (by first|omega|(simp<;>omega)) _|refine Below.alloc ?_ (by first|omega|(simp<;>omega)) _|refine Below.drew ?_|refine xrm ?_ _))):p:=h
theorem blk1{p:Prop}(h:p:=by(repeat (first|assumption|(refine Blk.new' ?_;simp;done)|refine Blk.alloc ?_ _|refine Blk.drew ?_|refine Blk.drewN ?_ _))):p:=h
theorem qtn{t:TypeId}(ht:prog.underlying t=some (.slice e))(hi:qdf e size bytes)(W:World)(base:Option Addr)(n cap:Nat)(hn:n<=cap)(x2:Option Addr)(c:Nat)(ty:TypeId):
  (Builtin.append_ #[t,t] ty #[.slice base n cap,.slice x2 0 c]).run prog W=.ok (.slice base n cap) W:=by
 obtain⟨i0,z,h2,h3,h4,h5,h6⟩:=hi
 cases base<;>cases x2<;>simp[Builtin.append_,run_underlying ht,sizeOf,typeInfo,h2,hn,Builtin.firstCells,Builtin.lenOf,storeCells,loadCells,loadCellsFrom]
structure AppO (W:World) (old:Option Nat) (e:TypeId) (size n:Nat) (xs:List Value) (a:Option Addr) (cap:Nat) (w':World):Prop where
 le:n<=cap
 mx:cap<=maxLen
 own:w'.ownsRow 0 e size (.slice a n cap) n xs
 keep:Keep (fun b=>old=some b) W w'
 new:∀b,(Value.slice a n cap).ownBlock=some b->old=some b\/W.heap.size<=b
theorem qrk{t:TypeId}(ht:prog.underlying t=some (.slice e))(hi:qdf e size bytes)(dk:0<size)(W:World)(a:Option Addr)(n cap:Nat)(hn:n<=cap)(jf:cap<=maxLen)(xs:List Value)(av:W.ownsRow 0 e size (.slice a n cap) n xs)
  (x2:Option Addr) (m c:Nat) (bH:List Value) (hl:bH.length=m*size) (cU:0<m->∃ad,x2=some ad/\∀j u,bH[j]?=some u->W.cell? (ad.add j)=some u) (h1:∀u∈bH,u.oneCell'=true) (nH:n+m<=maxLen) (hb:(n+m)*bytes<=140737488355328) :
  ∃v' w',(∀ty,(Builtin.append_ #[t,t] ty #[.slice a n cap,.slice x2 m c]).run prog W=.ok v' w')/\∃a' cap',v'=.slice a' (n+m) cap'/\AppO W (Value.slice a n cap).ownBlock e size (n+m) (xs++bH) a' cap' w':=by
 by_cases hm:m=0
 ·subst hm;have hz:bH=[]:=List.eq_nil_of_length_eq_zero (by simpa using hl);subst hz
  refine⟨_,W,fun ty=>qtn ht hi W a n cap hn x2 c ty,a,cap,by simp,by simpa using hn,jf,by simpa using av,Keep.refl _ _,fun b hb=>.inl (by simpa using hb)⟩
 ·obtain⟨ad,rfl,aY⟩:=cU (by omega);obtain⟨v',w',hr,g,cap',rfl,R⟩:=qnf ht hi dk W _ n xs av ad m c (by omega) bH hl aY h1 nH hb
  refine⟨_,w',hr,some (vA g 0),cap',rfl,R.le,R.mx,R.own,R.keep,fun b hb=>?_⟩
  simp[Value.ownBlock]at hb
  subst hb
  exact R.new
theorem qmm(w:World)(t e:TypeId)(i0:TypeInfo)(z:Value)(size bytes:Nat)(ht:P.underlying t=some (.slice e))(hi:P.info? e=some i0)(fE:i0.zero=some z)
  (cJ:i0.size=size) (dO:i0.bytes=bytes) (rY:z.cells.size=size) (dk:0<size) (sl:Value) (n:Nat) (xs:List Value) (av:w.ownsRow 0 e size sl n xs)
  (ad:Addr) (m c:Nat) (hm:0<n+m) (bH:List Value) (hl:bH.length=m*size) (dq:∀j u,bH[j]?=some u->w.cell? (ad.add j)=some u) (h1:∀u∈bH,u.oneCell'=true)
  (nH:n+m<=maxLen) (hb:(n+m)*bytes<=140737488355328) (M:Value) (hM:∀u∈bH,u=M) :
  ∃v' w',(∀ty,(Builtin.append_ #[t,t] ty #[sl,.slice (some ad) m c]).run P w=.ok v' w')/\w'.ownsRow 0 e size v' (n+m) (xs++bH)/\w.grownBy w' sl.ownBlock/\(v'.ownBlock=sl.ownBlock\/∃g,v'.ownBlock=some g/\w.heap.size<=g) /\
   w'.ownsRow 0 e size sl n xs/\(∀b j,w.cell? (vA b j)=some M->w'.cell? (vA b j)=some M):=by
 have bQ:∀ {v':Value} {w':World},w'.ownsRow w.heap.size e size v' (n+m) (xs++bH)->w'.ownsRow 0 e size v' (n+m) (xs++bH)/\∃g,v'.ownBlock=some g/\w.heap.size<=g:=fun {v' w'} h=>by
  obtain⟨h1,h2⟩:=h
  rcases h2 with ⟨_,h0⟩|⟨g,cap,aD,rfl,hb,rest⟩
  ·omega
  ·exact⟨⟨h1,.inr ⟨g,cap,aD,rfl,Nat.zero_le _,rest⟩⟩,g,rfl,hb⟩
 have td:∀ {w':World},w.grownBy w' none->∀b j,w.cell? (vA b j)=some M->w'.cell? (vA b j)=some M:=fun {w'} dj b j hc=>dj.cell hc (by simp)
 rcases av.2 with ⟨rfl,rfl⟩|⟨g,cap,aD,rfl,_,hg,nw,jd,dp,kJ⟩
 ·have hx:xs=[]:=List.eq_nil_of_length_eq_zero (by simpa using av.1);subst hx;obtain⟨v',w',hr,ho,dj,_⟩:=run_append_own (P:=P) w w.heap.size t 0 e i0 z size bytes ht hi fE cJ dO rY dk v0_ 0 [] (xrk w _ e size) ad m c bH hl dq h1 nH hb (Nat.le_refl _);have ib:=bQ ho
  exact⟨v',w',fun ty=>hr,ib.1,dj,.inr ib.2,xrk _ _ _ _,td dj⟩
 ·by_cases bE:n+m<=cap
  ·have hr:=fun ty=>run_append_room (P:=P) w t ty e i0 ht hi g n cap aD hg ad m c bH (by rw[cJ];exact hl) dq h1 bE (by rw[cJ,hl,dp,<- Nat.add_mul];exact Nat.mul_le_mul_right _ bE)
   rw[cJ]at hr;have an:(xs++bH).length=(n+m)*size:=by rw[List.length_append,av.1,hl,Nat.add_mul]
   have mz:n*size+bH.length<=aD.size:=by rw[hl,dp,<- Nat.add_mul];exact Nat.mul_le_mul_right _ bE
   refine⟨_,_,hr,⟨an,.inr ⟨g,cap,_,rfl,Nat.zero_le _,setRow_heap w g aD _ e _ hg,bE,jd,?_,?_⟩⟩,⟨rfl,rfl,rfl,by simp,fun k _ hk=>setRow_other w g k _ (fun e=>hk (by simp[Value.ownBlock,e]))⟩,.inl rfl,
    ⟨av.1,.inr ⟨g,cap,_,rfl,Nat.zero_le _,setRow_heap w g aD _ e _ hg,nw,jd,?_,?_⟩⟩,?_⟩
   ·simp only[List.size_toArray,List.length_append,List.length_take,List.length_drop,Array.length_toList]
    omega
   ·rw[kJ,<- an]
    exact List.take_left
   ·simp only[List.size_toArray,List.length_append,List.length_take,List.length_drop,Array.length_toList]
    omega
   ·rw[kJ,List.append_assoc,<- av.1]
    exact List.take_left
   ·intro b j hc
    by_cases eO:b=g
    ·subst eO;rw[cell_of_row w b j aD e (0,0) hg]at hc;rw[cell_of_row _ b j _ e _ (setRow_heap w b aD _ e _ hg)];rw[List.getElem?_toArray]
     rcases Nat.lt_or_ge j (n*size) with h2|h2
     ·rw[List.append_assoc,xrp (by simp;omega),List.getElem?_take,if_pos h2];simpa using hc
     ·rcases Nat.lt_or_ge j (n*size+bH.length) with h3|h3
      ·rw[List.append_assoc,xro (by simp;omega)];have e1:(List.take (n*size) aD.toList).length=n*size:=by simp;omega
       rw[e1,xrp (by omega)];have h4:j-n*size<bH.length:=by omega
       rw[xr1 h4,hM _ (List.getElem_mem h4)]
      ·rw[xro (by simp;omega)];have e1:(List.take (n*size) aD.toList++bH).length=n*size+bH.length:=by simp;omega
       rw[e1,List.getElem?_drop];rw[show n*size+bH.length+(j-(n*size+bH.length))=j by omega]
       simpa using hc
    ·rw[World.cell?_of_block (w:=w) (a:=(vA b j)) (setRow_other w g b _ eO)]
     exact hc
  ·obtain⟨v',w',hr,ho,dj⟩:=run_append_arg_grows (P:=P) w t 0 e i0 z size bytes ht hi fE cJ dO rY dk (vA g 0) n cap xs av.1 (av.cells (g:=g) rfl) ad m c bH hl dq (by omega) nH hb;have ib:=bQ ho
   refine⟨v',w',fun ty=>hr,ib.1,⟨dj.os,dj.tape,dj.output,dj.size,fun k hk _=>dj.block k hk (by simp)⟩,.inr ib.2,?_,td dj⟩
   exact⟨av.1,.inr ⟨g,cap,aD,rfl,Nat.zero_le _,(dj.block g (xrc.1 hg).1 (by simp)).trans hg,nw,jd,dp,kJ⟩⟩
structure AppS (W:World) (l:Value) (e:TypeId) (size n k:Nat) (m:Int) (g cap:Nat) (w':World):Prop where
 le:k<=cap
 mx:cap<=maxLen
 own:w'.ownsRow 0 e size (vS g k cap) k (List.replicate (k*size) (vI m))
 keep:Keep (fun b=>l.ownBlock=some b) W w'
 new:l.ownBlock=some g\/W.heap.size<=g
 row:w'.ownsRow 0 e size l n (List.replicate (n*size) (vI m))
 stay:∀b j,W.cell? (vA b j)=some (vI m)->w'.cell? (vA b j)=some (vI m)
theorem qfi{t:TypeId}(ht:prog.underlying t=some (.slice e))(hi:qdf e size bytes)(dk:0<size)(W:World)(sl:Value)(n:Nat)(M:Int)(av:W.ownsRow 0 e size sl n (List.replicate (n*size) (vI M)))
  (nb m c:Nat) (hm:0<m) (cU:Blk W nb t' (List.replicate (m*size) (vI M)).toArray) (nH:n+m<=maxLen) (hb:(n+m)*bytes<=140737488355328) :
  ∃v' w',(∀ty,(Builtin.append_ #[t,t] ty #[sl,vS nb m c]).run prog W=.ok v' w')/\∃g cap,v'=vS g (n+m) cap/\AppS W sl e size n (n+m) M g cap w':=by
 obtain⟨i0,z,h2,h3,h4,h5,h6⟩:=hi;obtain⟨v',w',hr,ho,dj,dH,au,bW⟩:=qmm (P:=prog) W t e i0 z size bytes ht h2 h3 h4 h5 h6 dk sl n _ av (vA nb 0) m c (by omega) (List.replicate (m*size) (vI M)) (by simp)
  (fun j u hu=>by rw[Addr.add_lit,Nat.zero_add,cU.cell,List.getElem?_toArray];exact hu) (fun u hu=>by rw[List.eq_of_mem_replicate hu];rfl) nH hb (vI M) (fun u hu=>List.eq_of_mem_replicate hu)
 obtain⟨g',cap',rfl,dV,jf⟩:=qat ho (by omega);rw[List.replicate_append_replicate,<- Nat.add_mul]at ho
 refine⟨_,w',hr,g',cap',rfl,dV,jf,ho,(Keep.refl _ _).grown dj (fun k hk=>hk),?_,au,bW⟩
 rcases dH with e|⟨g2,e,h2⟩
 ·left;rw[<-e];rfl
 ·simp[Value.ownBlock]at e;subst e;exact .inr h2
def qbs (e:Ent):List Value:=[.string (sb (joinB e.key)),.bool e.leaf,vI e.n0,vI e.n1,vI e.b0,vI e.b1]
def qdi (L:List Ent):List Value:=L.flatMap qbs
theorem qx7(L:List Ent):(qdi L).length=L.length*6:=by
 induction L with
 |nil=>rfl
 |cons a l ih=>simp[qdi,qbs]at ih ⊢;omega
theorem qf3:∀(L:List Ent) (i j:Nat) (e:Ent),L[i]?=some e->j<6->(qdi L)[i*6+j]?=(qbs e)[j]?
 | [],i,j,e,h,_=>by simp at h
 |a::l,0,j,e,h,hj=>by
  simp at h;subst h
  simp only[qdi,List.flatMap_cons,Nat.zero_mul,Nat.zero_add];rw[xrp (by simp[qbs];omega)]
 |a::l,i+1,j,e,h,hj=>by
  have ih:=qf3 l i j e (by simpa using h) hj;simp only[qdi,List.flatMap_cons]at ih ⊢;rw[xro (by simp[qbs];omega)];rw[show(i+1)*6+j-(qbs a).length=i*6+j by simp[qbs];omega]
  exact ih
structure qc9 (W:World) (br g cap:Nat) (L:List Ent) (v1 v2 v3:Value):Prop where
 at_:Blk W br 167 #[vS g L.length cap,v1,v2,v3]
 row:W.ownsRow 0 163 6 (vS g L.length cap) L.length (qdi L)
theorem qc9.below{g:Nat}(h:qc9 W br g cap L v1 v2 v3)(hb:Bw W W'):qc9 W' br g cap L v1 v2 v3 :=
 ⟨h.at_.below hb h.at_.lt,h.row.kept (row:=none) ⟨hb.os,hb.tape,hb.output,hb.size,fun k hk _=>hb.block k hk⟩ (.inr (by simp[Value.ownBlock]))⟩
theorem qc9.keep{g:Nat}(h:qc9 W br g cap L v1 v2 v3)(hk:Keep T W W')(h1:¬T br)(h2:¬T g):qc9 W' br g cap L v1 v2 v3:=by
 refine⟨h.at_.keep hk h1,?_⟩
 obtain⟨hl,hr⟩:=h.row
 refine⟨hl,?_⟩
 rcases hr with hr|⟨g',cap',aD,hv,eO,hg,rest⟩
 ·exact .inl hr
 ·have:g'=g:=by injection hv with e _ _;injection e with e;injection e with e;exact e.symm
  subst this
  exact .inr ⟨g',cap',aD,hv,eO,(hk.block g' (xrc.1 hg).1 h2).trans hg,rest⟩
theorem qc9.ent{g:Nat}(h:qc9 W br g cap L v1 v2 v3){e:Ent}(hi:L[i]?=some e)(hj:(qbs e)[j]?=some v):W.cell? (vA g (i*6+j))=some v:=by
 have Jv:j<6:=by have:=(xr0.1 hj).1;simpa [qbs] using this
 have:=h.row.cells (g:=g) rfl (i*6+j) v (by rw[qf3 L i j e hi Jv];exact hj)
 rwa[Addr.add_lit,Nat.zero_add]at this
theorem qc9.qjv{g:Nat}(h:qc9 W br g cap L v1 v2 v3):L.length<=cap/\cap<=maxLen:=by
 obtain⟨hl,hr⟩:=h.row
 rcases hr with ⟨hv,_⟩|⟨g',cap',aD,hv,eO,hg,h1,h2,_⟩
 ·cases hv
 ·injection hv with _ _ e;subst e;exact⟨h1,h2⟩
def qwb (L:List Ent)(s:Bs)(e:Ending):Prop :=
 (∃(i:Nat) (x:Ent),e=.returned (vI i)/\L[i]?=some x/\joinB x.key=s)\/((∀x∈L,joinB x.key≠s)/\e=.returned (vI (-1)))
theorem qwn{g:Nat}(h:qc9 w br g cap L v1 v2 v3)(cP:L.length<=1000)(s:ByteArray):
  Cl 114 #[vP br,.string s] w fun e w'=>qwb L (bl s) e/\w'=w:=by
 have hc:=h.at_.cell 0;simp only[List.getElem?_toArray,List.getElem?_cons_zero]at hc;obtain⟨n,hn⟩:∃n,n=L.length:=⟨_,rfl⟩;rw[<-hn]at hc cP;have HN:Hid (n=L.length):=hn;clear hn
 go_enter func114,ntmps114
 go_wp2
 go_loop [5] (fun i=>∃k:Nat,k<=n/\i=vI k/\∀j x,j<k->L[j]?=some x->joinB x.key≠bl s) (fun i=>n-(intOf i).toNat)
 case atStart=>exact⟨0,Nat.zero_le _,rfl,fun j x hj=>by omega⟩
 case round =>
  obtain⟨k,hk,rfl,a7⟩:=hrel;have kL:Hid (∀j x,j<k->L[j]?=some x->joinB x.key≠bl s):=a7;clear a7
  by_cases ak:k<n
  ·obtain⟨x,hx⟩:∃x,L[k]?=some x:=⟨_,xr1 (by rw[<-HN.out];exact ak)⟩;have HX:Hid (L[k]?=some x):=hx;have hp:=h.ent hx (j:=0) (v:=.string (sb (joinB x.key))) rfl;simp only[Nat.add_zero]at hp;clear hx;have nN:((sb (joinB x.key)).toList == s.toList)=decide (joinB x.key=bl s):=by rw[qmj,qbi]
   by_cases he:joinB x.key=bl s
   ·have hb:((sb (joinB x.key)).toList == s.toList)=true:=by rw[nN];simp[he]
    have HE:Hid (joinB x.key=bl s):=he;clear he nN
    go_wp2
    go_ret
    exact⟨.inl ⟨k,x,rfl,HX.out,HE.out⟩,rfl⟩
   ·have hb:((sb (joinB x.key)).toList == s.toList)=false:=by rw[nN];simp[he]
    clear nN
    go_wp2
    go_round
    case rel =>
     refine⟨k+1,by omega,by go_num,fun j y hj hy=>?_⟩
     rcases Nat.lt_or_ge j k with h1|h1
     ·exact kL.out j y h1 hy
     ·obtain rfl:j=k:=by omega
      rw[HX.out]at hy;cases hy;exact he
    case measure=>simp[intOf];omega
  ·go_wp2
   go_ret
   refine⟨.inr ⟨fun x hx=>?_,rfl⟩,rfl⟩
   obtain⟨j,hj⟩:=xre hx
   exact kL.out j x (by have:=(xr0.1 hj).1;have:=HN.out;omega) hj
theorem qty(a b c e:Int)(w:World):(Op.equalIn 10000 35 (.agg #[vI a,vI b]) (.agg #[vI c,vI e])).run prog w=.ok (a == c&&b == e) w:=by
 rw[show(10000:Nat)=9998+2 from rfl,eq35]
theorem qw0(d:Nat)(a b c e:Int)(w:World):(Op.equalIn (d+2) 60 (.agg #[vI a,vI b]) (.agg #[vI c,vI e])).run prog w=.ok (a == c&&b == e) w:=by
 have u3:=underlying3;have Lx:=underlying60;have z3:=sizeOf3;have a3:=isAgg3;unfold Op.equalIn;simp only[Sem.run_bind,run_underlying Lx,Result.andThen_ok]
 simp[go_sem,z3,a3,List.range',Std.Legacy.Range.forIn_eq_forIn_range',part]
 by_cases h:a=c<;>by_cases k:b=e<;>simp[h,k]
theorem qol(a b c e:Int)(w:World):(Op.equalIn 10000 60 (.agg #[vI a,vI b]) (.agg #[vI c,vI e])).run prog w=.ok (a == c&&b == e) w:=by
 rw[show(10000:Nat)=9998+2 from rfl,qw0]
def qry (W:World)(ao:Option Addr)(l:List (Int×Int)):Prop:=∀(i:Nat) e,l[i]?=some e->∃g,ao=some (vA g 0)/\g<W.heap.size/\W.cell? (vA g (i*2))=some (vI e.1)/\W.cell? (vA g (i*2+1))=some (vI e.2)
def qlf (W:World)(ao:Option Addr)(l:List Int):Prop:=∀(i:Nat) e,l[i]?=some e->∃g,ao=some (vA g 0)/\g<W.heap.size/\W.cell? (vA g i)=some (vI e)
theorem qit{n:Nat}{l:List (Int×Int)}(hn:n=l.length)(hl:n<=1000)(h1:n<=cA/\cA<=maxLen)(h2:n<=cB/\cB<=maxLen)(hA:qry w aA l)(hB:qry w aB l):
  Cl 110 #[.slice aA n cA,.slice aB n cB] w fun e w'=>e=.returned (.bool true)/\Bw w w':=by
 have HN:Hid (n=l.length):=hn;have HA:Hid (qry w aA l):=hA;have HB:Hid (qry w aB l):=hB;clear hn hA hB;have hq:=qol
 go_enter func110,ntmps110
 go_wp2
 go_loopw [5] (fun i wr=>∃k:Nat,k<=n/\i=vI k/\Bw w wr) (fun i _=>n-(intOf i).toNat)
 case atStart=>exact⟨0,Nat.zero_le _,rfl,by exact bel2⟩
 case round =>
  obtain⟨k,hk,rfl,ae⟩:=hrel
  by_cases ak:k<n
  ·obtain⟨e,he⟩:∃e,l[k]?=some e:=⟨_,xr1 (by rw[<-HN.out];exact ak)⟩;obtain⟨gA,rfl,lA,p0,p1⟩:=HA.out k e he;obtain⟨gB,rfl,lB,q0,q1⟩:=HB.out k e he;have KU:=(ae.cell (p:=vA gA (k*2)) lA).trans p0;have NW:=(ae.cell (p:=vA gA (k*2+1)) lA).trans p1;have Ld:=(ae.cell (p:=vA gB (k*2)) lB).trans q0;have Ew:=(ae.cell (p:=vA gB (k*2+1)) lB).trans q1;clear he p0 p1 q0 q1;have nr:(k:Int)<n:=by omega
   have f_:(0:Int)<=k:=by omega
   go_wp2_with fail
   go_quiet (fail)
   go_wp2_with fail
   exact⟨⟨k+1,by omega,by go_num,xrm ae _⟩,by simp[intOf];omega⟩
  ·go_wp2
   go_ret
   exact⟨rfl,ae⟩
theorem qkp{n:Nat}{l:List Int}(hn:n=l.length)(hl:n<=1000)(h1:n<=cA/\cA<=maxLen)(h2:n<=cB/\cB<=maxLen)(hA:qlf w aA l)(hB:qlf w aB l)(p:ByteArray)(lf:Bool)(a b c d u v:Int):
  Cl 125 #[.agg #[.string p,.bool lf,vI a,vI b,vI c,vI d,vI u,vI v,.slice aA n cA],.agg #[.string p,.bool lf,vI a,vI b,vI c,vI d,vI u,vI v,.slice aB n cB]] w
   fun e w'=>e=.returned (.bool true)/\Bw w w':=by
 have HN:Hid (n=l.length):=hn;have HA:Hid (qlf w aA l):=hA;have HB:Hid (qlf w aB l):=hB;clear hn hA hB;have hq:=qty;have b2:Blk ((w.alloc (.cells #[.string p,.bool lf,vI a,vI b,vI c,vI d,vI u,vI v,.slice aA n cA] 37)).alloc (.cells #[.string p,.bool lf,vI a,vI b,vI c,vI d,vI u,vI v,.slice aB n cB] 37)) w.heap.size 37 #[.string p,.bool lf,vI a,vI b,vI c,vI d,vI u,vI v,.slice aA n cA]:=by exact blk2
 have b3:Blk ((w.alloc (.cells #[.string p,.bool lf,vI a,vI b,vI c,vI d,vI u,vI v,.slice aA n cA] 37)).alloc (.cells #[.string p,.bool lf,vI a,vI b,vI c,vI d,vI u,vI v,.slice aB n cB] 37)) (w.heap.size+1) 37 #[.string p,.bool lf,vI a,vI b,vI c,vI d,vI u,vI v,.slice aB n cB]:=Blk.new' (by simp);have aO:Bw w ((w.alloc (.cells #[.string p,.bool lf,vI a,vI b,vI c,vI d,vI u,vI v,.slice aA n cA] 37)).alloc (.cells #[.string p,.bool lf,vI a,vI b,vI c,vI d,vI u,vI v,.slice aB n cB] 37)):=by exact bel2
 go_enter func125,ntmps125
 go_wp2_with fail
 generalize ((w.alloc (.cells #[.string p,.bool lf,vI a,vI b,vI c,vI d,vI u,vI v,.slice aA n cA] 37)).alloc (.cells #[.string p,.bool lf,vI a,vI b,vI c,vI d,vI u,vI v,.slice aB n cB] 37))=W0 at b2 b3 aO ⊢
 go_loopw [5] (fun i wr=>∃k:Nat,k<=n/\i=vI k/\Bw W0 wr) (fun i _=>n-(intOf i).toNat)
 case atStart=>exact⟨0,Nat.zero_le _,rfl,Below.refl _ _⟩
 case round =>
  obtain⟨k,hk,rfl,ng⟩:=hrel;have ae:=aO.trans (ng.mono aO.size);have c2:=b2.below ng b2.lt;have c3:=b3.below ng b3.lt;have z2:=c2.cell 8;have z3:=c3.cell 8;have m2:=c2.lt;have m3:=c3.lt;simp only[xq0,xq1,xq2]at z2 z3
  by_cases ak:k<n
  ·obtain⟨e,he⟩:∃e,l[k]?=some e:=⟨_,xr1 (by rw[<-HN.out];exact ak)⟩;obtain⟨gA,Jn,lA,p0⟩:=HA.out k e he;obtain⟨gB,Jo,lB,q0⟩:=HB.out k e he;rw[Jn]at z2;rw[Jo]at z3;have KU:=(ae.cell (p:=vA gA k) lA).trans p0;have Ld:=(ae.cell (p:=vA gB k) lB).trans q0;clear he p0 q0;have nr:(k:Int)<n:=by omega
   have f_:(0:Int)<=k:=by omega
   go_wp2_with fail
   go_quiet (fail)
   go_wp2_with fail
   exact⟨⟨k+1,by omega,by go_num,xrm ng _⟩,by simp[intOf];omega⟩
  ·go_wp2
   go_ret
   exact⟨rfl,ae⟩
def qdv (W:World)(c:Nat)(v:Value)(m:Int):Prop :=
 v=v0_\/∃b len cap,v=vS b len cap/\len<=1000/\len<=cap/\cap<=maxLen/\b<W.heap.size/\∀j,j<len*c->W.cell? (vA b j)=some (vI m)
def ints (ms:List Int):List Value:=ms.map fun m=>vI m
structure qdz (W:World) (c:Nat) (tl:TypeId) (sl tp:Value) (ns:List Value) (ms:List Int):Prop where
 row:W.ownsRow 0 tl 1 sl ns.length ns
 mrow:W.ownsRow 0 3 1 tp ms.length (ints ms)
 len:ns.length=ms.length
 ok:∀(i:Nat) v m,ns[i]?=some v->ms[i]?=some m->qdv W c v m
theorem qdr{t:TypeId}{n:Nat}(h:W.ownsRow 0 t 1 sl n xs):∃ao cap,sl=.slice ao n cap/\n<=cap/\cap<=maxLen/\∀(i:Nat) v,xs[i]?=some v->∃g,ao=some (vA g 0)/\g<W.heap.size/\W.cell? (vA g i)=some v:=by
 rcases h.2 with ⟨rfl,rfl⟩|⟨g,cap,aD,rfl,_,hg,h1,h2,h3⟩
 ·refine⟨none,0,rfl,Nat.le_refl _,Nat.zero_le _,fun i v hv=>?_⟩
  have:=h.1
  rw[List.getElem?_eq_none (by omega)]at hv;cases hv
 ·refine⟨_,cap,rfl,h1,h2,fun i v hv=>⟨g,rfl,(xrc.1 hg).1,?_⟩⟩
  have:=h.cells (g:=g) rfl i v hv
  rwa[Addr.add_lit,Nat.zero_add]at this
theorem qhq(hb:Blk W bw 84 #[cd,bO,cC,bL,cy])(hN:qdz W 1 25 bO bL ns ms)(hE:qdz W 2 48 cC cy es me)
  (kH:ns.length<=1000000000) (gx:es.length<=1000000000) :
  Cl 37 #[vP bw] W fun e w'=>e=.returned (.bool true)/\Bw W w':=by
 obtain⟨aN,cN,rfl,n1,n2,n3⟩:=qdr hN.row;obtain⟨aE,cE,rfl,e1,e2,e3⟩:=qdr hE.row;obtain⟨aA,cA,rfl,a1,a2,a3⟩:=qdr hN.mrow;obtain⟨aB,cB,rfl,b1,b2,b3⟩:=qdr hE.mrow;have wL:=hN.len;have yu:=hE.len;have xV:=hN.ok;have xM:=hE.ok;clear hN hE;have c1:=hb.cell 1;have c2:=hb.cell 2;have c3:=hb.cell 3;have c4:=hb.cell 4;simp only[xq0,xq1,xq2]at c1 c2 c3 c4;rw[<-wL]at c3 a1;rw[<-yu]at c4 b1;obtain⟨n,hn⟩:∃n,n=ns.length:=⟨_,rfl⟩;obtain⟨q,hq⟩:∃q,q=es.length:=⟨_,rfl⟩;rw[<-hn]at c1 c3 kH n1 a1;rw[<-hq]at c2 c4 gx e1 b1;have HN:Hid (n=ns.length/\ns.length=ms.length):=⟨hn,wL⟩;have HQ:Hid (q=es.length/\es.length=me.length):=⟨hq,yu⟩;have Bz:Hid (∀(i:Nat) v m,ns[i]?=some v->ms[i]?=some m->qdv W 1 v m):=xV;have Bo:Hid (∀(i:Nat) v m,es[i]?=some v->me[i]?=some m->qdv W 2 v m):=xM;clear hn hq wL yu xV xM;have cn:=hb.lt;have HC:Hid (∀W',Bw W W'->W'.cell? (vA bw 1)=some (.slice aN n cN)/\W'.cell? (vA bw 2)=some (.slice aE q cE)/\W'.cell? (vA bw 3)=some (.slice aA n cA)/\W'.cell? (vA bw 4)=some (.slice aB q cB)):=by
  suffices hh:(∀W',Bw W W'->W'.cell? (vA bw 1)=some (.slice aN n cN)/\W'.cell? (vA bw 2)=some (.slice aE q cE)/\W'.cell? (vA bw 3)=some (.slice aA n cA)/\W'.cell? (vA bw 4)=some (.slice aB q cB)) from hh
  exact fun W' hW=>⟨(hW.cell (p:=vA bw 1) cn).trans c1,(hW.cell (p:=vA bw 2) cn).trans c2,(hW.cell (p:=vA bw 3) cn).trans c3,(hW.cell (p:=vA bw 4) cn).trans c4⟩
 clear c1 c2 c3 c4
 go_enter func37,ntmps37
 go_wp2
 go_loopw [3] (fun i wr=>∃k:Nat,k<=n/\i=vI k/\Bw W wr) (fun i _=>n-(intOf i).toNat)
 case atStart=>exact⟨0,Nat.zero_le _,rfl,Below.refl _ _⟩
 case round =>
  obtain⟨k,hk,rfl,ae⟩:=hrel;obtain⟨c1,c2,c3,c4⟩:=HC.out _ ae
  by_cases ak:k<n
  ·obtain⟨v,hv⟩:∃v,ns[k]?=some v:=⟨_,xr1 (by rw[<-HN.out.1];exact ak)⟩;obtain⟨m,hm⟩:∃m,ms[k]?=some m:=⟨_,xr1 (by rw[<-HN.out.2,<- HN.out.1];exact ak)⟩;obtain⟨gN,rfl,Ft,pN⟩:=n3 k v hv;obtain⟨gA,rfl,Im,pA⟩:=a3 k (vI m) (by simp[ints,hm]);have mG:=Bz.out k v m hv hm;clear hv hm n3 a3;have GF:=(ae.cell (p:=vA gN k) Ft).trans pN
   rcases mG with rfl|⟨b,len,cap,rfl,l3,lc,lm,dw,dp⟩
   ·go_wp2
    refine wp_loop_rounds 1 ?_
    rw[rounds_succ]
    go_wp2
    exact⟨⟨k+1,by omega,by go_num,ae⟩,by simp[intOf];omega⟩
   ·simp only[Nat.mul_one]at dp
    go_wp2
    go_loopw [4] (fun j wr=>∃x:Nat,x<=len/\j=vI x/\Bw W wr) (fun j _=>len-(intOf j).toNat)
    case atStart=>exact⟨0,Nat.zero_le _,rfl,ae⟩
    case round =>
     clear c1 c2 c3 c4 GF;obtain⟨x,hx,rfl,cK⟩:=hrel;obtain⟨c1,c2,c3,c4⟩:=HC.out _ cK;have GF:=(cK.cell (p:=vA gN k) Ft).trans pN;have NZ:=(cK.cell (p:=vA gA k) Im).trans pA
     by_cases jD:x<len
     ·have Jc:=(cK.cell (p:=vA b x) dw).trans (dp x jD);clear dp
      go_wp2
      go_quiet (fail)
      go_wp2
      exact⟨⟨x+1,by omega,by go_num,xrm cK _⟩,by simp[intOf];omega⟩
     ·go_wp2
      exact⟨⟨k+1,by omega,by go_num,cK⟩,by simp[intOf];omega⟩
  ·go_wp2
   go_loopw [5] (fun i wr=>∃k:Nat,k<=q/\i=vI k/\Bw W wr) (fun i _=>q-(intOf i).toNat)
   case atStart=>exact⟨0,Nat.zero_le _,rfl,ae⟩
   case round =>
    clear c1 c2 c3 c4;obtain⟨k,hk,rfl,ae⟩:=hrel;obtain⟨c1,c2,c3,c4⟩:=HC.out _ ae
    by_cases ak:k<q
    ·obtain⟨v,hv⟩:∃v,es[k]?=some v:=⟨_,xr1 (by rw[<-HQ.out.1];exact ak)⟩;obtain⟨m,hm⟩:∃m,me[k]?=some m:=⟨_,xr1 (by rw[<-HQ.out.2,<- HQ.out.1];exact ak)⟩;obtain⟨gE,rfl,Fs,pE⟩:=e3 k v hv;obtain⟨gB,rfl,Io,pB⟩:=b3 k (vI m) (by simp[ints,hm]);have mG:=Bo.out k v m hv hm;clear hv hm e3 b3;have GB:=(ae.cell (p:=vA gE k) Fs).trans pE;have Lc:=(ae.cell (p:=vA gB k) Io).trans pB
     rcases mG with rfl|⟨b,len,cap,rfl,l3,lc,lm,dw,dp⟩
     ·go_wp2
      refine wp_loop_rounds 1 ?_
      rw[rounds_succ]
      go_wp2
      exact⟨⟨k+1,by omega,by go_num,ae⟩,by simp[intOf];omega⟩
     ·go_wp2
      go_loopw [7] (fun j wr=>∃x:Nat,x<=len/\j=vI x/\Bw W wr) (fun j _=>len-(intOf j).toNat)
      case atStart=>exact⟨0,Nat.zero_le _,rfl,ae⟩
      case round =>
       clear c1 c2 c3 c4 GB Lc;obtain⟨x,hx,rfl,cK⟩:=hrel;obtain⟨c1,c2,c3,c4⟩:=HC.out _ cK;have GB:=(cK.cell (p:=vA gE k) Fs).trans pE
       by_cases jD:x<len
       ·have Jc:=(cK.cell (p:=vA b (x*2)) dw).trans (dp (x*2) (by omega));have MJ:=(cK.cell (p:=vA b (x*2+1)) dw).trans (dp (x*2+1) (by omega));clear dp;have MX:=qol
        go_wp2
        exact⟨⟨x+1,by omega,by go_num,cK⟩,by simp[intOf];omega⟩
       ·go_wp2
        exact⟨⟨k+1,by omega,by go_num,cK⟩,by simp[intOf];omega⟩
    ·go_wp2
     go_ret
     exact⟨rfl,ae⟩
end Go.Proofs.YtphclnolomgjoaaGreatDoor
