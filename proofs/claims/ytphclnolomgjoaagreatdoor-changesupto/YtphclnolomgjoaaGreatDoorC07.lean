import Derived.Test.YtphclnolomgjoaaGreatDoorC06
import Derived.Deep.RegionHeld3
import Derived.Deep.CutRange
set_option linter.unusedVariables false
set_option linter.unusedSimpArgs false
set_option maxRecDepth 100000
set_option maxHeartbeats 4000000
namespace Go.Proofs.YtphclnolomgjoaaGreatDoor
open Tryz
open Go.RowKit
variable {W W' w:World}{ao:Option Addr}{B br cW cap i size:Nat}{L:List Ent}{k:List Bs}{sl v1 v2 v3:Value}{cnt st:Int}{e:TypeId}{xs:List Value}
theorem qh1(s:ByteArray)(hs:s.size<=2000000)(hv:qar (bl s)=false)(w:World):
  Cl 113 #[.string s] w fun e w'=>e=.returned (.tuple #[v0_,.bool false])/\Bw w w':=by
 refine(ql8 s hs w).mono ?_
 rintro e w' ⟨(⟨_,rfl⟩|⟨h,_⟩),hb⟩
 ·exact⟨rfl,hb⟩
 ·rw[hv]at h;cases h
structure NRow (W:World) (l:List Bs) (ao:Option Addr) (cap:Nat):Prop where
 le:l.length<=cap
 mx:cap<=maxLen
 cell:∀(j:Nat) (x:Bs),l[j]?=some x->∃g,ao=some (vA g 0)/\g<W.heap.size/\W.cell? (vA g j)=some (.string (sb x))
theorem NRow.below{l:List Bs}(h:NRow W l ao cap)(hb:Bw W W'):NRow W' l ao cap :=
 ⟨h.le,h.mx,fun j x hx=>by
  obtain⟨g,h1,h2,h3⟩:=h.cell j x hx
  exact⟨g,h1,xrg h2 hb.size,(hb.cell (p:=vA g j) h2).trans h3⟩⟩
theorem qdd(s:ByteArray)(hs:s.size<=2000000)(hv:qar (bl s)=true)(w:World):
  Cl 113 #[.string s] w fun e w'=>(∃ao cap,e=.returned (.tuple #[.slice ao (qaa (bl s)).length cap,.bool true])/\NRow w' (qaa (bl s)) ao cap)/\Bw w w':=by
 refine(ql8 s hs w).mono ?_
 rintro e w' ⟨(⟨h,_⟩|⟨_,sl,rfl,av⟩),hb⟩
 ·rw[hv]at h;cases h
 ·refine⟨?_,hb⟩
  obtain⟨hl,hr⟩:=av
  rcases hr with ⟨rfl,h0⟩|⟨g,cap,aD,rfl,eO,hg,h1,h2,h3,h4⟩
  ·exact⟨none,0,by rw[h0],by omega,Nat.zero_le _,fun j x hx=>by rw[List.getElem?_eq_none (by omega)]at hx;cases hx⟩
  ·refine⟨_,_,rfl,h1,h2,fun j x hx=>⟨g,rfl,(xrc.1 hg).1,?_⟩⟩
   unfold World.cell?;simp only[hg];have oa:(strs (qaa (bl s)))[j]?=some (.string (sb x)):=by simp[strs,hx]
   rw[<-h4]at oa;have ak:=(xr0.1 hx).1;rw[List.getElem?_take_of_lt (by omega)]at oa
   simpa using oa
theorem qqb(aH:∀a∈L,∀b∈L,a.key=b.key->a=b){x:Ent}(hx:x∈L)(hk:x.key=k):qcv L k=some x:=by
 unfold qcv
 cases h:L.find? fun n=>n.key == k with
 |none=>have:=List.find?_eq_none.1 h x hx;simp[hk]at this
 |some m =>
  have h1:=List.mem_of_find?_eq_some h;have h2:=List.find?_some h
  simp at h2
  rw[aH m h1 x hx (by rw[h2,hk])]
theorem qpl(h:∀n∈L,n.key≠k):qcv L k=none:=by
 unfold qcv;rw[List.find?_eq_none];intro n hn;simpa using h n hn
def AtK (L:List Ent)(k:List Bs)(e:Ending):Prop :=
 (qcv L k=none/\e=.returned (vI (-1)))\/(∃(i:Nat) (x:Ent),qcv L k=some x/\L[i]?=some x/\e=.returned (vI i))
theorem qst{g:Nat}(h:qc9 w br g cap L v1 v2 v3)(E:Ents L)(aH:∀a∈L,∀b∈L,a.key=b.key->a=b)(s:ByteArray)(k:List Bs)(hk:qbn k=true)(hs:bl s=joinB k):
  Cl 114 #[vP br,.string s] w fun e w'=>AtK L k e/\w'=w:=by
 refine(qwn h (by have:=E.len;omega) s).mono ?_
 rintro e w' ⟨h1,rfl⟩
 refine⟨?_,rfl⟩
 rcases h1 with ⟨i,x,rfl,hx,he⟩|⟨a7,rfl⟩
 ·have cg:=xr2 hx
  exact .inr ⟨i,x,qqb aH cg (qe5 (E.ok x cg).1 hk (by rw[he,hs])),hx,rfl⟩
 ·exact .inl ⟨qpl (fun x hx e=>a7 x hx (by rw[e,hs])),rfl⟩
def qeg (v1 v2 v3:Value)(br g:Nat)(L:List Ent)(x:Ent)(err:Int)(w:World)(e:Ending)(w':World):Prop :=
 e=.returned (vI err)/\((err≠0/\Bw w w')\/(err=0/\∃g' cap',qc9 w' br g' cap' (L++[x]) v1 v2 v3/\Keep (fun b=>b=br\/b=g) w w'/\(g'=g\/w.heap.size<=g')))
theorem qwl:(prog.info? 163).map (fun i=>(i.size,i.bytes))=some (6,56):=by kernel_rfl
theorem qdt{g cap:Nat}(s:ByteArray)(hs:s.size<=2000000)(leaf:Bool)(a b c d:Int)(x:Ent)(err:Int)
  (ft:(qar (bl s)=false/\err=1)\/(qar (bl s)=true/\bl s=[]/\err=2)\/(qar (bl s)=true/\bl s≠[]/\(qao a b=false\/qao c d=false)/\err=6) \/
   (qar (bl s)=true/\bl s≠[]/\qao a b=true/\qao c d=true/\4<(qaa (bl s)).length/\(qaa (bl s)).length<=3000000/\err=8)) :
  Cl 108 #[vP br,.agg #[.string s,.bool leaf,vI a,vI b,vI c,vI d]] w (qeg v1 v2 v3 br g L x err w):=by
 have dt:=fun W=>qcg a b W
 have dy:=fun W=>qcg c d W
 have b0:Blk (w.alloc (.cells #[.string s,.bool leaf,vI a,vI b,vI c,vI d] 163)) w.heap.size 163 _:=Blk.new w 163 _
 rcases ft with ⟨hv,rfl⟩|⟨hv,h0,rfl⟩|⟨hv,h0,jU,rfl⟩|⟨hv,h0,AJ,jU,hd,AI,rfl⟩
 ·have hn:=fun W=>qh1 s hs hv W
  go_enter func108,ntmps108
  go_wp2_with (first
   |(go_at_call 113;refine(hn _).mono ?_;rintro e w1 ⟨rfl,aa⟩;have aj:Bw w w1:=qac (by exact bel2) aa;have b1:=b0.below aa (by simp);have aY:=b1.cell)
   |(go_at_call 115;refine(dt _).mono ?_;clear dt;rintro e w2 ⟨rfl,af⟩;have aw:Bw w w2:=qac aj af;have b2:=b1.below af (by have:=aa.size;simp at this;omega);have fq:=b2.cell;clear aY)
   |(go_at_call 115;refine(dy _).mono ?_;rintro e w3 ⟨rfl,ax⟩;have aK:Bw w w3:=qac aw ax))
  all_goals go_ret
  all_goals exact⟨rfl,.inl ⟨by decide,aK⟩⟩
 ·have hn:=fun W=>qdd s hs hv W
  have hz:s=⟨#[]⟩:=qer (h0.trans qh4.symm);subst hz
  go_enter func108,ntmps108
  go_wp2_with (first
   |(go_at_call 113;refine(hn _).mono ?_;rintro e w1 ⟨⟨ao,cp,rfl,au⟩,aa⟩;have aj:Bw w w1:=qac (by exact bel2) aa;have b1:=b0.below aa (by simp);have aY:=b1.cell)
   |(go_at_call 115;refine(dt _).mono ?_;clear dt;rintro e w2 ⟨rfl,af⟩;have aw:Bw w w2:=qac aj af;have b2:=b1.below af (by have:=aa.size;simp at this;omega);have fq:=b2.cell;clear aY)
   |(go_at_call 115;refine(dy _).mono ?_;clear dy;rintro e w3 ⟨rfl,ax⟩;have aK:Bw w w3:=qac aw ax;have b3:=b2.below ax (by have:=aa.size;have:=af.size;simp at *;omega);have mo:=b3.cell;clear fq))
  all_goals go_ret
  all_goals exact⟨rfl,.inl ⟨by decide,aK⟩⟩
 ·have hn:=fun W=>qdd s hs hv W
  have hq:(s.toList.isEmpty)=false:=by rw[qaz];simpa using h0
  cases hA:qao a b
  ·rw[hA]at dt;clear jU
   go_enter func108,ntmps108
   go_wp2_with (first
   |(go_at_call 113;refine(hn _).mono ?_;rintro e w1 ⟨⟨ao,cp,rfl,au⟩,aa⟩;have aj:Bw w w1:=qac (by exact bel2) aa;have b1:=b0.below aa (by simp);have aY:=b1.cell)
   |(go_at_call 115;refine(dt _).mono ?_;clear dt;rintro e w2 ⟨rfl,af⟩;have aw:Bw w w2:=qac aj af;have b2:=b1.below af (by have:=aa.size;simp at this;omega);have fq:=b2.cell;clear aY)
   |(go_at_call 115;refine(dy _).mono ?_;clear dy;rintro e w3 ⟨rfl,ax⟩;have aK:Bw w w3:=qac aw ax;have b3:=b2.below ax (by have:=aa.size;have:=af.size;simp at *;omega);have mo:=b3.cell;clear fq))
   all_goals go_ret
   all_goals exact⟨rfl,.inl ⟨by decide,aK⟩⟩
  ·have hB:qao c d=false:=by rcases jU with h|h;rw[hA]at h;cases h;exact h
   rw[hA]at dt;rw[hB]at dy;clear jU
   go_enter func108,ntmps108
   go_wp2_with (first
   |(go_at_call 113;refine(hn _).mono ?_;rintro e w1 ⟨⟨ao,cp,rfl,au⟩,aa⟩;have aj:Bw w w1:=qac (by exact bel2) aa;have b1:=b0.below aa (by simp);have aY:=b1.cell)
   |(go_at_call 115;refine(dt _).mono ?_;clear dt;rintro e w2 ⟨rfl,af⟩;have aw:Bw w w2:=qac aj af;have b2:=b1.below af (by have:=aa.size;simp at this;omega);have fq:=b2.cell;clear aY)
   |(go_at_call 115;refine(dy _).mono ?_;clear dy;rintro e w3 ⟨rfl,ax⟩;have aK:Bw w w3:=qac aw ax;have b3:=b2.below ax (by have:=aa.size;have:=af.size;simp at *;omega);have mo:=b3.cell;clear fq))
   all_goals go_ret
   all_goals exact⟨rfl,.inl ⟨by decide,aK⟩⟩
 ·have hn:=fun W=>qdd s hs hv W
  have hq:(s.toList.isEmpty)=false:=by rw[qaz];simpa using h0
  rw[AJ]at dt;rw[jU]at dy;obtain⟨N,hN⟩:∃N,N=(qaa (bl s)).length:=⟨_,rfl⟩;rw[<-hN]at hn hd AI;clear hN
  go_enter func108,ntmps108
  go_wp2_with (first
   |(go_at_call 113;refine(hn _).mono ?_;rintro e w1 ⟨⟨ao,cp,rfl,au⟩,aa⟩;have aj:Bw w w1:=qac (by exact bel2) aa;have b1:=b0.below aa (by simp);have aY:=b1.cell)
   |(go_at_call 115;refine(dt _).mono ?_;clear dt;rintro e w2 ⟨rfl,af⟩;have aw:Bw w w2:=qac aj af;have b2:=b1.below af (by have:=aa.size;simp at this;omega);have fq:=b2.cell;clear aY)
   |(go_at_call 115;refine(dy _).mono ?_;clear dy;rintro e w3 ⟨rfl,ax⟩;have aK:Bw w w3:=qac aw ax;have b3:=b2.below ax (by have:=aa.size;have:=af.size;simp at *;omega);have mo:=b3.cell;clear fq))
  all_goals go_ret
  all_goals exact⟨rfl,.inl ⟨by decide,aK⟩⟩
structure Wk where
 num:Int
 key:List Bs
 d0:Int
 d1:Int
 st:Int
variable {Ws:List Wk}{x y:Wk}
def qbf (x:Wk):List Value:=[vI x.num,.string (sb (joinB x.key)),vI x.d0,vI x.d1,vI x.st]
def qad (L:List Wk):List Value:=L.flatMap qbf
theorem qdo(L:List Wk):(qad L).length=L.length*5:=by
 induction L with
 |nil=>rfl
 |cons a l ih=>simp[qad,qbf]at ih ⊢;omega
theorem qg0:∀(L:List Wk) (i j:Nat) (e:Wk),L[i]?=some e->j<5->(qad L)[i*5+j]?=(qbf e)[j]?
 | [],i,j,e,h,_=>by simp at h
 |a::l,0,j,e,h,hj=>by
  simp at h;subst h
  simp only[qad,List.flatMap_cons,Nat.zero_mul,Nat.zero_add];rw[xrp (by simp[qbf];omega)]
 |a::l,i+1,j,e,h,hj=>by
  have ih:=qg0 l i j e (by simpa using h) hj;simp only[qad,List.flatMap_cons]at ih ⊢;rw[xro (by simp[qbf];omega)];rw[show(i+1)*5+j-(qbf a).length=i*5+j by simp[qbf];omega]
  exact ih
structure Wks (Ws:List Wk):Prop where
 ok:∀x∈Ws,qbn x.key=true/\x.key.length<=4
 num:∀x∈Ws,(0<=x.d0/\x.d0<=1000)/\(0<=x.d1/\x.d1<=1000)
 len:Ws.length<=24
theorem Wks.small(h:Wks Ws)(hx:x∈Ws):(sb (joinB x.key)).size<=2000000:=by
 rw[qd3];have:=qgm _ (h.ok x hx).1;have:=(h.ok x hx).2;omega
structure GRef (W:World) (br g cap:Nat) (L:List Ent) (ao:Option Addr) (cW:Nat) (Ws:List Wk) (cnt st:Int):Prop where
 ref:qc9 W br g cap L (.slice ao Ws.length cW) (vI cnt) (vI st)
 wrow:W.ownsRow 0 178 5 (.slice ao Ws.length cW) Ws.length (qad Ws)
 ne1:∀b,(Value.slice ao Ws.length cW).ownBlock=some b->b≠br/\b≠g
theorem GRef.below{g:Nat}(h:GRef W br g cap L ao cW Ws cnt st)(hb:Bw W W'):GRef W' br g cap L ao cW Ws cnt st :=
 ⟨h.ref.below hb,qab (T:=fun _=>False) h.wrow (Keep.new hb) (fun _ _ h=>h),h.ne1⟩
theorem GRef.wk{g:Nat}(h:GRef W br g cap L ao cW Ws cnt st)(hi:Ws[i]?=some x):
  ∃b,ao=some (vA b 0)/\b<W.heap.size/\Ws.length<=cW/\cW<=maxLen/\W.cell? (vA b (i*5))=some (vI x.num)/\W.cell? (vA b (i*5+1))=some (.string (sb (joinB x.key)))/\W.cell? (vA b (i*5+2))=some (vI x.d0)/\W.cell? (vA b (i*5+3))=some (vI x.d1)/\W.cell? (vA b (i*5+4))=some (vI x.st):=by
 obtain⟨b,c,hv,h1,h2⟩:=qat h.wrow (Nat.lt_of_le_of_lt (Nat.zero_le _) (xr0.1 hi).1);injection hv with e1 _ e3;subst e1 e3;have key:∀j v,j<5->(qbf x)[j]?=some v->W.cell? (vA b (i*5+j))=some v:=fun j v hj hv=>by
  have:=h.wrow.cells (g:=b) rfl (i*5+j) v (by rw[qg0 Ws i j x hi hj];exact hv)
  rwa[Addr.add_lit,Nat.zero_add]at this
 exact⟨b,rfl,qal h.wrow rfl,h1,h2,key 0 _ (by omega) rfl,key 1 _ (by omega) rfl,key 2 _ (by omega) rfl,key 3 _ (by omega) rfl,key 4 _ (by omega) rfl⟩
def qae (Ws:List Wk)(s:Bs):List Wk:=Ws.filter fun x=>decide (0<x.st)&&inB (joinB x.key) s
def ws0 (l:List Wk):Int:=(l.map (·.d0)).sum
def ws1 (l:List Wk):Int:=(l.map (·.d1)).sum
theorem qrl(l:List Wk)(h:∀n∈l,0<=n.d0/\n.d0<=1000):0<=ws0 l/\ws0 l<=1000*l.length:=by
 induction l with
 |nil=>simp[ws0]
 |cons a l ih =>
  have h1:=ih (fun n hn=>h n (xru _ hn));have h2:=h a (List.mem_cons_self ..)
  simp[ws0]at h1 ⊢;omega
theorem qqt(l:List Wk)(h:∀n∈l,0<=n.d1/\n.d1<=1000):0<=ws1 l/\ws1 l<=1000*l.length:=by
 induction l with
 |nil=>simp[ws1]
 |cons a l ih =>
  have h1:=ih (fun n hn=>h n (xru _ hn));have h2:=h a (List.mem_cons_self ..)
  simp[ws1]at h1 ⊢;omega
theorem qke(h:Wks Ws)(s:Bs):(0<=ws0 (qae Ws s)/\ws0 (qae Ws s)<=24000)/\(0<=ws1 (qae Ws s)/\ws1 (qae Ws s)<=24000):=by
 have aF:∀e∈qae Ws s,e∈Ws:=fun e he=>(xrr.1 he).1
 have an:(qae Ws s).length<=24:=Nat.le_trans (xrh _ _) h.len;have s0:=qrl (qae Ws s) (fun e he=>(h.num e (aF e he)).1);have s1:=qqt (qae Ws s) (fun e he=>(h.num e (aF e he)).2)
 omega
theorem qe7{g:Nat}(h:GRef w br g cap L ao cW Ws cnt st)(E:Wks Ws)(s:ByteArray)(hs:s.size<=2000000):
  Cl 204 #[vP br,.string s] w fun e w'=>e=.returned (.agg #[vI (ws0 (qae Ws (bl s))),vI (ws1 (qae Ws (bl s)))])/\Bw w w':=by
 have bR:=h.ref.at_.lt;obtain⟨n,hn⟩:∃n,n=Ws.length:=⟨_,rfl⟩;have cP:=E.len;rw[<-hn]at cP;have HN:Hid (n=Ws.length):=hn;have dL:w.cell? (vA br 1)=some (.slice ao n cW):=by have:=h.ref.at_.cell 1;rw[hn];simpa using this
 clear hn
 go_enter func204,ntmps204
 go_wp2
 go_loopw [6] (fun i wr=>∃k:Nat,k<=n/\i=vI k/\Bw w wr/\Blk wr w.heap.size 35 #[vI 0,vI 0]/\Blk wr (w.heap.size+1) 35 #[vI (ws0 (qae (Ws.take k) (bl s))),vI (ws1 (qae (Ws.take k) (bl s)))])
  (fun i _=>n-(intOf i).toNat)
 case atStart=>exact⟨0,Nat.zero_le _,rfl,by exact bel2,by exact blk2,by refine Blk.new' ?_;simp⟩
 case round =>
  obtain⟨k,hk,rfl,ae,a_,aG⟩:=hrel;have hR:=h.below ae;have hc:=(ae.cell (p:=vA br 1) bR).trans dL
  by_cases ak:k<n
  ·have aV:k<Ws.length:=by rw[<-HN.out];exact ak
   obtain⟨x,hx⟩:∃x,Ws[k]?=some x:=⟨_,xr1 aV⟩;have HT:Hid (Ws.take (k+1)=Ws.take k++[x]):=by
    rw[xrf aV];rw[xr1 aV]at hx;cases hx;rfl
   have cg:=xr2 hx;obtain⟨b,eT,dw,eQ,jq,p0,p1,p2,p3,p4⟩:=hR.wk hx;have yh:b<w.heap.size:=qal h.wrow (by rw[eT];rfl);subst eT;have cH:=fun W=>qk9 (sb (joinB x.key)) s W (E.small cg) hs
   rw[qbi]at cH;have x0:=(E.num x cg).1;have x1:=(E.num x cg).2;have aF:∀e∈qae (Ws.take k) (bl s),e∈Ws:=fun e he=>List.mem_of_mem_take (xrr.1 he).1
   have s0:=qrl (qae (Ws.take k) (bl s)) (fun e he=>(E.num e (aF e he)).1);have s1:=qqt (qae (Ws.take k) (bl s)) (fun e he=>(E.num e (aF e he)).2);have an:(qae (Ws.take k) (bl s)).length<=24:=by
    refine Nat.le_trans (xrh _ _) ?_
    simp;have:=HN.out;omega
   have oB:qae (Ws.take (k+1)) (bl s)=qae (Ws.take k) (bl s)++(if decide (0<x.st)&&inB (joinB x.key) (bl s) then [x] else []):=by
    unfold qae;rw[HT.out,List.filter_append];simp[xrz]
   have HE:Hid (qae (Ws.take (k+1)) (bl s)=qae (Ws.take k) (bl s)++(if decide (0<x.st)&&inB (joinB x.key) (bl s) then [x] else [])):=oB;clear oB;clear hx;obtain⟨e0,mv⟩:∃e0,e0=ws0 (qae (Ws.take k) (bl s)):=⟨_,rfl⟩;obtain⟨e1,ni⟩:∃e1,e1=ws1 (qae (Ws.take k) (bl s)):=⟨_,rfl⟩;rw[<-mv]at aG s0;rw[<-ni]at aG s1;have qk:Hid (e0=ws0 (qae (Ws.take k) (bl s))):=mv;have ql:Hid (e1=ws1 (qae (Ws.take k) (bl s))):=ni;clear mv ni aF;have d0:=aG.cell 0;have d1:=aG.cell 1;have f0:=aG.frozen 0;have f1:=aG.frozen 1;simp only[xq0,xq1,xq2]at d0 d1;have eO:¬(b=w.heap.size+1):=fun e=>by omega
   have rl:¬(br=w.heap.size+1):=fun e=>by omega
   by_cases hl:0<x.st
   ·cases hi:inB (joinB x.key) (bl s)
    ·rw[hi]at cH
     go_wp2_with (go_at_call 121;refine(cH _).mono ?_;rintro e w1 ⟨rfl,bX⟩;subst bX)
     refine⟨⟨k+1,by omega,by go_num,ae,a_,?_⟩,by simp[intOf];omega⟩
     have:=HE.out;rw[hi]at this;rw[this];have:=qk.out;have:=ql.out;subst e0 e1;simpa using aG
    ·rw[hi]at cH
     go_wp2_with (go_at_call 121;refine(cH _).mono ?_;rintro e w1 ⟨rfl,bX⟩;subst bX)
     clear cH
     go_region
     go_wp2
     go_region
     go_wp2
     refine⟨⟨k+1,by omega,by go_num,((ae.setCell (by simp) _).setCell (by simp) _).drew.drew,((a_.other _ _ (by simp)).other _ _ (by simp)).drew.drew,?_⟩,by simp[intOf];omega⟩
     have gW:=(((aG.set 0 (vI (e0+x.d0))).set 1 (vI (e1+x.d1)))).drew.drew;have h1:=HE.out;rw[hi]at h1;rw[h1];have h2:=qk.out;have h3:=ql.out;subst e0 e1
     simpa [ws0,ws1,hl] using gW
   ·have uw:(decide (0<x.st)&&inB (joinB x.key) (bl s))=false:=by rw[decide_eq_false hl];rfl
    have HD:Hid ((decide (0<x.st)&&inB (joinB x.key) (bl s))=false):=uw;clear uw
    go_wp2_with (go_at_call 121;refine(cH _).mono ?_;rintro e w1 ⟨rfl,bX⟩;subst bX)
    refine⟨⟨k+1,by omega,by go_num,ae,a_,?_⟩,by simp[intOf];omega⟩
    have:=HE.out;rw[HD.out]at this;rw[this];have:=qk.out;have:=ql.out;subst e0 e1;simpa using aG
  ·have d0:=aG.cell 0;have d1:=aG.cell 1;have c0:=a_.cell 0;have c1:=a_.cell 1;have f0:=a_.frozen 0;have f1:=a_.frozen 1;simp only[xq0,xq1,xq2]at d0 d1 c0 c1
   go_wp2
   have sg:Ws.take k=Ws:=xrd (by rw[<-HN.out];omega);have pd:=(a_.set 0 (vI (ws0 (qae (Ws.take k) (bl s))))).set 1 (vI (ws1 (qae (Ws.take k) (bl s))));have fR:=pd.cell;rw[sg]at fR
   refine xrn (v:=.agg #[vI (ws0 (qae Ws (bl s))),vI (ws1 (qae Ws (bl s)))]) ?_ rfl ⟨rfl,by exact bel2⟩
   rw[sg]
   simp[results,results204,go_sem,fR]
def sh0 (L:List Ent)(Ws:List Wk)(x:Ent)(d:Int):Bool:=decide (ws0 (qae Ws (joinB x.key))+d>es0 (qaf L (joinB x.key))+x.b0)
def sh1 (L:List Ent)(Ws:List Wk)(x:Ent)(d:Int):Bool:=decide (ws1 (qae Ws (joinB x.key))+d>es1 (qaf L (joinB x.key))+x.b1)
theorem qeo(E:Ents L)(s:Bs):(0<=es0 (qaf L s)/\es0 (qaf L s)<=20000)/\(0<=es1 (qaf L s)/\es1 (qaf L s)<=20000):=by
 have aF:∀e∈qaf L s,e∈L:=fun e he=>(xrr.1 he).1
 have an:(qaf L s).length<=20:=Nat.le_trans (xrh _ _) E.len;have s0:=qus (qaf L s) (fun e he=>(E.num e (aF e he)).1);have s1:=quq (qaf L s) (fun e he=>(E.num e (aF e he)).2)
 omega
theorem qlt{g:Nat}(h:GRef w br g cap L ao cW Ws cnt st)(E:Ents L)(EW:Wks Ws){x:Ent}(hi:L[i]?=some x)(Eh:(0<=x.b0/\x.b0<=1000)/\(0<=x.b1/\x.b1<=1000))(a b:Int)(ha:0<=a/\a<=1000)(hb:0<=b/\b<=1000):
  Cl 202 #[vP br,vI i,.agg #[vI a,vI b]] w fun e w'=>e=.returned (.agg #[.bool (sh0 L Ws x a),.bool (sh1 L Ws x b)])/\Bw w w':=by
 have cg:=xr2 hi;have ey:=(xr0.1 hi).1;have cP:=E.len;have bR:=h.ref.at_.lt;have ct:=(h.ref.row.lt g rfl).2;have cr:=h.ref.qjv;have dS:=fun W (hW:Bw w W)=>qcr (h.ref.below hW) E (sb (joinB x.key)) (E.small cg)
 have fP:=fun W (hW:Bw w W)=>qe7 (h.below hW) EW (sb (joinB x.key)) (E.small cg)
 have xo:=qeo E (joinB x.key);have Av:=qke EW (joinB x.key);have c0:=h.ref.at_.cell 0;have q0:=h.ref.ent hi (j:=0) (v:=.string (sb (joinB x.key))) rfl;have q4:=h.ref.ent hi (j:=4) (v:=vI x.b0) rfl;have q5:=h.ref.ent hi (j:=5) (v:=vI x.b1) rfl;simp only[xq0,xq1,xq2,Nat.add_zero]at c0 q0;rw[qbi]at dS fP;unfold sh0 sh1;obtain⟨n,hn⟩:∃n,n=L.length:=⟨_,rfl⟩;rw[<-hn]at c0 ey cP cr;generalize es0 (qaf L (joinB x.key))=n0 at *;generalize es1 (qaf L (joinB x.key))=n1 at *;generalize ws0 (qae Ws (joinB x.key))=u0 at *;generalize ws1 (qae Ws (joinB x.key))=u1 at *;generalize x.b0=y0 at *;generalize x.b1=y1 at *;generalize sb (joinB x.key)=cw at *;have HC:Hid (∀W,Bw w W->W.cell? (vA br 0)=some (vS g n cap)/\W.cell? (vA g (i*6))=some (.string cw)/\W.cell? (vA g (i*6+4))=some (vI y0)/\W.cell? (vA g (i*6+5))=some (vI y1)):=by
  suffices hh:(∀W,Bw w W->W.cell? (vA br 0)=some (vS g n cap)/\W.cell? (vA g (i*6))=some (.string cw)/\W.cell? (vA g (i*6+4))=some (vI y0)/\W.cell? (vA g (i*6+5))=some (vI y1)) from hh
  exact fun W hW=>⟨(hW.cell (p:=vA br 0) bR).trans c0,(hW.cell (p:=vA g (i*6)) ct).trans q0,(hW.cell (p:=vA g (i*6+4)) ct).trans q4,(hW.cell (p:=vA g (i*6+5)) ct).trans q5⟩
 clear hn h E EW cg hi q4 q5
 go_enter func202,ntmps202
 go_wp2_with fail
 refine(dS _ (by exact bel2)).mono ?_
 rintro e w1 ⟨rfl,aa⟩
 have aj:Bw w w1:=qac (by exact bel2) aa;have gm:Blk w1 w.heap.size 35 #[vI a,vI b]:=Blk.below (by exact blk2) aa (by first|omega|(simp;done)|(simp;omega));have eG:Blk w1 (w.heap.size+1) 242 #[.bool false,.bool false]:=Blk.below (Blk.new' (by simp)) aa (by first|omega|(simp;done)|(simp;omega));clear aa;have G5:=gm.lt;have wY:=eG.lt;have cJ:=aj.size;obtain⟨c1,Le,Lf,Lg⟩:=HC.out w1 aj;clear q0 c0 Lf Lg dS;have NI:¬(br=w1.heap.size):=by omega
 have NJ:¬(g=w1.heap.size):=by omega
 have N7:br<w1.heap.size:=by omega
 have N8:g<w1.heap.size:=by omega
 go_wp2_with fail
 refine(fP _ (by exact bel2)).mono ?_
 rintro e w2 ⟨rfl,af⟩
 have aw:Bw w w2:=qac (by exact bel2) af;have gH:Blk w2 w.heap.size 35 #[vI a,vI b]:=Blk.below (by exact blk2) af (by first|omega|(simp;done)|(simp;omega));have dX:Blk w2 (w.heap.size+1) 242 #[.bool false,.bool false]:=Blk.below (by exact blk2) af (by first|omega|(simp;done)|(simp;omega));have eR:Blk w2 w1.heap.size 35 #[vI n0,vI n1]:=Blk.below (Blk.new' rfl) af (by first|omega|(simp;done)|(simp;omega));clear af fP gm eG c1 Le;have En:=gH.lt;have zT:=dX.lt;have Bi:=eR.lt;have dO:=aw.size
 go_wp2_with fail
 have wa:Blk ((w2.alloc (.cells #[vI u0,vI u1] 35)).alloc (.cells #[.bool false,.bool false] 242)) w.heap.size 35 #[vI a,vI b]:=by exact blk2
 have gr:Blk ((w2.alloc (.cells #[vI u0,vI u1] 35)).alloc (.cells #[.bool false,.bool false] 242)) (w.heap.size+1) 242 #[.bool false,.bool false]:=by exact blk2
 have eS:Blk ((w2.alloc (.cells #[vI u0,vI u1] 35)).alloc (.cells #[.bool false,.bool false] 242)) w1.heap.size 35 #[vI n0,vI n1]:=by exact blk2
 have oK:Blk ((w2.alloc (.cells #[vI u0,vI u1] 35)).alloc (.cells #[.bool false,.bool false] 242)) w2.heap.size 35 #[vI u0,vI u1]:=by exact blk2
 have nF:Blk ((w2.alloc (.cells #[vI u0,vI u1] 35)).alloc (.cells #[.bool false,.bool false] 242)) (w2.heap.size+1) 242 #[.bool false,.bool false]:=Blk.new' (by simp);have aK:Bw w ((w2.alloc (.cells #[vI u0,vI u1] 35)).alloc (.cells #[.bool false,.bool false] 242)):=by exact bel2
 generalize ((w2.alloc (.cells #[vI u0,vI u1] 35)).alloc (.cells #[.bool false,.bool false] 242))=W3 at wa gr eS oK nF aK ⊢;obtain⟨c3,_,Of,Og⟩:=HC.out W3 aK;have qK:=wa.cell 0;have qL:=wa.cell 1;have L6:=gr.cell 0;have L7:=gr.cell 1;have Oz:=gr.frozen 0;have O0:=gr.frozen 1;have L8:=eS.cell 0;have L9:=eS.cell 1;have LA:=oK.cell 0;have LB:=oK.cell 1;have LC:=nF.cell 0;have LD:=nF.cell 1;have O1:=nF.frozen 0;have O2:=nF.frozen 1;simp only[xq0,xq1,xq2]at qK qL L6 L7 L8 L9 LA LB LC LD;have e1:¬(br=w2.heap.size+1):=by omega
 have e2:¬(g=w2.heap.size+1):=by omega
 have e3:¬(w.heap.size=w2.heap.size+1):=by omega
 have e4:¬(w.heap.size+1=w2.heap.size+1):=by omega
 have e5:¬(w1.heap.size=w2.heap.size+1):=by omega
 have e6:¬(w2.heap.size=w2.heap.size+1):=by omega
 refine wp_loop_rounds 3 ?_
 rw[rounds_succ]
 go_wp2_with fail
 go_region
 go_wp2_with fail
 rw[rounds_succ]
 go_wp2_with fail
 go_region
 go_wp2_with fail
 rw[rounds_succ]
 go_wp2_with fail
 have oH:=(((((gr.other (vA (w2.heap.size+1) 0) (.bool (decide (n0+y0<u0+a))) (by simp;omega)).other (vA (w2.heap.size+1) 1) (.bool (decide (n1+y1<u1+b))) (by simp;omega)).set 0 (.bool (decide (n0+y0<u0+a)))).set 1 (.bool (decide (n1+y1<u1+b)))).drew).drew;have fR:=oH.cell
 refine xrn (v:=.agg #[.bool (decide (n0+y0<u0+a)),.bool (decide (n1+y1<u1+b))]) ?_ rfl ⟨rfl,by exact bel2⟩
 simp[results,results202,go_sem,fR]
def ownW (L:List Ent)(Ws:List Wk)(x:Wk):Bool:=decide (ws0 (qae Ws (joinB x.key))+x.d0<=es0 (qaf L (joinB x.key)))&&decide (ws1 (qae Ws (joinB x.key))+x.d1<=es1 (qaf L (joinB x.key)))
structure WkOK (x:Wk):Prop where
 ok:qbn x.key=true/\x.key.length<=4
 n0:0<=x.d0/\x.d0<=1000
 n1:0<=x.d1/\x.d1<=1000
theorem WkOK.small(h:WkOK x):(sb (joinB x.key)).size<=2000000:=by
 rw[qd3];have:=qgm _ h.ok.1;have:=h.ok.2;omega
theorem Wks.at_(h:Wks Ws)(hx:x∈Ws):WkOK x:=⟨h.ok x hx,(h.num x hx).1,(h.num x hx).2⟩
theorem qvg{g:Nat}(h:GRef w br g cap L ao cW Ws cnt st)(E:Ents L)(EW:Wks Ws)(x:Wk)(hx:WkOK x):
  Cl 199 #[vP br,.agg #[vI x.num,.string (sb (joinB x.key)),vI x.d0,vI x.d1,vI x.st]] w fun e w'=>e=.returned (.bool (ownW L Ws x))/\Bw w w':=by
 have bR:=h.ref.at_.lt;have dS:=fun W (hW:Bw w W)=>qcr (h.ref.below hW) E (sb (joinB x.key)) hx.small
 have fP:=fun W (hW:Bw w W)=>qe7 (h.below hW) EW (sb (joinB x.key)) hx.small
 have xo:=qeo E (joinB x.key);have Av:=qke EW (joinB x.key);have Ax:=hx.n0;have tH:=hx.n1;rw[qbi]at dS fP;unfold ownW;generalize es0 (qaf L (joinB x.key))=n0 at *;generalize es1 (qaf L (joinB x.key))=n1 at *;generalize ws0 (qae Ws (joinB x.key))=u0 at *;generalize ws1 (qae Ws (joinB x.key))=u1 at *;generalize sb (joinB x.key)=cw at *;generalize x.d0=a at *;generalize x.d1=b at *;generalize x.num=num at *;generalize x.st=sx at *;clear hx h E EW
 go_enter func199,ntmps199
 go_wp2_with fail
 refine(dS _ (by exact bel2)).mono ?_
 rintro e w1 ⟨rfl,aa⟩
 have aj:Bw w w1:=qac (by exact bel2) aa;have j0:Blk w1 w.heap.size 178 #[vI num,.string cw,vI a,vI b,vI sx]:=Blk.below (by exact blk2) aa (by first|omega|(simp;done)|(simp;omega));clear aa dS;have G4:=j0.lt;have cJ:=aj.size;have p1:=j0.cell 1;simp only[xq0,xq1,xq2]at p1;have e1:¬(w.heap.size=w1.heap.size):=by omega
 go_wp2_with fail
 refine(fP _ (by exact bel2)).mono ?_
 rintro e w2 ⟨rfl,af⟩
 have aw:Bw w w2:=qac (by exact bel2) af;have v_:Blk w2 w.heap.size 178 #[vI num,.string cw,vI a,vI b,vI sx]:=Blk.below (by exact blk2) af (by first|omega|(simp;done)|(simp;omega));have gH:Blk w2 w1.heap.size 35 #[vI n0,vI n1]:=Blk.below (Blk.new' rfl) af (by first|omega|(simp;done)|(simp;omega));clear af fP j0 p1;have Ks:=v_.lt;have En:=gH.lt;have dO:=aw.size;have x2:=v_.cell 2;have x3:=v_.cell 3;have qK:=gH.cell 0;have qL:=gH.cell 1;simp only[xq0,xq1,xq2]at x2 x3 qK qL;have e2:¬(w.heap.size=w2.heap.size):=by omega
 have e3:¬(w1.heap.size=w2.heap.size):=by omega
 by_cases t0:u0+a<=n0
 ·by_cases t1:u1+b<=n1
  ·go_wp2
   go_ret
   exact⟨by simp[t0,t1],by exact bel2⟩
  ·go_wp2
   go_ret
   exact⟨by simp[t0,t1],by exact bel2⟩
 ·go_wp2
  go_ret
  exact⟨by have Lq:¬(u0+a<=n0):=(by omega);simp[Lq],by exact bel2⟩
def qwe (Ws:List Wk)(n:Int)(e:Ending):Prop :=
 (∃(i:Nat) (x:Wk),e=.returned (vI i)/\Ws[i]?=some x/\x.num=n)\/((∀x∈Ws,x.num≠n)/\e=.returned (vI (-1)))
theorem qh6{g:Nat}(h:GRef w br g cap L ao cW Ws cnt st)(EW:Wks Ws)(m:Int):
  Cl 116 #[vP br,vI m] w fun e w'=>qwe Ws m e/\w'=w:=by
 have cP:=EW.len;obtain⟨n,hn⟩:∃n,n=Ws.length:=⟨_,rfl⟩;have hc:w.cell? (vA br 1)=some (.slice ao n cW):=by have:=h.ref.at_.cell 1;rw[hn];simpa using this
 rw[<-hn]at cP;have HN:Hid (n=Ws.length):=hn;clear hn
 go_enter func116,ntmps116
 go_wp2
 go_loop [5] (fun i=>∃k:Nat,k<=n/\i=vI k/\∀j x,j<k->Ws[j]?=some x->x.num≠m) (fun i=>n-(intOf i).toNat)
 case atStart=>exact⟨0,Nat.zero_le _,rfl,fun j x hj=>by omega⟩
 case round =>
  obtain⟨k,hk,rfl,a7⟩:=hrel;have kL:Hid (∀j x,j<k->Ws[j]?=some x->x.num≠m):=a7;clear a7
  by_cases ak:k<n
  ·obtain⟨x,hx⟩:∃x,Ws[k]?=some x:=⟨_,xr1 (by rw[<-HN.out];exact ak)⟩;have HX:Hid (Ws[k]?=some x):=hx;obtain⟨b,eT,dw,eQ,jq,p0,p1,p2,p3,p4⟩:=h.wk hx;subst eT;clear hx p1 p2 p3 p4
   by_cases he:x.num=m
   ·have hb:(x.num == m)=true:=by simp[he]
    have HE:Hid (x.num=m):=he;clear he
    go_wp2
    go_ret
    exact⟨.inl ⟨k,x,rfl,HX.out,HE.out⟩,rfl⟩
   ·have hb:(x.num == m)=false:=by simp[he]
    go_wp2
    go_round
    case rel =>
     refine⟨k+1,by omega,by go_num,fun j y hj hy=>?_⟩
     rcases Nat.lt_or_ge j k with h1|h1
     ·exact kL.out j y h1 hy
     ·obtain rfl:j=k:=by omega
      rw[HX.out]at hy;cases hy;exact he
    case measure=>simp[intOf];omega
  ·go_wp2
   go_ret
   refine⟨.inr ⟨fun x hx=>?_,rfl⟩,rfl⟩
   obtain⟨j,hj⟩:=xre hx
   exact kL.out j x (by have:=(xr0.1 hj).1;have:=HN.out;omega) hj
def Bors (L:List Ent):Prop:=∀e∈L,(0<=e.b0/\e.b0<=1000)/\(0<=e.b1/\e.b1<=1000)
def tight(L:List Ent)(Ws:List Wk)(x:Wk)(e:Ent):Bool:=inB (joinB x.key) (joinB e.key)&&(sh0 L Ws e x.d0||sh1 L Ws e x.d1)
def qbm (L:List Ent)(Ws:List Wk)(x:Wk):Bool:=L.all fun e=>!tight L Ws x e
theorem qoj{g:Nat}(h:GRef w br g cap L ao cW Ws cnt st)(E:Ents L)(EB:Bors L)(EW:Wks Ws)(x:Wk)(hx:WkOK x):
  Cl 159 #[vP br,.agg #[vI x.num,.string (sb (joinB x.key)),vI x.d0,vI x.d1,vI x.st]] w fun e w'=>e=.returned (.bool (qbm L Ws x))/\Bw w w':=by
 have bR:=h.ref.at_.lt;have ct:=(h.ref.row.lt g rfl).2;have cP:=E.len;have cr:=h.ref.qjv;obtain⟨n,hn⟩:∃n,n=L.length:=⟨_,rfl⟩;have dL:w.cell? (vA br 0)=some (vS g n cap):=by have:=h.ref.at_.cell 0;rw[hn];simpa using this
 rw[<-hn]at cP cr;have HN:Hid (n=L.length):=hn;have Ax:=hx.n0;have tH:=hx.n1;clear hn
 go_enter func159,ntmps159
 go_wp2
 go_loopw [5] (fun i wr=>∃k:Nat,k<=n/\i=vI k/\Bw w wr/\Blk wr w.heap.size 178 #[vI x.num,.string (sb (joinB x.key)),vI x.d0,vI x.d1,vI x.st]/\(L.take k).all (fun e=>!tight L Ws x e)=true) (fun i _=>n-(intOf i).toNat)
 case atStart=>exact⟨0,Nat.zero_le _,rfl,by exact bel2,by exact blk2,by simp⟩
 case round =>
  obtain⟨k,hk,rfl,ae,ax,a8⟩:=hrel;have hc:=(ae.cell (p:=vA br 0) bR).trans dL;have cO:Hid ((L.take k).all (fun e=>!tight L Ws x e)=true):=a8;clear a8
  by_cases ak:k<n
  ·have aV:k<L.length:=by rw[<-HN.out];exact ak
   obtain⟨y,hy⟩:∃y,L[k]?=some y:=⟨_,xr1 aV⟩;have HT:Hid (L.take (k+1)=L.take k++[y]):=by
    rw[xrf aV];rw[xr1 aV]at hy;cases hy;rfl
   have eU:=xr2 hy;have HM:Hid (y∈L):=eU;have p0:=(h.ref.below ae).ent hy (j:=0) (v:=.string (sb (joinB y.key))) rfl;simp only[Nat.add_zero]at p0;have cH:=fun W=>qk9 (sb (joinB x.key)) (sb (joinB y.key)) W hx.small (E.small eU)
   rw[qbi,qbi]at cH;have fO:=fun W (hW:Bw w W)=>qlt (h.below hW) E EW hy (EB y eU) x.d0 x.d1 hx.n0 hx.n1
   have lZ:Hid (tight L Ws x y=(inB (joinB x.key) (joinB y.key)&&(sh0 L Ws y x.d0||sh1 L Ws y x.d1))):=rfl;have eX:Hid ((L.take (k+1)).all (fun e=>!tight L Ws x e)=!tight L Ws x y):=by
    show _=_
    rw[HT.out,List.all_append,cO.out];simp
   have a7:Hid (tight L Ws x y=true->qbm L Ws x=false):=by
    intro ht;unfold qbm;rw[List.all_eq_false]
    exact⟨y,HM.out,by simp[ht]⟩
   clear hy eU HT cO;generalize sh0 L Ws y x.d0=s0 at fO lZ;generalize sh1 L Ws y x.d1=s1 at fO lZ;generalize inB (joinB x.key) (joinB y.key)=ab at cH lZ;generalize sb (joinB y.key)=py at p0 cH;generalize tight L Ws x y=tt at lZ eX a7;have Jr:g<wr.heap.size:=xrg ct ae.size;have z1:=ax.cell 1;have z2:=ax.cell 2;have z3:=ax.cell 3;have l3:=ax.lt;simp only[xq0,xq1,xq2]at z1 z2 z3
   go_wp2_with fail
   go_quiet ((go_at_call 121;exact Calls.quiet_of_same (cH _)))
   go_wp2_with fail
   refine(fO _ (xrm ae _)).mono ?_
   rintro e w1 ⟨rfl,aa⟩
   have aj:Bw w w1:=qac (xrm ae _) aa;have j0:Blk w1 w.heap.size 178 #[vI x.num,.string (sb (joinB x.key)),vI x.d0,vI x.d1,vI x.st]:=Blk.below (by exact blk2) aa l3;have cJ:=aj.size;have G4:=j0.lt;clear aa fO cH hc p0 z1 z2 z3 ax
   cases ab<;>cases s0<;>cases s1
   all_goals go_wp2
   all_goals first
    |exact⟨⟨k+1,by omega,by go_num,by exact bel2,by exact blk2,by rw[eX.out,lZ.out];rfl⟩,by simp[intOf];omega⟩
    |(go_ret;exact⟨qa9 (a7.out (by rw[lZ.out];rfl)).symm,by exact bel2⟩)
  ·go_wp2
   go_ret
   have dz:L.take k=L:=xrd (by have:=HN.out;omega);have h1:=cO.out;rw[dz]at h1
   exact⟨qa9 (show true=qbm L Ws x from h1.symm),ae⟩
def qd7 (Ws:List Wk)(i:Nat)(x:Wk):Bool:=(x.st == 0)&&(Ws.take i).all fun y=>decide (0<y.st)||decide (y.key≠x.key)
def headAt(Ws:List Wk)(i:Nat):Bool:=match Ws[i]? with|some x=>qd7 Ws i x|none=>false
def qcw (Ws:List Wk)(k:Nat):List Nat:=(List.range k).filter (headAt Ws)
def qcn (Ws:List Wk):List Nat:=qcw Ws Ws.length
def nats (l:List Nat):List Value:=l.map fun (i:Nat)=>vI i
theorem qrr{n:Nat}(h:W.ownsRow B e size sl n xs)(hb:Bw W W'):W'.ownsRow B e size sl n xs:=by
 obtain⟨hl,hr⟩:=h
 refine⟨hl,?_⟩
 rcases hr with hr|⟨g',cap',aD,rfl,eO,hg,rest⟩
 ·exact .inl hr
 ·exact .inr ⟨g',cap',aD,rfl,eO,(hb.block g' (xrc.1 hg).1).trans hg,rest⟩
theorem qlz(Ws:List Wk)(k:Nat):qcw Ws (k+1)=qcw Ws k++(if headAt Ws k then [k] else []):=by
 unfold qcw;rw[List.range_succ,List.filter_append]
 simp[xrz]
theorem qgr(Ws:List Wk)(k:Nat):(qcw Ws k).length<=k:=by
 unfold qcw
 exact Nat.le_trans (xrh _ _) (by simp)
theorem qvj(E:Wks Ws)(hx:x∈Ws)(hy:y∈Ws):((sb (joinB x.key)).toList == (sb (joinB y.key)).toList)=decide (x.key=y.key):=by
 rw[qmj,qbi,qbi]
 by_cases h:x.key=y.key
 ·simp[h]
 ·have:joinB x.key≠joinB y.key:=fun e=>h (qe5 (E.ok x hx).1 (E.ok y hy).1 e)
  simp[h,this]
theorem qlm{g:Nat}(h:GRef w br g cap L ao cW Ws cnt st)(EW:Wks Ws):
  Cl 158 #[vP br] w fun e w'=>∃sl,e=.returned sl/\w'.ownsRow w.heap.size 3 1 sl (qcn Ws).length (nats (qcn Ws))/\Bw w w':=by
 have bR:=h.ref.at_.lt;have cP:=EW.len;obtain⟨n,hn⟩:∃n,n=Ws.length:=⟨_,rfl⟩;have dL:w.cell? (vA br 1)=some (.slice ao n cW):=by have:=h.ref.at_.cell 1;rw[hn];simpa using this
 rw[<-hn]at cP;have HN:Hid (n=Ws.length):=hn;clear hn;have iX:Hid (∀W,Bw w W->∀(i:Nat) x,Ws[i]?=some x->∃b,ao=some (vA b 0)/\b<w.heap.size/\W.cell? (vA b (i*5+1))=some (.string (sb (joinB x.key)))/\W.cell? (vA b (i*5+4))=some (vI x.st)):=by
  show ∀W,Bw w W->∀(i:Nat) x,Ws[i]?=some x->∃b,ao=some (vA b 0)/\b<w.heap.size/\W.cell? (vA b (i*5+1))=some (.string (sb (joinB x.key)))/\W.cell? (vA b (i*5+4))=some (vI x.st)
  intro W hW i x hx;obtain⟨b,h1,h2,h3,h4,p0,p1,p2,p3,p4⟩:=h.wk hx
  exact⟨b,h1,h2,(hW.cell (p:=vA b (i*5+1)) h2).trans p1,(hW.cell (p:=vA b (i*5+4)) h2).trans p4⟩
 have uL:=inf3;obtain⟨i0,z,oq,uH,lk,Jt,wE⟩:=uL
 go_enter func158,ntmps158
 go_wp2
 go_loopw [3,4] (fun sl i wr=>∃k:Nat,k<=n/\i=vI k/\Bw w wr/\wr.ownsRow w.heap.size 3 1 sl (qcw Ws k).length (nats (qcw Ws k))) (fun _ i _=>n-(intOf i).toNat)
 case atStart=>exact⟨0,Nat.zero_le _,rfl,Below.refl _ _,xrk _ _ _ _⟩
 case round =>
  obtain⟨k,hk,rfl,ae,av⟩:=hrel;have hc:=(ae.cell (p:=vA br 1) bR).trans dL
  by_cases ak:k<n
  ·have aV:k<Ws.length:=by rw[<-HN.out];exact ak
   obtain⟨x,hx⟩:∃x,Ws[k]?=some x:=⟨_,xr1 aV⟩;have HX:Hid (Ws[k]?=some x):=hx;obtain⟨b,eT,hb,p1,p4⟩:=iX.out _ ae k x hx;subst eT;have nP:n<=cW/\cW<=maxLen:=by
    obtain⟨_,_,_,h3,h4,_⟩:=h.wk hx
    exact⟨by rw[HN.out];exact h3,h4⟩
   clear hx
   go_wp2
   obtain⟨oz,zG⟩:∃oz,oz=wr:=⟨_,rfl⟩;rw[<-zG]at ae av hc p1 p4 ⊢;clear zG
   go_loopw [5,6] (fun f j w2=>∃m:Nat,m<=k/\j=vI m/\f=.bool ((x.st == 0)&&(Ws.take m).all fun y=>decide (0<y.st)||decide (y.key≠x.key))/\Bw oz w2) (fun _ j _=>k-(intOf j).toNat)
   case atStart=>exact⟨0,Nat.zero_le _,rfl,by simp,Below.refl _ _⟩
   case round =>
    obtain⟨m,hm,rfl,rfl,cK⟩:=hrel;have hB:=ae.trans (cK.mono ae.size);have MI:=(hB.cell (p:=vA br 1) bR).trans dL
    by_cases hml:m<k
    ·have uT:m<Ws.length:=by omega
     obtain⟨y,hy⟩:∃y,Ws[m]?=some y:=⟨_,xr1 uT⟩;obtain⟨b',aZ,_,q1,q4⟩:=iX.out _ hB m y hy;obtain⟨Md,o_,_,r1,r4⟩:=iX.out _ hB k x HX.out;injection aZ with aZ;injection aZ with aZ;subst aZ;injection o_ with o_;injection o_ with o_;subst o_;have HT:Hid (Ws.take (m+1)=Ws.take m++[y]):=by
      show _=_
      rw[xrf uT];rw[xr1 uT]at hy;cases hy;rfl
     have wP:=qvj EW (xr2 hy) (xr2 HX.out);have HF:Hid (((x.st == 0)&&(Ws.take (m+1)).all fun y=>decide (0<y.st)||decide (y.key≠x.key))=(((x.st == 0)&&(Ws.take m).all fun y=>decide (0<y.st)||decide (y.key≠x.key))&&(decide (0<y.st)||decide (y.key≠x.key)))):=by
      show _=_
      rw[HT.out,List.all_append];simp[Bool.and_assoc]
     clear hy hc p1 p4 r4;generalize ((x.st == 0)&&(Ws.take m).all fun y=>decide (0<y.st)||decide (y.key≠x.key))=ff at HF ⊢;have Ge:(m:Int)<n:=by omega
     have J6:(0:Int)<=m:=by omega
     have nr:(k:Int)<n:=by omega
     have f_:(0:Int)<=k:=by omega
     have DG:(decide (y.key≠x.key))=!decide (y.key=x.key):=by simp
     rw[DG]at HF;generalize decide (y.key=x.key)=same at HF wP;generalize sb (joinB y.key)=py at q1 wP;generalize sb (joinB x.key)=px at r1 wP;have aM:∀(f:Bool) (W:World),Bw oz W->f=((x.st == 0)&&(Ws.take (m+1)).all fun y=>decide (0<y.st)||decide (y.key≠x.key))->(∃vV:Nat,vV<=k/\vI ((m:Int)+1)=vI vV/\Value.bool f=Value.bool ((x.st == 0)&&(Ws.take vV).all fun y=>decide (0<y.st)||decide (y.key≠x.key))/\Bw oz W)/\k-(intOf (vI ((m:Int)+1))).toNat<k-(intOf (vI (m:Int))).toNat :=
      fun f W h1 h2=>⟨⟨m+1,by omega,by go_num,congrArg Value.bool h2,h1⟩,by simp[intOf];omega⟩
     have bU:Hid (∀(f:Bool) (W:World),Bw oz W->f=((x.st == 0)&&(Ws.take (m+1)).all fun y=>decide (0<y.st)||decide (y.key≠x.key))->(∃vV:Nat,vV<=k/\vI ((m:Int)+1)=vI vV/\Value.bool f=Value.bool ((x.st == 0)&&(Ws.take vV).all fun y=>decide (0<y.st)||decide (y.key≠x.key))/\Bw oz W)/\k-(intOf (vI ((m:Int)+1))).toNat<k-(intOf (vI (m:Int))).toNat):=aM;clear aM
     by_cases bW:0<y.st
     ·rw[decide_eq_true bW]at HF
      cases ff
      ·go_wp2_with fail
       go_quiet (fail)
       go_wp2_with fail
       exact bU.out _ _ (xrm cK _) (by rw[HF.out];rfl)
      ·go_wp2_with fail
       go_quiet (fail)
       go_wp2_with fail
       exact bU.out _ _ (xrm cK _) (by rw[HF.out];rfl)
     ·rw[decide_eq_false bW]at HF
      cases ff
      ·go_wp2_with fail
       go_quiet (fail)
       go_wp2_with fail
       exact bU.out _ _ (xrm cK _) (by rw[HF.out];rfl)
      ·have ic:(py.toList != px.toList)=!same:=by simp[bne,wP]
       cases same
       ·go_wp2_with fail
        go_quiet (fail)
        go_wp2_with fail
        exact bU.out _ _ (xrm cK _) (by rw[HF.out];rfl)
       ·go_wp2_with fail
        go_quiet (fail)
        go_wp2_with fail
        exact bU.out _ _ (xrm cK _) (by rw[HF.out];exact decide_eq_false (by omega))
    ·have eZ:m=k:=by omega
     subst eZ;have HH:Hid (headAt Ws m=((x.st == 0)&&(Ws.take m).all fun y=>decide (0<y.st)||decide (y.key≠x.key))):=by
      show _=_
      unfold headAt;rw[HX.out];rfl
     have HS:Hid (qcw Ws (m+1)=qcw Ws m++(if headAt Ws m then [m] else [])):=qlz Ws m;have an:=qgr Ws m;generalize ((x.st == 0)&&(Ws.take m).all fun y=>decide (0<y.st)||decide (y.key≠x.key))=ff at HH ⊢;have nx:=qrr av cK;generalize qcw Ws m=hs at nx HS an
     cases ff
     ·go_wp2_with fail
      refine⟨⟨m+1,by omega,by go_num,hB,?_⟩,by simp[intOf];omega⟩
      rw[HS.out,HH.out];simpa using nx
     ·go_wp2_with (at_builtin;refine wpList_append_own _ rfl _ _ 25 rfl w.heap.size 3 i0 z 1 8 underlying25 oq uH lk Jt wE (by decide) _ _ _ rfl (nx.alloc _) (vA wr.heap.size 0) 1 1 [vI m] rfl rfl (cell_one_new _ _ _) (by simp[Value.oneCell']) (by unfold maxLen;omega) (by omega) (by have:=hB.size;simp;omega) ?_;intro v' w1 dI k_ _)
      refine⟨⟨m+1,by omega,by go_num,(hB.alloc hB.size _).grown k_ (by have:=hB.size;simp;omega) (fun j hj=>(nx.lt j hj).1),?_⟩,by simp[intOf];omega⟩
      rw[HS.out,HH.out]
      simpa [nats] using dI
  ·go_wp2
   go_ret
   have je:k=Ws.length:=by have:=HN.out;omega
   subst je
   exact⟨_,rfl,av,ae⟩
end Go.Proofs.YtphclnolomgjoaaGreatDoor
