import Derived.Test.YtphclnolomgjoaaGreatDoorC27
set_option linter.unusedVariables false
set_option linter.unusedSimpArgs false
set_option maxRecDepth 100000
set_option maxHeartbeats 4000000
namespace Go.Proofs.YtphclnolomgjoaaGreatDoor
open Tryz
open Go.RowKit
variable {ar nodes:List Node}{Ws:List Wk}{aR as_ bg ws:List Pw}{n:Node}{a cnt st:Int}{W0 W1 W2 w w':World}{e':Ending}{s:SS}{F1 F2 K M br c cW cap cap' g' size:Nat}{L:List Ent}{a2 ao:Option Addr}{bL bO cC cd cy eV ev sl v:Value}{evs:List (Int×Int)}{e:TypeId}{xs:List Value}{iy iz:Array Value}{P:Program}{τ':Nat->Tag}
theorem Rel.waits(R:Rel nodes Ws ws as_)(T:Tree nodes)(hB:qa7 nodes)(hn:n∈nodes):(qa4 ws n.blk).map (·.x)=qam Ws n.key Ws.length:=by
 unfold qa4 qam;rw[List.take_length];have e1:(ws.filter fun p=>p.q == n.blk)=ws.filter fun p=>decide (p.x.key=n.key):=List.filter_congr fun p hp=>R.qwt T hB hn (xr9 _ hp)
 have e2:(ws.filter fun p=>decide (p.x.key=n.key)).map (·.x)=(ws.map (·.x)).filter fun y=>decide (y.key=n.key):=by rw[List.filter_map];rfl
 rw[e1,e2,R.w,List.filter_filter]
theorem Rel.qth(R:Rel nodes Ws ws as_)(T:Tree nodes)(hB:qa7 nodes)(hn:n∈nodes):qfz (qa4 ws n.blk)=qfq (qam Ws n.key Ws.length)/\(qa4 ws n.blk).length=(qam Ws n.key Ws.length).length:=by
 have h:=R.waits T hB hn
 refine⟨?_,by rw[<-h];simp⟩
 rw[<-h];unfold qfz qfq;rw[List.map_map]
 rfl
theorem Rel.told(R:Rel nodes Ws ws as_)(T:Tree nodes)(hW:Wks Ws)(hn:n∈nodes)(v:Value):
  qo6 (joinB n.key) n.leaf (pn0 nodes n.key) (pn1 nodes n.key) n.b0 n.b1 (ws0 (pun as_ n.key)) (ws1 (pun as_ n.key)) v=#[.string (sb (joinB n.ent.key)),.bool n.ent.leaf,vI (es0 (qaf (nodes.map Node.ent) (joinB n.ent.key))),vI (es1 (qaf (nodes.map Node.ent) (joinB n.ent.key))),vI n.ent.b0,vI n.ent.b1,vI (ws0 (qae Ws (joinB n.ent.key))),vI (ws1 (qae Ws (joinB n.ent.key))),v]:=by
 have hk:=(T.ok n hn).1;unfold qo6;rw[(qb1 T hk).1,(qb1 T hk).2,(R.use hW hk).1,(R.use hW hk).2]
 rfl
theorem Rel.work(R:Rel nodes Ws ws as_)(hS:WkS Ws st){m:Int}{e:Ending}(h1:WrkR ws as_ m w e w')(h2:qs5 Ws m e'):e=e'/\Bw w w':=by
 obtain⟨az,a1,a2,_⟩:=R.a;unfold WrkR at h1
 rcases h2 with ⟨x,hx,cg,rfl⟩|⟨a7,rfl⟩
 ·cases ha:qc3 as_ m with
  |some p =>
   simp only[ha]at h1;have hp:p∈as_:=List.mem_of_find?_eq_some ha;have ic:p.x.num=m:=by have:=List.find?_some ha;simpa using this
   have lU:p.x∈az.map (·.adm 0):=by rw[<-a1];exact xrj hp
   obtain⟨z,hz,G0⟩:=xrq.1 lU;have dO:=xrr.1 (a2.mem_iff.1 hz);have vT:z=x:=qew hS.nums dO.1 hx (by rw[cg,<- ic,<- G0];rfl);subst vT;have cZ:decide (0<z.st)=true:=dO.2;rw[<-G0]at h1;rw[cZ]
   exact h1
  |none =>
   simp only[ha]at h1
   cases hw:qc3 ws m with
   |some p =>
    simp only[hw]at h1;have hp:p∈ws:=List.mem_of_find?_eq_some hw;have ic:p.x.num=m:=by have:=List.find?_some hw;simpa using this
    have lU:p.x∈Ws.filter fun x=>x.st == 0:=by rw[<-R.w];exact xrj hp
    have dO:=xrr.1 lU;have vT:p.x=x:=qew hS.nums dO.1 hx (by rw[cg,ic]);have cZ:decide (0<x.st)=false:=by have h0:=dO.2;rw[vT]at h0;simp at h0;simp[h0]
    rw[vT]at h1;rw[cZ]
    exact h1
   |none =>
    exfalso
    have:=(R.nums (fun x hx=>(hS.st x hx).1)).mem_iff.2 (xrj hx)
    obtain⟨q,hq,zl⟩:=xrq.1 this
    rcases xri.1 hq with h3|h3
    ·have:=List.find?_eq_none.1 hw q h3;simp[zl,cg]at this
    ·have:=List.find?_eq_none.1 ha q h3;simp[zl,cg]at this
 ·have hl:=R.lost hS a7;have ha:qc3 as_ m=none:=by
   cases ha:qc3 as_ m with
   |none=>rfl
   |some p=>simp[findBk,ha,nptr]at hl
  have hw:qc3 ws m=none:=by
   cases hw:qc3 ws m with
   |none=>rfl
   |some p=>simp[findBk,ha,hw,optP,nptr]at hl
  simp only[ha,hw]at h1
  exact h1
theorem qkq{f:SS->Option SS}{I:SS->Prop}(hI:∀s s',I s->f s=some s'->I s'/\s'.st=s.st+1):∀(n:Nat) (s:SS),I s->I (iterS f n s)/\s.st<=(iterS f n s).st/\(iterS f n s).st<=s.st+n
 |0,s,h=>⟨h,Int.le_refl _,by simp[iterS]⟩
 |n+1,s,h=>by
  unfold iterS
  cases hf:f s with
  |none=>exact⟨h,Int.le_refl _,by simp only;omega⟩
  |some s' =>
   obtain⟨h1,h2⟩:=hI s s' h hf;obtain⟨h3,h4,h5⟩:=qkq hI n s' h1
   simp only
   exact⟨h3,by omega,by omega⟩
theorem qjj(L:List Ent)(h:SInv s):SInv ⟨(qaj L s).Ws,(qaj L s).st,[]⟩/\s.st<=(qaj L s).st/\(qaj L s).st<=s.st+48:=by
 have hl:s.Ws.length<=24:=h.wks.wks.len;obtain⟨a1,a2,a3⟩:=qkq (f:=ownStep L) (I:=SInv) (fun a b ha he=>⟨(ha.own he).1,(ha.own he).2.2.1⟩) s.Ws.length s h;obtain⟨b1,b2,b3⟩:=qkq (f:=qas L) (I:=SInv) (fun a b ha he=>⟨(ha.idle he).1,(ha.idle he).2.2.1⟩) s.Ws.length _ a1;have e:qaj L s=iterS (qas L) s.Ws.length (iterS (ownStep L) s.Ws.length s):=rfl;rw[e]
 exact⟨⟨b1.wks,b1.st0,b1.anti⟩,by omega,by omega⟩
structure Comm (nodes:List Node) (Ws:List Wk) (cnt st:Int) (ws as_:List Pw):Prop where
 tree:Tree nodes
 rel:Rel nodes Ws ws as_
 inv:SInv ⟨Ws,st,[]⟩
 wkl:WkL nodes Ws cnt
 cnt0:0<=cnt
theorem Comm.settled(T:Tree nodes)(I:SInv ⟨Ws,st,[]⟩)(L:WkL nodes Ws cnt)(hc:0<=cnt)(R:Rel nodes (qaj (nodes.map Node.ent) ⟨Ws,st,[]⟩).Ws bg aR):
  Comm nodes (qaj (nodes.map Node.ent) ⟨Ws,st,[]⟩).Ws cnt (qaj (nodes.map Node.ent) ⟨Ws,st,[]⟩).st bg aR :=
 ⟨T,R,(qjj _ I).1,L.of (qr8 _ ⟨Ws,st,[]⟩),hc⟩
theorem Comm.qwu(C:Comm nodes Ws cnt st ws as_){s:Bs}{b:Int}(he:errWk nodes (ws.length+as_.length) s (qao a b)=0):
  SInv ⟨Ws++[qct cnt s a b],st,[]⟩/\WkL nodes (Ws++[qct cnt s a b]) (cnt+1):=by
 obtain⟨n,hn,hl,hf,wh⟩:=qgw he;obtain⟨fl,dh⟩:=qbw hn;rw[C.rel.length C.inv.wks]at wh
 exact⟨SInv.append C.tree C.inv C.wkl C.cnt0 fl hl dh hf wh,C.wkl.append C.cnt0 fl hl dh a b⟩
theorem Comm.finish(C:Comm nodes Ws cnt st ws as_)(i:Nat):SInv ⟨Ws.take i++Ws.drop (i+1),st,[]⟩/\WkL nodes (Ws.take i++Ws.drop (i+1)) cnt :=
 ⟨⟨C.inv.wks.sub (qej Ws i),C.inv.st0,C.inv.anti.sub (qej Ws i)⟩,C.wkl.sub (qej Ws i)⟩
theorem WkL.grown{x:Ent}(h:WkL nodes Ws cnt)(he:ar.map Node.ent=nodes.map Node.ent++[x]):WkL ar Ws cnt :=
 ⟨fun y hy=>by
  obtain⟨n,hn,e1,e2⟩:=h.leaf y hy
  have:n.ent∈ar.map Node.ent:=by rw[he];exact xr9 _ (xrj hn)
  obtain⟨n',ez,e⟩:=xrq.1 this;have k1:n'.key=n.key:=congrArg Ent.key e;have k2:n'.leaf=n.leaf:=congrArg Ent.leaf e
  exact⟨n',ez,k1.trans e1,k2.trans e2⟩,h.num⟩
def qlp (br g:Nat)(o0:Option Nat)(L:List Ent)(Ws:List Wk)(cnt st:Int)(err:Int)(y:Ent)(w:World)(e:Ending)(w':World):Prop :=
 (err≠0/\e=.returned (.tuple #[v0_,vI err])/\Bw w w') \/
 (err=0/\∃sl,e=.returned (.tuple #[sl,vI 0])/\qdw w br g o0 (L++[y]) cnt (qaj (L++[y]) ⟨Ws,st,[]⟩) sl w')
theorem GRef.made{W:World}{g:Nat}{y:Ent}(h:GRef w br g cap L ao cW Ws cnt st)(hr:qc9 W br g' cap' (L++[y]) (.slice ao Ws.length cW) (vI cnt) (vI st))(hk:Keep (fun b=>b=br\/b=g) w W)(hg:g'=g\/w.heap.size<=g'):GRef W br g' cap' (L++[y]) ao cW Ws cnt st:=by
 refine⟨hr,qab h.wrow hk (fun b hb e=>?_),fun b hb=>?_⟩
 ·have:=h.ne1 b hb
  rcases e with e|e
  ·exact this.1 e
  ·exact this.2 e
 ·have h1:=h.ne1 b hb
  refine⟨h1.1,fun e=>?_⟩
  rcases hg with e2|e2
  ·exact h1.2 (e.trans e2)
  ·have:=qal h.wrow hb;omega
theorem qs4{g:Nat}(h:GRef w br g cap L ao cW Ws cnt st)(E:Ents L)(aH:∀a∈L,∀b∈L,a.key=b.key->a=b)(I:SInv ⟨Ws,st,[]⟩)(bW:st<=900000000)(s:ByteArray)(hs:s.size<=2000000)(a b c d:Int)
  (hE:errE L (bl s) (qao a b&&qao c d)=0->Ents (L++[⟨qaa (bl s),true,a,b,c,d⟩])/\Bors (L++[⟨qaa (bl s),true,a,b,c,d⟩])) :
  Cl 69 #[vP br,.string s,.agg #[vI a,vI b],.agg #[vI c,vI d]] w (qlp br g (Value.slice ao Ws.length cW).ownBlock L Ws cnt st (errE L (bl s) (qao a b&&qao c d)) ⟨qaa (bl s),true,a,b,c,d⟩ w):=by
 have uv:=fun W (hW:Bw w W)=>qj2 (h.below hW).ref E aH s hs true a b c d
 have bR:=h.qii;have cX:=fun W g' cap' (hG:GRef W br g' cap' (L++[⟨qaa (bl s),true,a,b,c,d⟩]) ao cW Ws cnt st) h0=>settle_ref hG (hE h0).1 (hE h0).2 I bW
 have cx:Bw w ((w.alloc (.cells #[vI a,vI b] 35)).alloc (.cells #[vI c,vI d] 35)):=by exact bel2
 have iP:=fun W g' cap' hr hk hg=>(h.below cx).made (W:=W) (g':=g') (cap':=cap') (y:=⟨qaa (bl s),true,a,b,c,d⟩) hr hk hg
 generalize errE L (bl s) (qao a b&&qao c d)=err at *
 go_enter func69,ntmps69
 go_wp2_with fail
 refine(uv _ (by exact bel2)).mono ?_
 rintro e w1 ⟨rfl,(⟨iQ,aa⟩|⟨h0,g',cap',hr,hk,dH⟩)⟩
 ·have HX:Hid (qlp br g (Value.slice ao Ws.length cW).ownBlock L Ws cnt st err ⟨qaa (bl s),true,a,b,c,d⟩ w (.returned (.tuple #[v0_,vI err])) w1):=.inl ⟨iQ,rfl,qac cx aa⟩;have aW:(err != 0)=true:=by simp[iQ]
  have dF:(err == 0)=false:=by simp[iQ]
  clear uv cX iP h
  go_wp2_with fail
  exact xrn (v:=.tuple #[v0_,vI err]) (by simp[results,results69,go_sem]) rfl HX.out
 ·subst h0;have hG:=iP _ _ _ hr hk dH;have lG:=cX _ _ _ hG rfl;have vc:g'=g\/w.heap.size<=g':=dH.imp id (fun e=>by simp at e;omega);have ou:Keep (fun y=>y=br\/y=g\/(Value.slice ao Ws.length cW).ownBlock=some y) w w1:=((Keep.new (T:=fun y=>y=br\/y=g) cx).step hk (fun y _ e=>e)).mono (fun y e=>by
   rcases e with e|e
   ·exact .inl e
   ·exact .inr (.inl e))
  clear uv cX iP
  go_wp2_with fail
  refine lG.mono ?_
  rintro e w2 ⟨sl,a2,c2,rfl,hS⟩
  have HX:Hid (qlp br g (Value.slice ao Ws.length cW).ownBlock L Ws cnt st 0 ⟨qaa (bl s),true,a,b,c,d⟩ w (.returned (.tuple #[sl,vI 0])) w2):=.inr ⟨rfl,sl,rfl,qdw.qn3 ou hS (fun y hy _=>hy) vc⟩;clear lG hS
  go_wp2_with fail
  exact xrn (v:=.tuple #[sl,vI 0]) (by simp[results,results69,go_sem]) rfl HX.out
theorem qoq{g:Nat}(h:GRef w br g cap L ao cW Ws cnt st)(E:Ents L)(aH:∀a∈L,∀b∈L,a.key=b.key->a=b)(I:SInv ⟨Ws,st,[]⟩)(bW:st<=900000000)(s:ByteArray)(hs:s.size<=2000000)(c d:Int)
  (hE:errE L (bl s) (qao 0 0&&qao c d)=0->Ents (L++[⟨qaa (bl s),false,0,0,c,d⟩])/\Bors (L++[⟨qaa (bl s),false,0,0,c,d⟩])) :
  Cl 67 #[vP br,.string s,.agg #[vI c,vI d]] w (qlp br g (Value.slice ao Ws.length cW).ownBlock L Ws cnt st (errE L (bl s) (qao 0 0&&qao c d)) ⟨qaa (bl s),false,0,0,c,d⟩ w):=by
 have uv:=fun W (hW:Bw w W)=>qj2 (h.below hW).ref E aH s hs false 0 0 c d
 have bR:=h.qii;have cX:=fun W g' cap' (hG:GRef W br g' cap' (L++[⟨qaa (bl s),false,0,0,c,d⟩]) ao cW Ws cnt st) h0=>settle_ref hG (hE h0).1 (hE h0).2 I bW
 have cx:Bw w (w.alloc (.cells #[vI c,vI d] 35)):=by exact bel2
 have iP:=fun W g' cap' hr hk hg=>(h.below cx).made (W:=W) (g':=g') (cap':=cap') (y:=⟨qaa (bl s),false,0,0,c,d⟩) hr hk hg
 generalize errE L (bl s) (qao 0 0&&qao c d)=err at *
 go_enter func67,ntmps67
 go_wp2_with fail
 refine(uv _ (by exact bel2)).mono ?_
 rintro e w1 ⟨rfl,(⟨iQ,aa⟩|⟨h0,g',cap',hr,hk,dH⟩)⟩
 ·have HX:Hid (qlp br g (Value.slice ao Ws.length cW).ownBlock L Ws cnt st err ⟨qaa (bl s),false,0,0,c,d⟩ w (.returned (.tuple #[v0_,vI err])) w1):=.inl ⟨iQ,rfl,qac cx aa⟩;have aW:(err != 0)=true:=by simp[iQ]
  have dF:(err == 0)=false:=by simp[iQ]
  clear uv cX iP h
  go_wp2_with fail
  exact xrn (v:=.tuple #[v0_,vI err]) (by simp[results,results67,go_sem]) rfl HX.out
 ·subst h0;have hG:=iP _ _ _ hr hk dH;have lG:=cX _ _ _ hG rfl;have vc:g'=g\/w.heap.size<=g':=dH.imp id (fun e=>by simp at e;omega);have ou:Keep (fun y=>y=br\/y=g\/(Value.slice ao Ws.length cW).ownBlock=some y) w w1:=((Keep.new (T:=fun y=>y=br\/y=g) cx).step hk (fun y _ e=>e)).mono (fun y e=>by
   rcases e with e|e
   ·exact .inl e
   ·exact .inr (.inl e))
  clear uv cX iP
  go_wp2_with fail
  refine lG.mono ?_
  rintro e w2 ⟨sl,a2,c2,rfl,hS⟩
  have HX:Hid (qlp br g (Value.slice ao Ws.length cW).ownBlock L Ws cnt st 0 ⟨qaa (bl s),false,0,0,c,d⟩ w (.returned (.tuple #[sl,vI 0])) w2):=.inr ⟨rfl,sl,rfl,qdw.qn3 ou hS (fun y hy _=>hy) vc⟩;clear lG hS
  go_wp2_with fail
  exact xrn (v:=.tuple #[sl,vI 0]) (by simp[results,results67,go_sem]) rfl HX.out
structure qbj (K:Nat) (x:Tw):Prop where
 L:x.L=x.nodes.map Node.ent
 cnt:x.cnt=x.last
 com:Comm x.nodes x.Ws x.cnt x.st x.ws x.as_
 cntK:x.cnt<=K
 stK:x.st<=48*K
theorem qbj.mono{K':Nat}{x:Tw}(h:qbj K x)(hk:K<=K'):qbj K' x:=⟨h.L,h.cnt,h.com,by have:=h.cntK;omega,by have:=h.stK;omega⟩
def qci (n₀ : Nat)(τ : Nat->Tag)(W:World)(bw:Nat)(k K:Nat)(e:Ending)(w':World):Prop :=
 e=.returned (.bool true)/\∃τ' di,qbh τ W τ' w'/\St n₀ τ' w' bw di (200*K)/\(∀x∈di,qbj K x)/\k<=di.length/\di.length<=k+1
structure Out where
 err:Int
 L:List Ent
 Ws:List Wk
 cnt:Int
 st:Int
 evs:List (Int×Int)
def POut (τ : Nat->Tag)(t:Nat)(W:World)(bt:Nat)(o:Out)(ev:Value)(w':World):Prop :=
 ∃τ' ar aQ aX bg aR,(∀b,b<W.heap.size -> τ' b = τ b)/\(∀b,W.heap.size<=b -> τ' b=.free\/(τ' b).prog t)/\qb6 τ' t w' bt ar o.cnt aQ aX bg aR/\ar.map Node.ent=o.L/\Comm ar o.Ws o.cnt o.st bg aR /\
  w'.ownsRow 0 60 2 ev o.evs.length (qai o.evs)/\(∀b,ev.ownBlock=some b->W.heap.size<=b /\ τ' b=.free)/\Keep (fun b=>b<W.heap.size/\(τ b).prog t) W w'
def Mid (n₀ : Nat)(τ : Nat->Tag)(W:World)(bw:Nat)(ay:List Tw)(t:Nat)(x:Tw)(N:Nat)(o:Out)(ev:Value)(w':World):Prop :=
 ∃τ' ar aQ aX bg aR,qbh τ W τ' w'/\St n₀ τ' w' bw (ay.set t {x with nodes:=ar,last:=o.cnt,vw:=aQ,va:=aX,ws:=bg,as_:=aR}) N/\ar.map Node.ent=o.L/\Comm ar o.Ws o.cnt o.st bg aR /\
  w'.ownsRow 0 60 2 ev o.evs.length (qai o.evs)/\(∀b,ev.ownBlock=some b->W.heap.size<=b /\ τ' b=.free)
def Mid2 (n₀ : Nat)(τ : Nat->Tag)(W:World)(bw k N K:Nat)(evs:List (Int×Int))(ev eV:Value)(w':World):Prop :=
 ∃τ' di,qbh τ W τ' w'/\St n₀ τ' w' bw di N/\(∀x∈di,qbj K x)/\di.length=k/\w'.ownsRow 0 60 2 ev evs.length (qai evs)/\w'.ownsRow 0 60 2 eV evs.length (qai evs)/\(∀b,ev.ownBlock=some b->W.heap.size<=b /\ τ' b=.free)
section
variable {n₀ : Nat}{τ : Nat->Tag}{W:World}{bw:Nat}{ay:List Tw}{N:Nat}{t:Nat}{x:Tw}{o:Out}
theorem qrf(h:St n₀ τ W bw ay N)(hb:Bw W W1)(hx:ay[t]?=some x)(hM:POut (qde τ W.heap.size) t W1 x.bt o ev w'):
  Keep (fun b=>b<W.heap.size) W1 w'/\Mid n₀ τ W bw ay t x N o ev w':=by
 obtain⟨τ',ar,aQ,aX,bg,aR,m1,m2,m3,m4,m5,m6,m7,m8⟩:=hM;have hz:=hb.size;have hk:Keep (fun b=>b<W.heap.size) W1 w':=by
  refine m8.mono (fun b aZ=>?_)
  rcases Nat.lt_or_ge b W.heap.size with h1|h1
  ·exact h1
  ·have:=aZ.2;rw[qe4 h1]at this;exact this.elim
 obtain⟨k1,k2⟩:=(h.below hb).qxa hx m1 m3 m8
 exact⟨hk,τ',ar,aQ,aX,bg,aR,(qbh.below hb).trans k1,k2,m4,m5,m6,fun b aZ=>⟨by have:=(m7 b aZ).1;omega,(m7 b aZ).2⟩⟩
theorem Mid.below(h:Mid n₀ τ W bw ay t x N o ev W1)(hb:Bw W1 W2):Mid n₀ τ W bw ay t x N o ev W2:=by
 obtain⟨τ',ar,aQ,aX,bg,aR,m1,m2,m3,m4,m5,m6⟩:=h
 refine⟨qde τ' W1.heap.size,ar,aQ,aX,bg,aR,m1.trans (qbh.below hb),m2.below hb,m3,m4,qab (T:=fun _=>False) m5 (Keep.new hb) (fun _ _ h=>h),fun b aZ=>⟨(m6 b aZ).1,?_⟩⟩
 rw[qbx (qal m5 aZ)];exact(m6 b aZ).2
theorem Mid2.below{k:Nat}(h:Mid2 n₀ τ W bw k N K evs ev eV W1)(hb:Bw W1 W2):Mid2 n₀ τ W bw k N K evs ev eV W2:=by
 obtain⟨τ',di,m1,m2,m3,m4,m5,Bj,m6⟩:=h
 refine⟨qde τ' W1.heap.size,di,m1.trans (qbh.below hb),m2.below hb,m3,m4,qab (T:=fun _=>False) m5 (Keep.new hb) (fun _ _ h=>h),qab (T:=fun _=>False) Bj (Keep.new hb) (fun _ _ h=>h),fun b aZ=>⟨(m6 b aZ).1,?_⟩⟩
 rw[qbx (qal m5 aZ)];exact(m6 b aZ).2
theorem qo7(jD:ay[t]?=some x)(hA:∀y∈ay,qbj K y)(bR:x.br<W.heap.size/\x.g<W.heap.size/\∀b,x.wv.ownBlock=some b->b<W.heap.size)(h:Mid n₀ τ W bw ay t x N o ev W1)(hc:o.cnt<=K+1)(hs:o.st<=48*(K+1))
  (hM:qdw W1 x.br x.g x.wv.ownBlock o.L o.cnt ⟨o.Ws,o.st,o.evs⟩ sl w'):Keep (fun b=>b<W.heap.size) W1 w'/\Mid2 n₀ τ W bw ay.length N (K+1) o.evs ev sl w':=by
 obtain⟨τ',ar,aQ,aX,bg,aR,m1,m2,m3,m4,m5,m6⟩:=h;have hl:=(xr0.1 jD).1;have hk:Keep (fun b=>b<W.heap.size) W1 w':=hM.keep.mono (fun b aZ=>by rcases aZ with rfl|rfl|e;exact bR.1;exact bR.2.1;exact bR.2.2 b e);have vK:(ay.set t {x with nodes:=ar,last:=o.cnt,vw:=aQ,va:=aX,ws:=bg,as_:=aR})[t]?=some {x with nodes:=ar,last:=o.cnt,vw:=aQ,va:=aX,ws:=bg,as_:=aR}:=by rw[List.getElem?_set_self hl]
 obtain⟨τ2,g',cap',fy,hZ,k1,k2,k3⟩:=m2.qwz vK (L':=o.L) (cnt':=o.cnt) (s:=⟨o.Ws,o.st,o.evs⟩) (sl:=sl) hM
 refine⟨hk,τ2,_,m1.trans k1,k2,?_,by simp,qab m5 k3 (fun b hb e=>?_),hM.row,fun b hb=>⟨(m6 b hb).1,?_⟩⟩
 ·rw[List.set_set];intro z hz
  rcases List.mem_or_eq_of_mem_set hz with hz|rfl
  ·exact(hA z hz).mono (by omega)
  ·exact⟨m3.symm,rfl,m4,by simp only;omega,by simp only;omega⟩
 ·have:=e.2;rw[(m6 b hb).2]at this;exact this
 ·rw[k1.old b (qal m5 hb)];exact(m6 b hb).2
theorem qtg{k n:Nat}{a:Option Addr}{c2:Nat}(hn:n=evs.length)(hK:K<=2000000)(uV:n<=990)(dV:n₀ <= W.heap.size)(h:Mid2 n₀ τ W bw k (200*K) (K+1) evs (.slice a n c) (.slice a2 n c2) W1)(er:Int):
  Cl 68 #[vP bw,.slice a n c,vI er,.slice a2 n c2,vI er] W1 (qci n₀ τ W bw k (K+1)):=by
 obtain⟨τ',di,m1,⟨cd,bO,cC,bL,cy,ns,es,ms,me,m2⟩,m3,rfl,m5,Bj,m6⟩:=h;rw[<-hn]at m5 Bj
 refine(qtf m2.law (200*K) (by omega) m2.n1 m2.n2 hn uV m5 Bj (fun b hb=>(m6 b hb).2) er).mono ?_
 intro e w' hT;obtain⟨τ2,k1,se,kj,ki,kg,kh,qI,qt,sd,r_,k2⟩:=St.told m2 (fun b hb=>⟨(m6 b hb).2,by have:=(m6 b hb).1;omega⟩) hT
 exact⟨hT.1,τ2,di,m1.own k1 (fun b hb=>(m6 b hb).1),⟨se,kj,ki,kg,kh,qI,qt,sd,r_,k2.law,by have:=k2.n1;omega,by have:=k2.n2;omega,k2.row,k2.tT,k2.tw,k2.lo,k2.le⟩,m3,Nat.le_refl _,Nat.le_succ _⟩
theorem qev{W:World}{n:Nat}(h:W.ownsRow 0 e size v n xs):∃a c,v=.slice a n c:=by
 rcases h.2 with ⟨rfl,rfl⟩|⟨g,cap,aD,rfl,_⟩
 ·exact⟨none,0,rfl⟩
 ·exact⟨_,cap,rfl⟩
theorem qs1(hK:K<=2000000)(h:St n₀ τ W bw ay (200*K))(hA:∀y∈ay,qbj K y)(hx:ay[t]?=some x){n:Nat}(hn:n=o.evs.length)(uV:n<=990)(hc:o.cnt<=K+1)(hs:o.st<=48*(K+1))
  {mk1 mk2:Value->Value}
  (hp:∀τ1 W1,qb6 τ1 t W1 x.bt x.nodes x.last x.vw x.va x.ws x.as_->Cl F1 iy W1 fun e w'=>∃ev,e=.returned (mk1 ev)/\POut τ1 t W1 x.bt o ev w')
  (hr:∀W1,GRef W1 x.br x.g x.cap x.L x.ao x.cW x.Ws x.cnt x.st->Cl F2 iz W1 fun e w'=>∃sl,e=.returned (mk2 sl)/\qdw W1 x.br x.g x.wv.ownBlock o.L o.cnt ⟨o.Ws,o.st,o.evs⟩ sl w') :
  ∃(M1:Option Addr->Nat->World->Prop) (M2:Option Addr->Nat->Option Addr->Nat->World->Prop),
   (∀W1,Bw W W1->Cl F1 iy W1 fun e w'=>∃a c,e=.returned (mk1 (.slice a n c))/\Keep (fun b=>b<W.heap.size) W1 w'/\M1 a c w') /\
   (∀a c W1 W2,M1 a c W1->Bw W1 W2->Cl F2 iz W2 fun e w'=>∃a2 c2,e=.returned (mk2 (.slice a2 n c2))/\Keep (fun b=>b<W.heap.size) W2 w'/\M2 a c a2 c2 w') /\
   (∀a c a2 c2 W1 W2,M2 a c a2 c2 W1->Bw W1 W2->Cl 68 #[vP bw,.slice a n c,vI o.err,.slice a2 n c2,vI o.err] W2 (qci n₀ τ W bw ay.length (K+1))):=by
 obtain⟨cd,bO,cC,bL,cy,ns,es,ms,me,hS⟩:=id h;have hT:=hS.tw t x hx
 refine⟨fun a c=>Mid n₀ τ W bw ay t x (200*K) o (.slice a n c),fun a c a2 c2=>Mid2 n₀ τ W bw ay.length (200*K) (K+1) o.evs (.slice a n c) (.slice a2 n c2),fun W1 hb=>?_,fun a c W1 W2 hM hb=>?_,fun a c a2 c2 W1 W2 hM hb=>qtg hn hK uV hS.le (hM.below hb) _⟩
 ·have hP:=hT.P.keep (τ':=qde τ W.heap.size) (T:=fun _=>False) (Keep.new hb) (fun _ _ h=>h.elim) (fun b hb=>qbx hb)
  refine(hp _ W1 hP).mono ?_
  rintro e w' ⟨ev,rfl,hM⟩
  obtain⟨a,c,rfl⟩:∃a c,ev=.slice a n c:=by
   obtain⟨_,_,_,_,_,_,_,_,_,_,_,au,_⟩:=hM;rw[<-hn]at au
   exact qev au
  exact⟨a,c,rfl,qrf h hb hx hM⟩
 ·have ak:=(xr0.1 hx).1;have re:=hM.below hb;obtain⟨τ1,iZ,gG,gj,ws1,gS,p1,⟨se,kj,ki,kg,kh,qI,qt,sd,r_,bY⟩,p3⟩:=id re;have hR:=(bY.tw t {x with nodes:=iZ,last:=o.cnt,vw:=gG,va:=gj,ws:=ws1,as_:=gS} (by rw[List.getElem?_set_self ak])).R
  refine(hr W2 hR).mono ?_
  rintro e w' ⟨sl,rfl,FF⟩
  obtain⟨a2,c2,rfl⟩:∃a2 c2,sl=.slice a2 n c2:=by
   have au:=FF.row;rw[<-hn]at au
   exact qev au
  exact⟨a2,c2,rfl,qo7 hx hA hT.R.lts re hc hs FF⟩
end
theorem qva(w:World):Cl 38 #[] w fun e w'=>e=.returned (vP (w.heap.size+2)) /\
  w'=((w.alloc (.cells #[vI 0,vI 0] 35)).alloc (.cells #[.string ⟨#[]⟩,.bool false,vI 0,vI 0,vI 0,vI 0,.pointer none,v0_] 136)).alloc (.cells #[vP (w.heap.size+1),vI 0,v0_,v0_] 102):=by
 go_enter func38,ntmps38
 go_wp2_with (go_at_call 54;refine(qee _ _ _).mono ?_;rintro e w1 ⟨rfl,bX⟩;subst bX)
 go_ret
 exact⟨by simp,rfl⟩
theorem qp1(w:World):Cl 65 #[] w fun e w'=>e=.returned (vP (w.heap.size+1)) /\
  w'=(w.alloc (.cells #[.string ⟨#[]⟩,.bool false,vI 0,vI 0,vI 0,vI 0] 163)).alloc (.cells #[vS w.heap.size 1 1,v0_,vI 0,vI 0] 167):=by
 go_enter func65,ntmps65
 go_wp2
 go_ret
 exact⟨by simp,rfl⟩
def qiw (b:Nat):Node:={blk:=b,key:=[],leaf:=false,n0:=0,n1:=0,b0:=0,b1:=0,up:=none,sl:=v0_,kids:=[]}
theorem qwp(b:Nat):Tree [qiw b]:=by
 refine⟨⟨qiw b,rfl,rfl,rfl,rfl,rfl⟩,?_,by simp,?_,?_,?_,?_,?_,by simp⟩
 ·intro n hn m hm _;simp at hn hm;rw[hn,hm]
 ·intro n hn;simp at hn;subst hn;exact⟨rfl,by simp[qiw]⟩
 ·intro n hn;simp at hn;subst hn;simp[qiw]
 ·intro n hn _;simp at hn;subst hn;rfl
 ·intro n hn k x hk;simp at hn;subst hn;simp[qiw]at hk
 ·intro p hp;simp at hp;subst hp
  refine⟨[],rfl,fun k=>?_,by simp⟩
  simp only[List.not_mem_nil,List.mem_singleton,false_iff,not_and]
  rintro rfl ⟨x,hx⟩;simp[qiw]at hx
theorem i44a:(prog.info? 128).map (fun i=>(i.size,i.bytes))=some (2,16):=by kernel_rfl
theorem i44b:(prog.info? 128).bind (fun i=>i.zero)=some (.agg #[.pointer none,.pointer none]):=by kernel_rfl
theorem qw3:qdf 128 2 16:=qep i44a i44b rfl
theorem un26:prog.underlying 79=some (.slice 128):=by kernel_rfl
theorem que(w:World):Cl 38 #[] w fun e w'=>∃nd bt,e=.returned (vP bt)/\Bw w w'/\Blk w' nd 136 #[.string ⟨#[]⟩,.bool false,vI 0,vI 0,vI 0,vI 0,.pointer none,v0_]/\Blk w' bt 102 #[vP nd,vI 0,v0_,v0_]/\w.heap.size<=nd/\nd<bt/\bt<w'.heap.size:=by
 refine(qva w).mono ?_
 rintro e w' ⟨rfl,rfl⟩
 refine⟨w.heap.size+1,w.heap.size+2,rfl,?_,?_,Blk.new' (by simp),by omega,by omega,by simp⟩
 ·exact(((Below.refl _ _).alloc (Nat.le_refl _) _).alloc (by simp) _).alloc (by simp;omega) _
 ·exact(Blk.new' (by simp)).alloc _
theorem qmq(w:World):Cl 65 #[] w fun e w'=>∃rr br,e=.returned (vP br)/\Bw w w'/\Blk w' rr 163 #[.string ⟨#[]⟩,.bool false,vI 0,vI 0,vI 0,vI 0]/\Blk w' br 167 #[vS rr 1 1,v0_,vI 0,vI 0]/\w.heap.size<=rr/\rr<br/\br<w'.heap.size:=by
 refine(qp1 w).mono ?_
 rintro e w' ⟨rfl,rfl⟩
 refine⟨w.heap.size,w.heap.size+1,rfl,?_,?_,Blk.new' (by simp),by omega,by omega,by simp⟩
 ·exact((Below.refl _ _).alloc (Nat.le_refl _) _).alloc (by simp) _
 ·exact(Blk.new' rfl).alloc _
structure NewP (W:World) (bw k:Nat) (cd:Value) (cells:List Value) (op:Array Value) (U:World) (nd bt rr br gT cT:Nat) (w':World):Prop where
 u:Bw W U
 nd_:Blk U nd 136 #[.string ⟨#[]⟩,.bool false,vI 0,vI 0,vI 0,vI 0,.pointer none,v0_]
 bt_:Blk U bt 102 #[vP nd,vI 0,v0_,v0_]
 rr_:Blk U rr 163 #[.string ⟨#[]⟩,.bool false,vI 0,vI 0,vI 0,vI 0]
 br_:Blk U br 167 #[vS rr 1 1,v0_,vI 0,vI 0]
 lo:W.heap.size<=nd/\nd<bt/\bt<rr/\rr<br
 end_:∃wA,AppR U cd.ownBlock 128 2 (k+1) (cells++[vP bt,vP br]) gT cT wA/\w'=wA.setCell (vA bw 0) (vS gT (k+1) cT)
theorem qvk(w:World):Sem.run prog (callFunc 65 #[]) w=.ok (.enter 65 #[]) w:=by kernel_rfl
theorem qj4{fF:Array Oper}{o:Oper}{a:Act}{K:Act->World->Prop}{Q:Exit->Act->World->Prop}{E:Prop}{R:Value->World->Prop}(f:Nat)
  (hg:o.guard=none) (u_:o.op=Op.call {callee:=Callee.value (Operand.func f),args:=#[],argTypes:=#[]}) (hf:Sem.run P (callFunc f #[]) w=.ok (.enter f #[]) w)
  (hc:Calls P f #[] w fun e w'=>∃v,e=.returned v/\R v w') (hK:∀v' w',R v' w'->K (a.put o.dst v') w') :
  if Region.wanted o (yielded fF a.tmps)=true then Oper.wp P o a w K Q else E:=by
 rw[if_pos (by simp[Region.wanted,hg])];unfold Oper.wp
 simp[u_,go_sem]
 rw[hf]
 refine hc.mono ?_
 rintro e w' ⟨v,rfl,hR⟩
 exact hK v w' hR
theorem qtc{W:World}{bw k:Nat}(hb:Blk W bw 84 #[cd,bO,cC,bL,cy]){cells:List Value}(au:W.ownsRow 0 128 2 cd k cells)(hk:k<=100000000)(aW:cd.ownBlock≠some bw)(s s2:ByteArray)(T a0 a1 c0 c1 nm:Int):
  Cl 36 #[vP bw,.agg #[vI 1,vI T,.string s,.string s2,vI a0,vI a1,vI c0,vI c1,vI nm]] W
   fun e w'=>e=.returned (.bool true)/\∃U nd bt rr br gT cT,NewP W bw k cd cells #[] U nd bt rr br gT cT w':=by
 obtain⟨aT,Fi,rfl⟩:=qev au;have cu:=fun W' (h:W'.ownsRow 0 128 2 (.slice aT k Fi) k cells) nb (bt br:Nat) (cU:Blk W' nb 128 #[vP bt,vP br]) =>
  qby un26 qw3 (by omega) W' _ k cells h nb 1 1 (by omega) [vP bt,vP br] rfl cU (by intro u hu;simp at hu;rcases hu with rfl|rfl<;>rfl) (by unfold maxLen;omega) (by omega)
 have ak:=hb.lt;have Hu:=hb.cell 0;simp only[xq0,xq1,xq2]at Hu
 go_enter func36,ntmps36
 go_wp2_with (go_at_call 38;refine(que _).mono ?_;rintro e w1 ⟨nd,bt,rfl,aa,BN,BK,o1,o2,o3⟩;have aj:Bw W w1:=qac (by exact bel2) aa;have cJ:=aj.size;have Fg:=hb.below aj ak;have H6:=Fg.cell 0;have Kx:=Fg.lt;simp only[xq0,xq1,xq2]at H6)
 have h8:∀W',Cl 65 #[] W' fun e w'=>∃v,e=.returned v/\∃rr br,v=vP br/\Below W'.heap.size W' w'/\Blk w' rr 163 #[.string ⟨#[]⟩,.bool false,vI 0,vI 0,vI 0,vI 0]/\Blk w' br 167 #[vS rr 1 1,v0_,vI 0,vI 0]/\W'.heap.size<=rr/\rr<br/\br<w'.heap.size:=fun W'=>(qmq W').mono (fun e w' ⟨rr,br,h1,h2⟩=>⟨_,h1,rr,br,rfl,h2⟩)
 go_region_law (first
  |(refine qj4 65 rfl rfl (qvk _) (h8 _) ?_;rintro v2 w2 ⟨rr,br,rfl,af,Fe,BI,o4,o5,o6⟩;have aw:Bw W w2:=qac (by exact bel2) af;have dO:=aw.size;have Fh:=hb.below aw ak;have H7:=Fh.cell 0;have Ky:=Fh.lt;have Hr:Blk w2 nd 136 #[.string ⟨#[]⟩,.bool false,vI 0,vI 0,vI 0,vI 0,.pointer none,v0_]:=Blk.below (by exact blk2) af BN.lt;have Hq:Blk w2 bt 102 #[vP nd,vI 0,v0_,v0_]:=Blk.below (by exact blk2) af BK.lt;simp only[xq0,xq1,xq2]at H7)
  |(refine qau rfl (.tmp 46) (.tmp 50) 79 79 rfl _ _ ?_ ?_ (cu _ ?_ ?_ bt br ?_) ?_;(focus (simp[Act.eval,Act.put]));(focus ((try simp[Act.eval,Act.put]);(try rfl)));(focus (exact qab (T:=fun _=>False) au (Keep.new (by exact bel2)) (fun _ _ h=>h)));(focus exact blk2);rintro vA wA ⟨gT,cT,rfl,RA⟩;have bA:=Blk.keep (show Blk _ bw 84 #[.slice aT k Fi,bO,cC,bL,cy] by exact blk2) RA.keep aW;have xy:=bA.cell 0;have Fp:=bA.frozen 0;simp only[xq0,xq1,xq2]at xy))
 all_goals go_wp2
 all_goals go_ret
 all_goals exact⟨rfl,_,nd,bt,rr,br,gT,cT,⟨(by exact bel2),(by exact blk2),(by exact blk2),(by exact blk2),(by exact blk2),⟨(by first|omega|(simp at o1;omega)),o2,(by first|omega|(simp at o4;omega)),o5⟩,wA,RA,rfl⟩⟩
def tw0 (bt nd br rr:Nat):Tw:=⟨bt,[qiw nd],0,v0_,v0_,[],[],br,rr,1,[⟨[],false,0,0,0,0⟩],none,0,[],0,0⟩
theorem qrh(bt nd br rr K:Nat):qbj K (tw0 bt nd br rr):=by
 refine⟨rfl,rfl,⟨qwp nd,⟨rfl,⟨[],rfl,List.Perm.refl _,List.Pairwise.nil⟩,fun p hp=>(by cases hp)⟩,⟨⟨⟨fun x hx=>(by cases hx),fun x hx=>(by cases hx),by simp[tw0]⟩,by simp[tw0],fun x hx=>(by cases hx),by simp[tw0]⟩,by simp[tw0],fun x hx=>(by cases hx)⟩,⟨fun x hx=>(by cases hx),fun x hx=>(by cases hx)⟩,by simp[tw0]⟩,by simp[tw0],by simp[tw0];omega⟩
theorem qn7{n₀ : Nat}{τ : Nat->Tag}{W:World}{bw:Nat}{ay:List Tw}(h:St n₀ τ W bw ay (200*K))(hA:∀y∈ay,qbj K y)(d_:ay.length<=100000000)(s s2:ByteArray)(T a0 a1 c0 c1 nm:Int):
  Cl 36 #[vP bw,.agg #[vI 1,vI T,.string s,.string s2,vI a0,vI a1,vI c0,vI c1,vI nm]] W (fun e w'=>qci n₀ τ W bw ay.length (K+1) e w'/\∃τ' di,St n₀ τ' w' bw di (200*(K+1))/\(∀y∈di,qbj (K+1) y)/\qbh τ W τ' w'/\di.length=ay.length+1):=by
 obtain⟨cd,bO,cC,bL,cy,ns,es,ms,me,h⟩:=h;have aW:cd.ownBlock≠some bw:=fun e=>by have:=h.tT _ e;rw[h.law.tag]at this;cases this
 refine(qtc h.law.blk h.row d_ aW s s2 T a0 a1 c0 c1 nm).mono ?_
 rintro e w' ⟨rfl,U,nd,bt,rr,br,gT,cT,hu,BN,BK,Fe,BI,⟨o1,o2,o3,o4⟩,wA,RA,cG⟩
 suffices hh:∃τ' di,qbh τ W τ' w'/\St n₀ τ' w' bw di (200*(K+1))/\(∀y∈di,qbj (K+1) y)/\di.length=ay.length+1 by
  obtain⟨τ',di,m1,m2,m3,m4⟩:=hh
  exact⟨⟨rfl,τ',di,m1,m2,m3,by omega,by omega⟩,τ',di,m2,m3,m1,m4⟩
 have cn:=h.law.blk.lt;have kd:=hu.size;have IU:=BI.lt;obtain⟨TT,wy⟩:∃TT:Nat->Prop,TT=fun b=>b=bw\/cd.ownBlock=some b:=⟨_,rfl⟩
 have kA:Keep TT wA w':=by rw[cG];exact(Keep.refl _ _).setCell (p:=vA bw 0) (by rw[wy];exact Or.inl rfl) _
 have kU:Keep TT U w':=(RA.keep.mono (fun b hb=>by rw[wy];exact Or.inr hb)).trans kA;have kW:Keep TT W w':=(Keep.new hu:Keep TT W U).trans kU;have tZ:∀b,TT b->b<W.heap.size:=fun b hb=>by
  rw[wy]at hb
  rcases hb with rfl|e
  ·exact cn
  ·exact qal h.row e
 have oW:∀b,TT b -> τ b=.law \/ τ b=.lawT:=fun b hb=>by
  rw[wy]at hb
  rcases hb with rfl|e
  ·exact .inl h.law.tag
  ·exact .inr (h.tT _ e)
 have bQ:∀b,W.heap.size<=b->¬TT b:=fun b hb ht=>by have:=tZ b ht;omega
 obtain⟨τ',fV⟩:∃τ':Nat->Tag,τ'=fun b=>if b<W.heap.size then τ b else if b=nd then .node ay.length nd else if b=bt then .tow ay.length else if b=rr then .rrow ay.length else if b=br then .ref ay.length else if b=gT then .lawT else .free:=⟨_,rfl⟩
 have old:∀b,b<W.heap.size -> τ' b = τ b:=fun b hb=>by rw[fV];simp[hb]
 have Lu : τ' nd=.node ay.length nd:=by rw[fV];simp only;rw[if_neg (by omega),if_pos trivial]
 have Ls : τ' bt=.tow ay.length:=by rw[fV];simp only;rw[if_neg (by omega),if_neg (by omega),if_pos trivial]
 have Lv : τ' rr=.rrow ay.length:=by rw[fV];simp only;rw[if_neg (by omega),if_neg (by omega),if_neg (by omega),if_pos trivial]
 have Lr : τ' br=.ref ay.length:=by rw[fV];simp only;rw[if_neg (by omega),if_neg (by omega),if_neg (by omega),if_neg (by omega),if_pos trivial]
 have Lt : τ' gT=.lawT:=by
  rcases RA.new with e|e
  ·rw[old _ (qal h.row e)];exact h.tT _ e
  ·rw[fV];simp only;rw[if_neg (by omega),if_neg (by omega),if_neg (by omega),if_neg (by omega),if_neg (by omega),if_pos trivial]
 have Jp:gT≠bw:=by
  rcases RA.new with e|e
  ·exact fun e2=>aW (by rw[e,e2])
  ·omega
 obtain⟨n1,n2,n3⟩:=h.law.N.lt;obtain⟨e1,e2,e3⟩:=h.law.E.lt;have hx:∀g t,τ g=t->t≠.law->t≠.lawT->¬TT g:=fun g t ht h1 h2 hg=>by
  rcases oW g hg with e|e
  ·exact h1 (by rw[<-ht,e])
  ·exact h2 (by rw[<-ht,e])
 refine⟨τ',ay++[tw0 bt nd br rr],⟨old,kW.qlj (fun b hb ht=>⟨hb,fun e=>by rcases oW b ht with e'|e'<;>rw[e]at e'<;>cases e'⟩)⟩,
  ⟨vS gT (ay.length+1) cT,bO,cC,bL,cy,ns,es,ms,me,⟨⟨?_,by rw[old _ cn];exact h.law.tag,?_,?_,?_,?_,?_,?_,?_,?_⟩,by have:=h.n1;omega,by have:=h.n2;omega,?_,?_,?_,?_,Nat.le_trans h.le kW.size⟩⟩,?_,by simp⟩
 ·have b1:Blk U bw 84 _:=h.law.blk.below hu cn;have b2:=(b1.keep RA.keep aW).set 0 (vS gT (ay.length+1) cT);rw[<-cG]at b2
  exact b2
 ·exact h.law.N.keep kW (fun g hg=>hx g _ (h.law.tN g hg) (by simp) (by simp)) (fun g hg=>hx g _ (h.law.tA g hg) (by simp) (by simp)) (fun v hv g hg=>hx g _ (h.law.ln v hv g hg) (by simp) (by simp))
 ·exact h.law.E.keep kW (fun g hg=>hx g _ (h.law.tE g hg) (by simp) (by simp)) (fun g hg=>hx g _ (h.law.tB g hg) (by simp) (by simp)) (fun v hv g hg=>hx g _ (h.law.le v hv g hg) (by simp) (by simp))
 ·intro g hg;rw[old _ (n1 g hg)];exact h.law.tN g hg
 ·intro g hg;rw[old _ (e1 g hg)];exact h.law.tE g hg
 ·intro g hg;rw[old _ (n2 g hg)];exact h.law.tA g hg
 ·intro g hg;rw[old _ (e2 g hg)];exact h.law.tB g hg
 ·intro v hv g hg;rw[old _ (n3 v hv g hg)];exact h.law.ln v hv g hg
 ·intro v hv g hg;rw[old _ (e3 v hv g hg)];exact h.law.le v hv g hg
 ·have kk:Keep (fun b=>b=bw) wA w':=by rw[cG];exact(Keep.refl (fun b=>b=bw) _).setCell (p:=vA bw 0) rfl _
  have:=qab RA.own kk (fun g hg=>by simp[Value.ownBlock]at hg;subst hg;exact Jp)
  simpa [qed,tw0] using this
 ·intro g hg;simp[Value.ownBlock]at hg;subst hg;exact Lt
 ·intro t x qg
  rcases Nat.lt_or_ge t ay.length with ak|kF
  ·rw[xrp ak]at qg
   refine(h.tw t x qg).keep kW (fun b hb ht=>?_) old
   rcases oW b ht with e|e<;>rw[e]<;>exact⟨fun h=>h,fun h=>h⟩
  ·rw[xro kF]at qg;have Gm:t=ay.length:=by
    rcases Nat.eq_zero_or_pos (t-ay.length) with h0|h0
    ·omega
    ·rw[List.getElem?_eq_none (by simp;omega)]at qg;cases qg
   subst Gm
   simp at qg;subst qg
   have BO:=BN.keep kU (bQ _ (by omega));have xn:=BK.keep kU (bQ _ (by omega));have BS:=Fe.keep kU (bQ _ (by omega));have BJ:=BI.keep kU (bQ _ (by omega));have ny:qfn τ' ay.length w' bt [qiw nd] (vI 0) v0_ v0_:=by
    refine⟨qwp nd,?_,?_,⟨qiw nd,rfl,xn⟩,Ls,fun a ha b hb _=>by simp at ha hb;rw[ha,hb]⟩
    ·intro n hn;simp at hn;subst hn
     exact⟨BO,xrk _ _ _ _⟩
    ·intro i n hn
     match i,hn with
     |0,hn=>simp at hn;subst hn;exact⟨Lu,fun g hg=>by cases hg⟩
     |i+1,hn=>simp at hn
   refine⟨⟨ny,⟨qiw nd,rfl,ny.ins,⟨xn,xrk _ _ _ _,xrk _ _ _ _,fun p hp=>(by cases hp),fun b hb=>(by cases hb),List.nodup_nil,fun a ha=>(by cases ha),by simp[tw0]⟩,fun p hp=>(by cases hp),fun p hp=>(by cases hp)⟩,fun b hb=>(by rcases hb with hb|hb<;>cases hb),fun p hp=>(by cases hp)⟩,⟨⟨BJ,?_⟩,xrk _ _ _ _,fun b hb=>(by cases hb)⟩,Lr,Lv,fun b hb=>(by cases hb)⟩
   exact⟨rfl,.inr ⟨rr,1,_,rfl,Nat.zero_le _,BS,Nat.le_refl _,by unfold maxLen;omega,rfl,rfl⟩⟩
 ·intro b hb;rw[old _ (xrg hb h.le)];exact h.lo b hb
 ·intro x lK
  rcases xri.1 lK with h1|h1
  ·exact(hA x h1).mono (by omega)
  ·simp at h1;subst h1;exact qrh _ _ _ _ _
structure OpC where
 k:Int
 t:Int
 s:ByteArray
 s2:ByteArray
 a0:Int
 a1:Int
 c0:Int
 c1:Int
 nm:Int
def OpC.cells(o:OpC):Array Value:=#[vI o.k,vI o.t,.string o.s,.string o.s2,vI o.a0,vI o.a1,vI o.c0,vI o.c1,vI o.nm]
def qfd (W:World)(ao:Option Addr)(len:Nat)(O:Nat->OpC):Prop :=
 ∀i,i<len->∃b g_,ao=some (vA b g_)/\b<W.heap.size/\W.cell? (vA b (g_+i*9))=some (vI (O i).k)/\W.cell? (vA b (g_+i*9+1))=some (vI (O i).t)/\W.cell? (vA b (g_+i*9+2))=some (.string (O i).s)/\W.cell? (vA b (g_+i*9+3))=some (.string (O i).s2) /\
  W.cell? (vA b (g_+i*9+4))=some (vI (O i).a0)/\W.cell? (vA b (g_+i*9+5))=some (vI (O i).a1)/\W.cell? (vA b (g_+i*9+6))=some (vI (O i).c0)/\W.cell? (vA b (g_+i*9+7))=some (vI (O i).c1)/\W.cell? (vA b (g_+i*9+8))=some (vI (O i).nm)
theorem qnl{W:World}{len:Nat}(hl:len<=cap)(hm:cap<=maxLen){O:Nat->OpC}(hS:qfd W ao len O)(last:Int){A:Nat->World->Prop}
  (h0:∀w,Bw W w->Blk w W.heap.size 84 #[v0_,v0_,v0_,v0_,v0_] ->
   Cl 36 #[vP W.heap.size,.agg #[vI 1,vI 0,.string ⟨#[]⟩,.string ⟨#[]⟩,vI 0,vI 0,vI 0,vI 0,vI 0]] w fun e w'=>e=.returned (.bool true)/\A 1 w')
  (h1:∀w,A 1 w->Cl 36 #[vP W.heap.size,.agg #[vI 3,vI 0,.string ⟨#[97]⟩,.string ⟨#[]⟩,vI 10,vI 10,vI 5,vI 0,vI 0]] w fun e w'=>e=.returned (.bool true)/\A 2 w')
  (h2:∀w,A 2 w->Cl 36 #[vP W.heap.size,.agg #[vI 4,vI 0,.string ⟨#[97]⟩,.string ⟨#[]⟩,vI 0,vI 0,vI 0,vI 0,vI 0]] w fun e w'=>e=.returned (.bool true)/\A 3 w')
  (h3:∀i,i<len->(O i).k<=last->∀w,A (3+i) w->Cl 36 #[vP W.heap.size,.agg #[vI (O i).k,vI (O i).t,.string (O i).s,.string (O i).s2,vI (O i).a0,vI (O i).a1,vI (O i).c0,vI (O i).c1,vI (O i).nm]] w fun e w'=>e=.returned (.bool true)/\A (3+(i+1)) w')
  (h4:∀i,i<=len->∀w,A (3+i) w->Cl 37 #[vP W.heap.size] w fun e w'=>e=.returned (.bool true)/\A (3+i) w')
  (hA:∀i w,A i w->Bw W w/\A (i+1) w) :
  Cl 14 #[.slice ao len cap,vI last] W fun e w'=>e=.returned (.bool true)/\Bw W w':=by
 have HS:Hid (qfd W ao len O):=hS;have HA:Hid (∀i w,A i w->Bw W w/\A (i+1) w):=hA;clear hS hA;have an:len<=9223372036854775807:=by unfold maxLen at hm;omega
 go_enter func14,ntmps14
 go_wp2_with (first
  |(go_at_call 36;refine(h2 _ sw).mono ?_;rintro e w3 ⟨rfl,sy⟩)
  |(go_at_call 36;refine(h1 _ Iv).mono ?_;rintro e w2 ⟨rfl,sw⟩)
  |(go_at_call 36;refine(h0 _ (by exact bel2) (by exact blk2)).mono ?_;rintro e w1 ⟨rfl,Iv⟩))
 go_loopw [6,7] (fun ok i wr=>ok=.bool true/\∃k:Nat,k<=len/\i=vI k/\A (3+k) wr) (fun _ i _=>len-(intOf i).toNat)
 case atStart=>exact⟨rfl,0,Nat.zero_le _,rfl,sy⟩
 case round =>
  obtain⟨rfl,k,hk,rfl,xJ⟩:=hrel
  by_cases ak:k<len
  ·obtain⟨b,g_,rfl,hb,q0,q1,q2,q3,q4,q5,q6,q7,q8⟩:=HS.out k ak;have hB:=(HA.out _ _ xJ).1;have r0:=(hB.cell (p:=vA b (g_+k*9)) hb).trans q0;have r1:=(hB.cell (p:=vA b (g_+k*9+1)) hb).trans q1;have r2:=(hB.cell (p:=vA b (g_+k*9+2)) hb).trans q2;have r3:=(hB.cell (p:=vA b (g_+k*9+3)) hb).trans q3;have r4:=(hB.cell (p:=vA b (g_+k*9+4)) hb).trans q4;have r5:=(hB.cell (p:=vA b (g_+k*9+5)) hb).trans q5;have r6:=(hB.cell (p:=vA b (g_+k*9+6)) hb).trans q6;have r7:=(hB.cell (p:=vA b (g_+k*9+7)) hb).trans q7;have r8:=(hB.cell (p:=vA b (g_+k*9+8)) hb).trans q8;clear q0 q1 q2 q3 q4 q5 q6 q7 q8;have gZ:=(HA.out _ _ xJ).2
   by_cases dV:(O k).k<=last
   ·have Is:=h3 k ak dV;have Ch:=h4 (k+1) (by omega);clear h3 h4 h0 h1 h2 gZ
    go_wp2_with (first
     |(go_at_call 36;refine(Is _ xJ).mono ?_;rintro e w4 ⟨rfl,Iw⟩)
     |(go_at_call 37;refine(Ch _ Iw).mono ?_;rintro e w5 ⟨rfl,Ci⟩))
    exact⟨⟨rfl,k+1,by omega,by go_num,Ci⟩,by simp[intOf];omega⟩
   ·have Ch:=h4 k (by omega);clear h3 h4 h0 h1 h2 gZ
    go_wp2_with (go_at_call 37;refine(Ch _ xJ).mono ?_;rintro e w5 ⟨rfl,Ci⟩)
    exact⟨⟨rfl,k+1,by omega,by go_num,(HA.out _ _ Ci).2⟩,by simp[intOf];omega⟩
  ·go_wp2
   go_ret
   exact⟨rfl,(HA.out _ _ xJ).1⟩
theorem St.low{n₀ : Nat}{τ : Nat->Tag}{W:World}{bw:Nat}{ay:List Tw}{N:Nat}(h:St n₀ τ W bw ay N):(∀b,b<n₀ -> τ b=.free)/\n₀ <= W.heap.size:=by
 obtain⟨cd,bO,cC,bL,cy,ns,es,ms,me,h⟩:=h
 exact⟨h.lo,h.le⟩
theorem St.mono{n₀ : Nat}{τ : Nat->Tag}{W:World}{bw:Nat}{ay:List Tw}{N:Nat}(h:St n₀ τ W bw ay N)(F8:N<=M):St n₀ τ W bw ay M:=by
 obtain⟨cd,bO,cC,bL,cy,ns,es,ms,me,h⟩:=h
 exact⟨cd,bO,cC,bL,cy,ns,es,ms,me,⟨h.law,Nat.le_trans h.n1 F8,Nat.le_trans h.n2 F8,h.row,h.tT,h.tw,h.lo,h.le⟩⟩
theorem qbh.low{n₀ : Nat}{τ : Nat->Tag}{W:World}{bw:Nat}{ay:List Tw}{N:Nat}(h:St n₀ τ W bw ay N)(hm:qbh τ W τ' w'):Below n₀ W w' :=
 ⟨hm.keep.os,hm.keep.tape,hm.keep.output,hm.keep.size,fun k hk=>hm.keep.block k (xrg hk h.low.2) (fun hn=>hn.2 (h.low.1 k hk))⟩
def At (W0:World)(k:Nat)(w:World):Prop:=∃τ ay,St W0.heap.size τ w W0.heap.size ay (200*k)/\(∀y∈ay,qbj k y)/\0<ay.length/\ay.length<=k/\Bw W0 w
theorem At.low{k:Nat}(h:At W0 k w):Bw W0 w/\At W0 (k+1) w:=by
 obtain⟨τ,ay,h1,h2,h3,h4,h5⟩:=h
 exact⟨h5,τ,ay,h1.mono (by omega),fun y hy=>(h2 y hy).mono (by omega),h3,by omega,h5⟩
theorem At.next{k:Nat}{τ : Nat->Tag}{ay:List Tw}{e:Ending}(hS:St W0.heap.size τ w W0.heap.size ay (200*k))(h3:0<ay.length)(h4:ay.length<=k)(h5:Bw W0 w)
  (hR:qci W0.heap.size τ w W0.heap.size ay.length (k+1) e w'):e=.returned (.bool true)/\At W0 (k+1) w':=by
 obtain⟨rfl,τ',di,m1,m2,m3,m4,m5⟩:=hR
 exact⟨rfl,τ',di,m2.mono (by omega),m3,by omega,by omega,h5.trans (qbh.low hS m1)⟩
theorem qvd{k:Nat}(hk:k<=2000000)(h:At W0 k w):Cl 37 #[vP W0.heap.size] w fun e w'=>e=.returned (.bool true)/\At W0 k w':=by
 obtain⟨τ,ay,h1,h2,h3,h4,h5⟩:=h;obtain⟨cd,bO,cC,bL,cy,ns,es,ms,me,hS⟩:=id h1;have n1:=hS.n1;have n2:=hS.n2
 refine(qhq hS.law.blk hS.law.N hS.law.E (by omega) (by omega)).mono ?_
 rintro e w' ⟨rfl,hb⟩
 exact⟨rfl,_,ay,h1.below hb,h2,h3,h4,h5.trans (hb.mono h1.low.2)⟩
theorem qrn(w:World)(c:Nat)(tl:TypeId):qdz w c tl v0_ v0_ [] [] :=
 ⟨xrk _ _ _ _,xrk _ _ _ _,rfl,fun i v m h=>by simp at h⟩
theorem qs8(hb:Bw W0 w)(bk:Blk w W0.heap.size 84 #[v0_,v0_,v0_,v0_,v0_]):
  St W0.heap.size (fun b=>if b=W0.heap.size then .law else .free) w W0.heap.size [] 0:=by
 have a7:∀g,v0_.ownBlock=some g->False:=fun g hg=>by cases hg
 refine⟨v0_,v0_,v0_,v0_,v0_,[],[],[],[],⟨⟨bk,by simp,qrn _ _ _,qrn _ _ _,fun g hg=>(a7 g hg).elim,fun g hg=>(a7 g hg).elim,fun g hg=>(a7 g hg).elim,fun g hg=>(a7 g hg).elim,fun v hv=>(by cases hv),fun v hv=>(by cases hv)⟩,Nat.le_refl _,Nat.le_refl _,xrk _ _ _ _,fun g hg=>(a7 g hg).elim,fun t x hx=>by simp at hx,fun b aZ=>?_,hb.size⟩⟩
 rw[if_neg (by omega)]
theorem qts(hb:Bw W0 w)(bk:Blk w W0.heap.size 84 #[v0_,v0_,v0_,v0_,v0_])(s s2:ByteArray)(T a0 a1 c0 c1 nm:Int):
  Cl 36 #[vP W0.heap.size,.agg #[vI 1,vI T,.string s,.string s2,vI a0,vI a1,vI c0,vI c1,vI nm]] w fun e w'=>e=.returned (.bool true)/\At W0 1 w':=by
 have h1:=qs8 hb bk
 refine(qn7 (K:=0) h1 (fun x hx=>by cases hx) (by simp) s s2 T a0 a1 c0 c1 nm).mono ?_
 rintro e w' ⟨hR,τ',di,m2,m3,m1,m4⟩
 simp at m4
 exact⟨hR.1,τ',di,m2.mono (by omega),m3,by omega,by omega,hb.trans (qbh.low h1 m1)⟩
def OpOK (o:OpC):Prop:=(o.s.size<=1048576/\o.s2.size<=1048576 /\ -9223372036854775808<=o.nm/\o.nm<=9223372036854775807) /\ -9223372036854775808<=o.t/\o.t<=9223372036854775807
def qur (last:Int):Prop:=∀(W0 w:World) (k:Nat),k<=1999999->At W0 k w->∀(z T:Int) (s s2:ByteArray) (a0 a1 c0 c1 nm:Int),z<=last->s.size<=2000000->s2.size<=2000000 -> -9223372036854775808<=T->T<=9223372036854775807 -> -9223372036854775808<=nm->nm<=9223372036854775807 ->
  Cl 36 #[vP W0.heap.size,.agg #[vI z,vI T,.string s,.string s2,vI a0,vI a1,vI c0,vI c1,vI nm]] w fun e w'=>e=.returned (.bool true)/\At W0 (k+1) w'
theorem qqh(last:Int)(bW:qur last)(h4:4<=last){W:World}{len:Nat}(hl:len<=cap)(hm:cap<=maxLen){O:Nat->OpC}(hS:qfd W ao len O)(an:len<=1048576)(hO:∀i,i<len->OpOK (O i)):
  Cl 14 #[.slice ao len cap,vI last] W fun e w'=>e=.returned (.bool true)/\Bw W w':=by
 refine qnl hl hm hS last (A:=At W) (fun w h1 h2=>qts h1 h2 _ _ _ _ _ _ _ _) (fun w h=>?_) (fun w h=>?_) (fun i hi hk w h=>?_) (fun i hi w h=>?_) (fun i w h=>h.low)
 ·exact bW W w 1 (by omega) h 3 0 ⟨#[97]⟩ ⟨#[]⟩ 10 10 5 0 0 (by omega) (by decide) (by decide) (by omega) (by omega) (by omega) (by omega)
 ·exact bW W w 2 (by omega) h 4 0 ⟨#[97]⟩ ⟨#[]⟩ 0 0 0 0 0 (by omega) (by decide) (by decide) (by omega) (by omega) (by omega) (by omega)
 ·obtain⟨⟨o1,o2,o3,o4⟩,o5,o6⟩:=hO i hi
  exact bW W w (3+i) (by omega) h _ _ _ _ _ _ _ _ _ hk (by omega) (by omega) o5 o6 o3 o4
 ·exact qvd (by omega) h
end Go.Proofs.YtphclnolomgjoaaGreatDoor
