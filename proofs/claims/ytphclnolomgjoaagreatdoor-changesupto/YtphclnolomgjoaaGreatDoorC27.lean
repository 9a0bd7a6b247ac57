import Derived.Test.YtphclnolomgjoaaGreatDoorC26
set_option linter.unusedVariables false
set_option linter.unusedSimpArgs false
set_option maxRecDepth 100000
set_option maxHeartbeats 4000000
namespace Go.Proofs.YtphclnolomgjoaaGreatDoor
open Tryz
open Go.RowKit
variable {τ : Nat->Tag}{B b b6 br bt cW cap gT size t:Nat}{W w w1 wA:World}{nodes:List Node}{sl va vw z0 z1 z2 z3 z4 z5 z6 z7 z8:Value}{as_ ws:List Pw}{Ap Ws Ws':List Wk}{a cnt st:Int}{m n:Node}{x y:Wk}{vs:Array Value}{e:TypeId}{xs:List Value}{key:List Bs}{L:List Ent}{ao:Option Addr}
theorem qkg{last:Int}{x:Ent}(hl:bt<W.heap.size/\(∀b,vw.ownBlock=some b\/va.ownBlock=some b->b<W.heap.size))(h:qkh τ t W bt nodes last vw va ws as_ Ws x w1)(I:SInv ⟨Ws,st,[]⟩):
  Cl 51 #[vP bt,vI 0] w1 fun e w'=>∃ev,e=.returned (.tuple #[ev,vI 0])/\qiz τ t W bt nodes last Ws st 0 x (.returned (.tuple #[ev,vI 0])) w'/\Keep (fun b=>b<W.heap.size) w1 w':=by
 obtain⟨τ1,iZ,g1,g2,g3,g4,g5,g6⟩:=h;obtain⟨r,hr,oc⟩:=g3.bk;obtain⟨gd,bK⟩:=qeh g3.pr.tree hr
 refine(qf6 g3.pr.tree g3.pr.qlc oc gd bK (s0:=⟨Ws,st,[]⟩) g5 I rfl).mono ?_
 rintro e w' ⟨ik,gR,eV,il,jj,rfl,m1,m2,m3,m4,m5,m6,m7⟩
 obtain⟨τ2,oy,qJ,jF,mY,k1,k2,k3,k4,k5,k6,k7⟩:=g3.set hr (last':=last) (ev:=eV) ⟨ik,gR,il,jj,m1,m2,m3,m4,m5,m6,fun p hp=>.inl (m7 p hp)⟩;have hz:=g6.size;rw[g4]at k4 k5
 refine⟨eV,rfl,.inr ⟨rfl,τ2,iZ,oy,qJ,jF,mY,eV,rfl,fun b hb=>(k1 b (by omega)).trans (g1 b hb),fun b hb=>?_,k3,g4,k4,k5,fun b hb=>⟨by have:=(k6 b hb).1;omega,(k6 b hb).2⟩,g6.qbo k7 (fun b hb e=>⟨hb,by have:=e.2;rw[g1 b hb]at this;exact this⟩)⟩,m4.mono (fun x hx=>?_)⟩
 ·by_cases aa:b<w1.heap.size
  ·rw[k1 b aa];exact g2 b hb
  ·exact k2 b (by omega)
 ·rcases hx with e|e|e
  ·rw[e];exact hl.1
  ·exact hl.2 x (.inl e)
  ·exact hl.2 x (.inr e)
theorem qw9{last:Int}(h:qb6 τ t W bt nodes last vw va ws as_)(R:Rel nodes Ws ws as_)(I:SInv ⟨Ws,st,[]⟩)(s:ByteArray)(hs:s.size<=2000000)(a b c d:Int):
  Cl 26 #[vP bt,.string s,.agg #[vI a,vI b],.agg #[vI c,vI d]] W
   (qiz τ t W bt nodes last Ws st (qbc nodes (bl s) (qb3 [(a,b),(c,d)])) ⟨qaa (bl s),true,a,b,c,d⟩):=by
 have cm:∀W',Bw W W'->∀q vb,W.heap.size<=q->Blk W' q 136 #[.string ⟨#[]⟩,.bool true,vI a,vI b,vI c,vI d,.pointer none,v0_]->Blk W' vb 35 #[vI a,vI b,vI c,vI d] ->
   Cl 52 #[vP bt,.string s,vP q,vS vb 2 2] W' fun e w'=>e=.returned (vI (qbc nodes (bl s) (qb3 [(a,b),(c,d)])))/\(qbc nodes (bl s) (qb3 [(a,b),(c,d)])≠0->Bw W w')/\(qbc nodes (bl s) (qb3 [(a,b),(c,d)])=0->qkh τ t W bt nodes last vw va ws as_ Ws ⟨qaa (bl s),true,a,b,c,d⟩ w')/\Keep (fun x=>x<W.heap.size\/x=q) W' w':=by
  intro W' hW q vb hq nh kT
  refine qv9 h R hW s hs vb 2 [(a,b),(c,d)] (by simp) kT.lt (fun j x hx=>?_) q hq true a b c d nh (fun ec=>by simp[qb3,qao]at ec;exact⟨by omega,by omega,by omega,by omega,fun h=>by cases h⟩)
  cases j with
  |zero=>simp at hx;subst hx;have c0:=kT.cell 0;have c1:=kT.cell 1;simp at c0 c1;exact⟨c0,c1⟩
  |succ j =>
   cases j with
   |zero=>simp at hx;subst hx;have c0:=kT.cell 2;have c1:=kT.cell 3;simp at c0 c1;exact⟨c0,c1⟩
   |succ j=>simp at hx
 have bQ:∀W',Bw W W'->W.heap.size+2<=W'.heap.size->Cl 53 #[.agg #[vI a,vI b],.agg #[vI c,vI d]] W' fun e w'=>∃q,e=.returned (vP q)/\Below W'.heap.size W' w'/\W.heap.size+2<=q/\Blk w' q 136 #[.string ⟨#[]⟩,.bool true,vI a,vI b,vI c,vI d,.pointer none,v0_]:=by
  intro W' hW h2
  refine(qnq _ _ _ _ _).mono ?_
  rintro e w1 ⟨rfl,rfl⟩
  have:=hW.size
  exact⟨_,rfl,by exact bel2,by omega,by exact blk2⟩
 have fX:=fun w1 (h1:qkh τ t W bt nodes last vw va ws as_ Ws ⟨qaa (bl s),true,a,b,c,d⟩ w1)=>qkg (st:=st) ⟨h.lts.1,h.lts.2.1⟩ h1 I
 generalize (⟨qaa (bl s),true,a,b,c,d⟩:Ent)=X at *;generalize qbc nodes (bl s) (qb3 [(a,b),(c,d)])=E at cm ⊢;have dx:=h.lts.1;clear h R I;have sn:Blk ((W.alloc (.cells #[vI a,vI b] 35)).alloc (.cells #[vI c,vI d] 35)) W.heap.size 35 #[vI a,vI b]:=by exact blk2
 have so:Blk ((W.alloc (.cells #[vI a,vI b] 35)).alloc (.cells #[vI c,vI d] 35)) (W.heap.size+1) 35 #[vI c,vI d]:=Blk.new' (by simp);have aO:Bw W ((W.alloc (.cells #[vI a,vI b] 35)).alloc (.cells #[vI c,vI d] 35)):=by exact bel2
 by_cases hE:E=0
 ·subst hE;simp only[ne_eq,not_true_eq_false,false_implies,true_and,forall_const]at cm;generalize qkh τ t W bt nodes last vw va ws as_ Ws X=HU at cm fX;generalize qiz τ t W bt nodes last Ws st 0 X=MA at fX ⊢
  go_enter func26,ntmps26
  go_upto_region 1 with fail
  generalize ((W.alloc (.cells #[vI a,vI b] 35)).alloc (.cells #[vI c,vI d] 35))=W0 at sn so aO ⊢;have d0:=sn.cell 0;have d1:=sn.cell 1;have e0:=so.cell 0;have e1:=so.cell 1;have l6:=sn.lt;have l7:=so.lt;have fE:=aO.size;simp only[xq0,xq1,xq2]at d0 d1 e0 e1;have n6:¬(W.heap.size=W0.heap.size):=by omega
  have n7:¬(W.heap.size+1=W0.heap.size):=by omega
  go_region_held3 (fun w'=>w'.cell? (vA W.heap.size 0)=some (vI a)/\w'.cell? (vA W.heap.size 1)=some (vI b)/\w'.cell? (vA (W.heap.size+1) 0)=some (vI c)/\w'.cell? (vA (W.heap.size+1) 1)=some (vI d)) (go_keep)
   (first
   |(go_at_call 53;refine(bQ _ ?_ ?_).mono ?_;(focus exact bel2);(focus (first|omega|(simp<;>omega)));rintro e w1 ⟨q,rfl,aa,hq,bq⟩;have aj:Bw W w1:=qac (by exact bel2) aa;have eG:Blk w1 W.heap.size 35 #[vI a,vI b]:=Blk.below (by exact blk2) aa (by first|omega|(simp<;>omega));have fW:Blk w1 (W.heap.size+1) 35 #[vI c,vI d]:=Blk.below (by exact blk2) aa (by first|omega|(simp<;>omega));have f0:=eG.cell 0;have f1:=eG.cell 1;have g0:=fW.cell 0;have g1:=fW.cell 1;have wY:=eG.lt;have Eo:=fW.lt;have KF:¬(W.heap.size=w1.heap.size):=(by omega);have KG:¬(W.heap.size+1=w1.heap.size):=(by omega);simp only[xq0,xq1,xq2]at f0 f1 g0 g1;(try (have Hs:Blk w1 W0.heap.size 35 #[vI a,vI b,vI c,vI d]:=Blk.below (by first|(with_reducible exact Blk.new' (by simp))|(with_reducible exact Blk.drew (Blk.new' (by simp)))) aa (by simp))))
   |(go_at_call 52;refine Calls.mono (cm _ ?_ _ _ ?_ ?_ ?_) ?_;(focus exact bel2);(focus omega);(focus exact blk2);(focus exact blk2);rintro e w3 ⟨rfl,hM,h_⟩;have gr:Blk w3 W.heap.size 35 #[vI a,vI b]:=Blk.keep (by exact blk2) h_ (by omega);have eS:Blk w3 (W.heap.size+1) 35 #[vI c,vI d]:=Blk.keep (by exact blk2) h_ (by omega);have u0:=gr.cell 0;have u1:=gr.cell 1;have v0:=eS.cell 0;have v1:=eS.cell 1;simp only[xq0,xq1,xq2]at u0 u1 v0 v1)
   |(go_at_call 51;refine(fX _ hM).mono ?_;rintro e w4 ⟨ev,rfl,xT,qw⟩;have oH:Blk w4 W.heap.size 35 #[vI a,vI b]:=Blk.keep (by exact blk2) qw (by omega);have oI:Blk w4 (W.heap.size+1) 35 #[vI c,vI d]:=Blk.keep (by exact blk2) qw (by omega);have x0:=oH.cell 0;have x1:=oH.cell 1;have y0:=oI.cell 0;have y1:=oI.cell 1;simp only[xq0,xq1,xq2]at x0 x1 y0 y1))
  all_goals go_wp2
  all_goals exact xT
 ·replace cm:∀W',Bw W W'->∀q vb,W.heap.size<=q->Blk W' q 136 #[.string ⟨#[]⟩,.bool true,vI a,vI b,vI c,vI d,.pointer none,v0_]->Blk W' vb 35 #[vI a,vI b,vI c,vI d] ->
    Cl 52 #[vP bt,.string s,vP q,vS vb 2 2] W' fun e w'=>e=.returned (vI E)/\Bw W w'/\Keep (fun x=>x<W.heap.size\/x=q) W' w':=fun W' h1 q vb h2 h3 h4=>(cm W' h1 q vb h2 h3 h4).mono (fun e w' hm=>⟨hm.1,hm.2.1 hE,hm.2.2.2⟩)
  have gI:=fun w=>qgg (w:=w) (bt:=bt) hE
  clear fX
  go_enter func26,ntmps26
  go_upto_region 1 with fail
  generalize ((W.alloc (.cells #[vI a,vI b] 35)).alloc (.cells #[vI c,vI d] 35))=W0 at sn so aO ⊢;have d0:=sn.cell 0;have d1:=sn.cell 1;have e0:=so.cell 0;have e1:=so.cell 1;have l6:=sn.lt;have l7:=so.lt;have fE:=aO.size;simp only[xq0,xq1,xq2]at d0 d1 e0 e1;have n6:¬(W.heap.size=W0.heap.size):=by omega
  have n7:¬(W.heap.size+1=W0.heap.size):=by omega
  go_region_held3 (fun w'=>w'.cell? (vA W.heap.size 0)=some (vI a)/\w'.cell? (vA W.heap.size 1)=some (vI b)/\w'.cell? (vA (W.heap.size+1) 0)=some (vI c)/\w'.cell? (vA (W.heap.size+1) 1)=some (vI d)) (go_keep)
   (first
   |(go_at_call 53;refine(bQ _ ?_ ?_).mono ?_;(focus exact bel2);(focus (first|omega|(simp<;>omega)));rintro e w1 ⟨q,rfl,aa,hq,bq⟩;have aj:Bw W w1:=qac (by exact bel2) aa;have eG:Blk w1 W.heap.size 35 #[vI a,vI b]:=Blk.below (by exact blk2) aa (by first|omega|(simp<;>omega));have fW:Blk w1 (W.heap.size+1) 35 #[vI c,vI d]:=Blk.below (by exact blk2) aa (by first|omega|(simp<;>omega));have f0:=eG.cell 0;have f1:=eG.cell 1;have g0:=fW.cell 0;have g1:=fW.cell 1;have wY:=eG.lt;have Eo:=fW.lt;have KF:¬(W.heap.size=w1.heap.size):=(by omega);have KG:¬(W.heap.size+1=w1.heap.size):=(by omega);simp only[xq0,xq1,xq2]at f0 f1 g0 g1;(try (have Hs:Blk w1 W0.heap.size 35 #[vI a,vI b,vI c,vI d]:=Blk.below (by first|(with_reducible exact Blk.new' (by simp))|(with_reducible exact Blk.drew (Blk.new' (by simp)))) aa (by simp))))
   |(go_at_call 52;refine Calls.mono (cm _ ?_ _ _ ?_ ?_ ?_) ?_;(focus exact bel2);(focus omega);(focus exact blk2);(focus exact blk2);rintro e w3 ⟨rfl,hM,h_⟩;have gr:Blk w3 W.heap.size 35 #[vI a,vI b]:=Blk.keep (by exact blk2) h_ (by omega);have eS:Blk w3 (W.heap.size+1) 35 #[vI c,vI d]:=Blk.keep (by exact blk2) h_ (by omega);have u0:=gr.cell 0;have u1:=gr.cell 1;have v0:=eS.cell 0;have v1:=eS.cell 1;simp only[xq0,xq1,xq2]at u0 u1 v0 v1)
   |(go_at_call 51;refine(gI _).mono ?_;rintro e w4 ⟨rfl,fQ⟩;subst fQ))
  all_goals go_wp2
  all_goals exact xrn (v:=.tuple #[v0_,vI E]) (by simp[results,results26,go_sem]) rfl (.inl ⟨hE,rfl,hM⟩)
theorem Rel.length(R:Rel nodes Ws ws as_)(hS:WkS Ws st):ws.length+as_.length=Ws.length:=by
 have:=(R.nums (fun x hx=>(hS.st x hx).1)).length_eq
 simpa using this
theorem qmt(R:Rel nodes Ws ws as_)(hS:WkS Ws st)(s:Bs)(ok:Bool):errWk nodes (ws.length+as_.length) s ok=errS (nodes.map Node.ent) Ws s ok:=by
 unfold errWk errS;rw[R.length hS,qft]
 cases findKey nodes (qaa s) with
 |none=>rfl
 |some n=>rfl
theorem qua(T:Tree nodes)(hm:m∈nodes)(hl:m.leaf=true):∀(j:Nat) (n:Node),n∈nodes->n.key.length=j->m.key <+: n.key->m.key=n.key:=by
 intro j
 induction j with
 |zero =>
  intro n hn hj hp;have h0:n.key=[]:=List.eq_nil_of_length_eq_zero hj;rw[h0]at hp ⊢
  exact List.prefix_nil.1 hp
 |succ j ih =>
  intro n hn hj hp
  rcases List.eq_nil_or_concat n.key with h0|⟨k,x,hk⟩
  ·rw[h0]at hj;cases hj
  ·rw[List.concat_eq_append]at hk;obtain⟨pp,h1,h2,h3,h4⟩:=T.par n hn k x hk;rw[hk]at hp ⊢
   rcases List.prefix_concat_iff.1 hp with e|e
   ·exact e
   ·exfalso
    have j9:pp.key.length=j:=by rw[h2];rw[hk]at hj;simpa using hj
    have e2:=ih pp h1 j9 (by rw[h2];exact e)
    have:=T.inj m hm pp h1 e2
    rw[this,h3]at hl
    cases hl
structure WkL (nodes:List Node) (Ws:List Wk) (cnt:Int):Prop where
 leaf:∀x∈Ws,∃n∈nodes,n.key=x.key/\n.leaf=true
 num:∀x∈Ws,1<=x.num/\x.num<=cnt
theorem WkL.anti(T:Tree nodes)(h:WkL nodes Ws cnt):Anti Ws:=fun x hx y hy e=>by
 obtain⟨n,hn,e1,l1⟩:=h.leaf x hx;obtain⟨m,hm,e2,l2⟩:=h.leaf y hy;have hp:=(qqv (e1 ▸ (T.ok n hn).1) (e2 ▸ (T.ok m hm).1)).1 e;rw[<-e1,<- e2]at hp ⊢
 exact(qua T hm l2 _ n hn rfl hp).symm
theorem WkL.append(h:WkL nodes Ws cnt)(hc:0<=cnt)(hn:n∈nodes)(hl:n.leaf=true){s:Bs}(hk:n.key=qaa s)(a b:Int):WkL nodes (Ws++[qct cnt s a b]) (cnt+1):=by
 refine⟨fun x hx=>?_,fun x hx=>?_⟩<;>rcases xri.1 hx with e|e
 ·exact h.leaf x e
 ·simp only[List.mem_singleton]at e;subst e
  exact⟨n,hn,hk,hl⟩
 ·have:=h.num x e;omega
 ·simp only[List.mem_singleton]at e;subst e;simp only[qct];omega
theorem SInv.append(T:Tree nodes)(I:SInv ⟨Ws,st,[]⟩)(L:WkL nodes Ws cnt)(hc:0<=cnt)(hn:n∈nodes)(hl:n.leaf=true){s:Bs}(hk:n.key=qaa s){b:Int}(hf:qao a b=true)(wh:Ws.length<24):SInv ⟨Ws++[qct cnt s a b],st,[]⟩:=by
 have hS:WkS Ws st:=I.wks;have bW:0<=st:=I.st0
 refine⟨⟨⟨fun x hx=>?_,fun x hx=>?_,by simp;omega⟩,?_,fun x hx=>?_,?_⟩,bW,(L.append hc hn hl hk a b).anti T⟩
 ·rcases xri.1 hx with e|e
  ·exact hS.wks.ok x e
  ·simp only[List.mem_singleton]at e;subst e;simp only[qct];rw[<-hk]
   exact T.ok n hn
 ·rcases xri.1 hx with e|e
  ·exact hS.wks.num x e
  ·simp only[List.mem_singleton]at e;subst e
   simp[qao]at hf
   simp only[qct]
   omega
 ·simp only[List.map_append,List.map_cons,List.map_nil]
  refine List.nodup_append.2 ⟨hS.nums,by simp,?_⟩
  intro c de d hd e;simp only[List.mem_singleton]at hd;obtain⟨x,hx,rfl⟩:=xrq.1 de
  have:=(L.num x hx).2
  rw[hd]at e;simp only[qct]at e
  omega
 ·rcases xri.1 hx with e|e
  ·exact hS.st x e
  ·simp only[List.mem_singleton]at e;subst e;simp only[qct]
   omega
 ·simp only[List.filter_append]
  simpa [qct] using hS.sts
def OfW (Ap Ws:List Wk):Prop:=∀y∈Ws,∃z∈Ap,z.adm 0=y.adm 0
theorem OfW.refl(Ws:List Wk):OfW Ws Ws:=fun y hy=>⟨y,hy,rfl⟩
theorem OfW.step(h:OfW Ap Ws)(hs:∀y∈Ws',∃z∈Ws,z.adm 0=y.adm 0):OfW Ap Ws':=fun y hy=>by
 obtain⟨z,hz,e⟩:=hs y hy;obtain⟨z0,h0,e0⟩:=h z hz
 exact⟨z0,h0,e0.trans e⟩
theorem qrx(L:List Ent)(x:Wk):∀(n:Nat) (s:MS),OfW s.Ws (room L x n s).Ws
 |0,s=>OfW.refl _
 |n+1,s=>by
  simp only[room]
  cases he:roomStep L x s with
  |none=>exact OfW.refl _
  |some s' =>
   refine OfW.step (Ws:=s'.Ws) ?_ (qrx L x n s')
   unfold roomStep at he
   split at he
   ·cases he
   ·split at he
    ·cases he
    ·split at he
     ·rename_i i _ v hv
      simp only[Option.some.injEq]at he;subst he;intro y hy
      rcases List.mem_cons.1 hy with e|e
      ·exact⟨v,xr2 hv,by rw[e];rfl⟩
      ·exact⟨y,qbb e,rfl⟩
     ·cases he
theorem qrt(Ws:List Wk)(m t:Int):OfW Ws (qlh Ws m t):=by
 intro y hy;unfold qlh at hy;obtain⟨z,hz,e⟩:=xrq.1 hy
 refine⟨z,hz,?_⟩
 subst e
 split<;>rfl
theorem qr8(L:List Ent)(s:SS):OfW s.Ws (qaj L s).Ws:=by
 unfold qaj qa2;have h1:OfW s.Ws (iterS (ownStep L) s.Ws.length s).Ws:=by
  refine qe6 (I:=fun s'=>OfW s.Ws s'.Ws) (fun a b h he=>?_) _ _ (OfW.refl _)
  obtain⟨i,x,_,hx,_,_,rfl⟩:=qha he
  exact(h.step (qrx L x _ ⟨a.Ws,a.evs⟩)).step (qrt _ _ _)
 refine qe6 (I:=fun s'=>OfW s.Ws s'.Ws) (fun a b h he=>?_) _ _ h1
 obtain⟨i,x,_,hx,_,_,rfl⟩:=qgi he
 refine h.step (fun y hy=>?_)
 unfold qds at hy
 rcases List.mem_or_eq_of_mem_set hy with e|e
 ·exact⟨y,e,rfl⟩
 ·exact⟨x,xr2 hx,by rw[e];rfl⟩
theorem quv(h:x.adm 0=y.adm 0):x.num=y.num/\x.key=y.key/\x.d0=y.d0/\x.d1=y.d1:=by
 simp only[Wk.adm,Wk.mk.injEq]at h
 exact⟨h.1,h.2.1,h.2.2.1,h.2.2.2.1⟩
theorem WkL.of(h:WkL nodes Ws cnt)(ho:OfW Ws Ws'):WkL nodes Ws' cnt :=
 ⟨fun y hy=>by
  obtain⟨z,hz,e⟩:=ho y hy;obtain⟨n,hn,e1,l1⟩:=h.leaf z hz
  exact⟨n,hn,e1.trans (quv e).2.1,l1⟩,fun y hy=>by
  obtain⟨z,hz,e⟩:=ho y hy;rw[<-(quv e).1];exact h.num z hz⟩
theorem WkL.sub(h:WkL nodes Ws cnt)(hs:Ws'.Sublist Ws):WkL nodes Ws' cnt:=⟨fun y hy=>h.leaf y (hs.subset hy),fun y hy=>h.num y (hs.subset hy)⟩
theorem qjd{t:TypeId}(h:Blk W b t #[z0,z1,z2,z3,z4,z5,z6,z7,z8])(v0 v1 v2 v3 v4 v5 v6 v7 v8:Value):
  Blk (((((((((W.setCell (vA b 0) v0).setCell (vA b 1) v1).setCell (vA b 2) v2).setCell (vA b 3) v3).setCell (vA b 4) v4).setCell (vA b 5) v5).setCell (vA b 6) v6).setCell (vA b 7) v7).setCell (vA b 8) v8) b t #[v0,v1,v2,v3,v4,v5,v6,v7,v8]:=by
 have:=(((((((((h.set 0 v0).set 1 v1).set 2 v2).set 3 v3).set 4 v4).set 5 v5).set 6 v6).set 7 v7).set 8 v8)
 simp only[xr6,xr8,xr7]at this
 exact this
theorem qoi{t:TypeId}(h:Blk W b t vs)(hb:b≠b6)(v0 v1 v2 v3 v4 v5 v6 v7 v8:Value):Blk (((((((((W.setCell (vA b6 0) v0).setCell (vA b6 1) v1).setCell (vA b6 2) v2).setCell (vA b6 3) v3).setCell (vA b6 4) v4).setCell (vA b6 5) v5).setCell (vA b6 6) v6).setCell (vA b6 7) v7).setCell (vA b6 8) v8) b t vs :=
 (((((((((h.other _ _ hb).other _ _ hb).other _ _ hb).other _ _ hb).other _ _ hb).other _ _ hb).other _ _ hb).other _ _ hb).other _ _ hb)
theorem qgq(h:Below B w W)(hb:B<=b6)(v0 v1 v2 v3 v4 v5 v6 v7 v8:Value):Below B w (((((((((W.setCell (vA b6 0) v0).setCell (vA b6 1) v1).setCell (vA b6 2) v2).setCell (vA b6 3) v3).setCell (vA b6 4) v4).setCell (vA b6 5) v5).setCell (vA b6 6) v6).setCell (vA b6 7) v7).setCell (vA b6 8) v8) :=
 (((((((((h.setCell hb _).setCell hb _).setCell hb _).setCell hb _).setCell hb _).setCell hb _).setCell hb _).setCell hb _).setCell hb _)
theorem qwh{n:Nat}(h:W.ownsRow 0 e size sl n xs)(hb:sl.ownBlock≠some b6)(v0 v1 v2 v3 v4 v5 v6 v7 v8:Value):(((((((((W.setCell (vA b6 0) v0).setCell (vA b6 1) v1).setCell (vA b6 2) v2).setCell (vA b6 3) v3).setCell (vA b6 4) v4).setCell (vA b6 5) v5).setCell (vA b6 6) v6).setCell (vA b6 7) v7).setCell (vA b6 8) v8).ownsRow 0 e size sl n xs :=
 xrl (xrl (xrl (xrl (xrl (xrl (xrl (xrl (xrl h hb _) hb _) hb _) hb _) hb _) hb _) hb _) hb _) hb _
def qam (Ws:List Wk)(key:List Bs)(k:Nat):List Wk:=(Ws.take k).filter fun y=>decide (y.key=key)&&(y.st == 0)
def qfq (l:List Wk):List Value:=l.map fun y=>vI y.num
theorem qk1{k:Nat}(hy:Ws[k]?=some y):qam Ws key (k+1)=qam Ws key k++(if decide (y.key=key)&&(y.st == 0) then [y] else []):=by
 have ak:=(xr0.1 hy).1;unfold qam;rw[xrf ak,List.filter_append];rw[xr1 ak]at hy;cases hy
 simp[xrz]
theorem qlw{n:Nat}{t:TypeId}(hr:W.ownsRow 0 e size sl n xs)(hb:Blk W b t vs)(ht:t≠e):sl.ownBlock≠some b:=by
 intro hs
 rcases hr.2 with ⟨rfl,_⟩|⟨g,cap,aD,rfl,_,hg,_⟩
 ·cases hs
 ·simp[Value.ownBlock]at hs
  subst hs;rw[show W.heap[g]?=_ from hb]at hg;injection hg with hg;injection hg with _ hg _
  exact ht hg
theorem qv6(h:Bw w W)(k:Keep (fun b=>sl.ownBlock=some b) W wA)(hg:∀b,sl.ownBlock=some b->w.heap.size<=b):Bw w wA :=
 ⟨k.os.trans h.os,k.tape.trans h.tape,k.output.trans h.output,Nat.le_trans h.size k.size,fun i hi=>(k.block i (xrg hi h.size) (fun e=>by have:=hg i e;omega)).trans (h.block i hi)⟩
theorem bnew(h:Bw w W)(hn:sl.ownBlock=some gT\/W.heap.size<=gT)(hg:∀b,sl.ownBlock=some b->w.heap.size<=b):w.heap.size<=gT:=by
 rcases hn with e|e
 ·exact hg gT e
 ·exact Nat.le_trans h.size e
theorem qmh{t:TypeId}{n:Nat}(h:W.ownsRow 0 t size sl n xs):∃ao cap,sl=.slice ao n cap/\n<=cap/\cap<=maxLen:=by
 rcases h.2 with ⟨rfl,rfl⟩|⟨g,cap,aD,rfl,_,_,h1,h2,_⟩
 ·exact⟨none,0,rfl,Nat.le_refl _,Nat.zero_le _⟩
 ·exact⟨_,cap,rfl,h1,h2⟩
theorem qtr{g:Nat}(h:GRef w br g cap L ao cW Ws cnt st)(E:Ents L)(EW:Wks Ws)(i:Nat)(x:Ent)(hi:L[i]?=some x):
  Cl 164 #[vP br,vI i] w fun e w'=>∃ij,e=.returned (.agg #[.string (sb (joinB x.key)),.bool x.leaf,vI (es0 (qaf L (joinB x.key))),vI (es1 (qaf L (joinB x.key))),vI x.b0,vI x.b1,vI (ws0 (qae Ws (joinB x.key))),vI (ws1 (qae Ws (joinB x.key))),ij])/\w'.ownsRow 0 3 1 ij (qam Ws x.key Ws.length).length (qfq (qam Ws x.key Ws.length))/\(∀b,ij.ownBlock=some b->w.heap.size<=b)/\Bw w w':=by
 have bR:=h.ref.at_.lt;have ct:=(h.ref.row.lt g rfl).2;have dS:=fun W (hW:Bw w W)=>qcr (h.ref.below hW) E (sb (joinB x.key)) (E.small (xr2 hi))
 rw[qbi]at dS;have fP:=fun W (hW:Bw w W)=>qe7 (h.below hW) EW (sb (joinB x.key)) (E.small (xr2 hi))
 rw[qbi]at fP;have zE:=fun W (hW:Bw w W)=>((h.ref.below hW).at_.cell 1)
 have dL:=h.ref.at_.cell 0;simp only[xq0,xq1,xq2]at dL zE;have Di:i<L.length:=(xr0.1 hi).1;have cP:=E.len;have p0:=h.ref.ent hi (j:=0) (v:=.string (sb (joinB x.key))) rfl;have p1:=h.ref.ent hi (j:=1) (v:=.bool x.leaf) rfl;have p2:=h.ref.ent hi (j:=2) (v:=vI x.n0) rfl;have p3:=h.ref.ent hi (j:=3) (v:=vI x.n1) rfl;have p4:=h.ref.ent hi (j:=4) (v:=vI x.b0) rfl;have p5:=h.ref.ent hi (j:=5) (v:=vI x.b1) rfl;simp only[Nat.add_zero]at p0;have js:qbn x.key=true:=(E.ok x (xr2 hi)).1;have jm:=EW.len;obtain⟨nW,D3⟩:∃nW,nW=Ws.length:=⟨_,rfl⟩;rw[<-D3]at jm zE;have Bx:Hid (nW=Ws.length):=D3;clear D3 hi E;obtain⟨n,hn⟩:∃n,n=L.length:=⟨_,rfl⟩;rw[<-hn]at Di cP dL;clear hn;have wP:Hid (∀y∈Ws,((sb (joinB y.key)).toList == (sb (joinB x.key)).toList)=decide (y.key=x.key)):=by
  show ∀y∈Ws,_
  intro y hy;rw[qmj,qbi,qbi]
  by_cases e:y.key=x.key
  ·simp[e]
  ·have:joinB y.key≠joinB x.key:=fun e2=>e (qe5 (EW.ok y hy).1 js e2)
   simp[e,this]
 generalize ws0 (qae Ws (joinB x.key))=u0 at *;generalize ws1 (qae Ws (joinB x.key))=u1 at *;generalize es0 (qaf L (joinB x.key))=s0 at *;generalize es1 (qaf L (joinB x.key))=s1 at *;generalize sb (joinB x.key)=cw at *;have p8:(0:Int)<=i:=by omega
 have oq:(i:Int)<n:=by omega
 have BG:Blk ((w.alloc (.cells #[.string ⟨#[]⟩,.bool false,vI 0,vI 0,vI 0,vI 0,vI 0,vI 0,v0_] 37)).alloc (.cells #[.string cw,.bool x.leaf,vI x.n0,vI x.n1,vI x.b0,vI x.b1] 163)) w.heap.size 37 #[.string ⟨#[]⟩,.bool false,vI 0,vI 0,vI 0,vI 0,vI 0,vI 0,v0_]:=(Blk.new w 37 _).alloc _;have tG:Blk ((w.alloc (.cells #[.string ⟨#[]⟩,.bool false,vI 0,vI 0,vI 0,vI 0,vI 0,vI 0,v0_] 37)).alloc (.cells #[.string cw,.bool x.leaf,vI x.n0,vI x.n1,vI x.b0,vI x.b1] 163)) (w.heap.size+1) 163 #[.string cw,.bool x.leaf,vI x.n0,vI x.n1,vI x.b0,vI x.b1]:=Blk.new' (by simp)
 go_enter func164,ntmps164
 go_upto_region 2 with fail
 clear p0 p1 p2 p3 p4 p5 dL;have aO:Bw w ((w.alloc (.cells #[.string ⟨#[]⟩,.bool false,vI 0,vI 0,vI 0,vI 0,vI 0,vI 0,v0_] 37)).alloc (.cells #[.string cw,.bool x.leaf,vI x.n0,vI x.n1,vI x.b0,vI x.b1] 163)):=by exact bel2
 have zw:((w.alloc (.cells #[.string ⟨#[]⟩,.bool false,vI 0,vI 0,vI 0,vI 0,vI 0,vI 0,v0_] 37)).alloc (.cells #[.string cw,.bool x.leaf,vI x.n0,vI x.n1,vI x.b0,vI x.b1] 163)).heap.size=w.heap.size+2:=by simp
 generalize ((w.alloc (.cells #[.string ⟨#[]⟩,.bool false,vI 0,vI 0,vI 0,vI 0,vI 0,vI 0,v0_] 37)).alloc (.cells #[.string cw,.bool x.leaf,vI x.n0,vI x.n1,vI x.b0,vI x.b1] 163))=W0 at tG BG aO zw ⊢;have d0:=tG.cell 0;have d1:=tG.cell 1;have d4:=tG.cell 4;have d5:=tG.cell 5;have Nw:=BG.lt;have Kw:=tG.lt;have vu:=aO.size;simp only[xq0,xq1,xq2]at d0 d1 d4 d5;clear zw;have k0:¬(br=W0.heap.size):=by omega
 have Be:¬(w.heap.size=W0.heap.size):=by omega
 have K1:¬(w.heap.size+1=W0.heap.size):=by omega
 have K3:¬(W0.heap.size=w.heap.size+1):=by omega
 go_cut [6] from 15 to 29 (fun q wx=>∃b6,q=vP b6/\Bw w wx/\Blk wx w.heap.size 37 #[.string ⟨#[]⟩,.bool false,vI 0,vI 0,vI 0,vI 0,vI 0,vI 0,v0_]/\Blk wx b6 37 #[.string cw,.bool x.leaf,vI s0,vI s1,vI x.b0,vI x.b1,vI u0,vI u1,v0_]/\w.heap.size+1<b6/\Blk wx (w.heap.size+1) 163 #[.string cw,.bool x.leaf,vI x.n0,vI x.n1,vI x.b0,vI x.b1])
 case first =>
  go_region_held3 (fun w'=>w'.cell? (vA (w.heap.size+1) 0)=some (.string cw)/\w'.cell? (vA (w.heap.size+1) 1)=some (.bool x.leaf)/\w'.cell? (vA (w.heap.size+1) 4)=some (vI x.b0)/\w'.cell? (vA (w.heap.size+1) 5)=some (vI x.b1)) (go_keep)
   (first
   |(go_at_call 203;refine(dS _ ?_).mono ?_;(focus exact bel2);rintro e w1 ⟨rfl,aa⟩;have aj:Bw w w1:=qac (by exact bel2) aa;have gm:Blk w1 (w.heap.size+1) 163 #[.string cw,.bool x.leaf,vI x.n0,vI x.n1,vI x.b0,vI x.b1]:=Blk.below (by exact blk2) aa (by first|omega|(simp<;>omega));have sk:Blk w1 w.heap.size 37 #[.string ⟨#[]⟩,.bool false,vI 0,vI 0,vI 0,vI 0,vI 0,vI 0,v0_]:=Blk.below (by exact blk2) aa (by first|omega|(simp<;>omega));have e0:=gm.cell 0;have e1:=gm.cell 1;have e4:=gm.cell 4;have e5:=gm.cell 5;have l4:=sk.lt;have l5:=gm.lt;have cJ:=aj.size;have k1:¬(br=w1.heap.size):=(by omega);have Kg:¬(w.heap.size=w1.heap.size):=(by omega);have Kh:br<w1.heap.size:=(by omega);have K6:¬(w.heap.size+1=w1.heap.size):=(by omega);have K7:¬(w1.heap.size=w.heap.size+1):=(by omega);simp only[xq0,xq1,xq2]at e0 e1 e4 e5;(try (have eG:Blk w1 W0.heap.size 37 #[.string ⟨#[]⟩,.bool false,vI 0,vI 0,vI 0,vI 0,vI 0,vI 0,v0_]:=Blk.below (by first|(with_reducible exact Blk.new' (by simp))|(with_reducible exact Blk.drew (Blk.new' (by simp)))) aa (by simp);have l6:=eG.lt)))
   |(go_at_call 204;refine(fP _ ?_).mono ?_;(focus exact bel2);rintro e w2 ⟨rfl,af⟩;have aw:Bw w w2:=qac (by exact bel2) af;have gH:Blk w2 (w.heap.size+1) 163 #[.string cw,.bool x.leaf,vI x.n0,vI x.n1,vI x.b0,vI x.b1]:=Blk.below (by exact blk2) af (by first|omega|(simp<;>omega));have qP:Blk w2 w.heap.size 37 #[.string ⟨#[]⟩,.bool false,vI 0,vI 0,vI 0,vI 0,vI 0,vI 0,v0_]:=Blk.below (by exact blk2) af (by first|omega|(simp<;>omega));have f0:=gH.cell 0;have f1:=gH.cell 1;have f4:=gH.cell 4;have f5:=gH.cell 5;have m4:=qP.lt;have m5:=gH.lt;have dO:=aw.size;have k2:¬(br=w2.heap.size):=(by omega);have Ni:¬(w.heap.size=w2.heap.size):=(by omega);have Kj:br<w2.heap.size:=(by omega);have ND:¬(w.heap.size+1=w2.heap.size):=(by omega);have KB:¬(w2.heap.size=w.heap.size+1):=(by omega);simp only[xq0,xq1,xq2]at f0 f1 f4 f5;(try (have dX:Blk w2 W0.heap.size 37 #[.string ⟨#[]⟩,.bool false,vI 0,vI 0,vI 0,vI 0,vI 0,vI 0,v0_]:=Blk.below (by with_reducible exact eG) af (by omega);have c6:=dX.cell;have g6:=dX.frozen;have zT:=dX.lt));(try (have dX:Blk w2 w1.heap.size 37 #[.string ⟨#[]⟩,.bool false,vI 0,vI 0,vI 0,vI 0,vI 0,vI 0,v0_]:=Blk.below (by first|(with_reducible exact Blk.new' (by simp))|(with_reducible exact Blk.drew (Blk.new' (by simp)))) af (by simp);have c6:=dX.cell;have g6:=dX.frozen;have zT:=dX.lt));have en:=zE _ aw))
  all_goals go_wp2_with fail
  ·go_meet
   exact⟨_,rfl,aw.alloc dO _,qP.alloc _,Blk.new' rfl,m5,gH.alloc _⟩
  ·go_meet
   exact⟨_,rfl,qgq aw cJ ..,qoi qP Kg ..,qjd dX ..,l5,qoi gH K6 ..⟩
  ·go_meet
   exact⟨_,rfl,qgq aw vu ..,qoi qP Be ..,qjd dX ..,Kw,qoi gH K1 ..⟩
 case rest =>
  obtain⟨b6,rfl,cY,Aq,i_,pL,Hk⟩:=hcut;clear dS fP BG tG aO d0 d1 d4 d5
  go_wp2_with fail
  go_loopw [7] (fun j wr=>∃(k:Nat) (ij:Value),k<=nW/\j=vI k/\Bw w wr/\Blk wr w.heap.size 37 #[.string ⟨#[]⟩,.bool false,vI 0,vI 0,vI 0,vI 0,vI 0,vI 0,v0_]/\Blk wr (w.heap.size+1) 163 #[.string cw,.bool x.leaf,vI x.n0,vI x.n1,vI x.b0,vI x.b1]/\Blk wr b6 37 #[.string cw,.bool x.leaf,vI s0,vI s1,vI x.b0,vI x.b1,vI u0,vI u1,ij]/\wr.ownsRow 0 3 1 ij (qam Ws x.key k).length (qfq (qam Ws x.key k))/\(∀b,ij.ownBlock=some b->w.heap.size<=b)) (fun j _=>nW-(intOf j).toNat)
  case atStart=>exact⟨0,v0_,Nat.zero_le _,rfl,cY,Aq,Hk,i_,xrk _ _ _ _,fun b hb=>by cases hb⟩
  case round =>
   obtain⟨k,ij,hk,rfl,ae,f4,f5,f6,jJ,xC⟩:=hrel;have nQ:=zE _ ae;have n6:=qlw jJ f6 (by decide);have n5:=qlw jJ f5 (by decide);have n4:=qlw jJ f4 (by decide);have o4:=f4.lt;have o5:=f5.lt;have o6:=f6.lt;obtain⟨aS,cS,rfl,nf,ja⟩:=qmh jJ
   by_cases ak:k<nW
   ·have aV:k<Ws.length:=by rw[<-Bx.out];exact ak
    obtain⟨y,hy⟩:∃y,Ws[k]?=some y:=⟨_,xr1 aV⟩;have eU:=xr2 hy;have HW:Hid (qam Ws x.key (k+1)=qam Ws x.key k++(if decide (y.key=x.key)&&(y.st == 0) then [y] else [])):=qk1 hy;have zj:=wP.out y eU;obtain⟨b,eT,dw,eQ,jq,p0,p1,p2,p3,p4⟩:=(h.below ae).wk hy;have yh:b<w.heap.size:=qal h.wrow (by rw[eT];rfl);subst eT;rw[<-Bx.out]at eQ;have an:(qam Ws x.key k).length<=24:=Nat.le_trans (xrh _ _) (by simp;omega);have z5:=f5.cell 0;have z6:=f6.cell 8;have g6:=f6.frozen 8;simp only[xq0,xq1,xq2]at z5 z6;have nr:(k:Int)<nW:=by omega
    have f_:(0:Int)<=k:=by omega
    clear hy eU p2 p3;have bU:Hid (∀w',Bw w w'->Blk w' w.heap.size 37 #[.string ⟨#[]⟩,.bool false,vI 0,vI 0,vI 0,vI 0,vI 0,vI 0,v0_]->Blk w' (w.heap.size+1) 163 #[.string cw,.bool x.leaf,vI x.n0,vI x.n1,vI x.b0,vI x.b1]->Blk w' b6 37 #[.string cw,.bool x.leaf,vI s0,vI s1,vI x.b0,vI x.b1,vI u0,vI u1,.slice aS (qam Ws x.key k).length cS]->w'.ownsRow 0 3 1 (.slice aS (qam Ws x.key k).length cS) (qam Ws x.key k).length (qfq (qam Ws x.key k))->qam Ws x.key (k+1)=qam Ws x.key k->(∃(eA:Nat) (ij:Value),eA<=nW/\vI ((k:Int)+1)=vI eA/\Bw w w'/\Blk w' w.heap.size 37 #[.string ⟨#[]⟩,.bool false,vI 0,vI 0,vI 0,vI 0,vI 0,vI 0,v0_]/\Blk w' (w.heap.size+1) 163 #[.string cw,.bool x.leaf,vI x.n0,vI x.n1,vI x.b0,vI x.b1]/\Blk w' b6 37 #[.string cw,.bool x.leaf,vI s0,vI s1,vI x.b0,vI x.b1,vI u0,vI u1,ij]/\w'.ownsRow 0 3 1 ij (qam Ws x.key eA).length (qfq (qam Ws x.key eA))/\(∀b,ij.ownBlock=some b->w.heap.size<=b))/\nW-(intOf (vI ((k:Int)+1))).toNat<nW-(intOf (vI (k:Int))).toNat):=by
     show ∀w',_
     intro w' h1 h2 h3 h4 h5 h6
     exact⟨⟨k+1,_,by omega,by go_num,h1,h2,h3,h4,by rw[h6];exact h5,xC⟩,by simp[intOf];omega⟩
    by_cases c_:y.key=x.key
    ·rw[decide_eq_true c_]at HW zj;clear c_;generalize sb (joinB y.key)=py at p1 zj
     cases bW:(y.st == 0)
     ·rw[bW]at HW
      go_wp2_with fail
      go_quiet (fail)
      go_wp2_with fail
      exact bU.out _ (xrm ae _) (by exact blk2) (by exact blk2) (by exact blk2) (qab (T:=fun _=>False) jJ (Keep.new (xrm (Below.refl _ _) _)) (fun _ _ h=>h)) (by rw[HW.out];simp)
     ·rw[bW]at HW
      go_wp2_with fail
      go_quiet (fail)
      have kQ:Bw wr (wr.drewN nq):=xrm (Below.refl _ _) _;have kC:Bw w (wr.drewN nq):=xrm ae _;generalize wr.drewN nq=wq at kQ kC ⊢;have a4:=f4.below kQ o4;have a5:=f5.below kQ o5;have a6:=f6.below kQ o6;have arow:=qab (T:=fun _=>False) jJ (Keep.new kQ) (fun _ _ h=>h);have xo:=zE _ kC;have Mj:=(kQ.cell (p:=vA b (k*5)) dw).trans p0;have q6:=a6.cell 8;have m6:=a6.lt;simp only[xq0,xq1,xq2]at q6;have vR:=kQ.size;clear f4 f5 f6 nQ p0 p1 p4 z5 z6 g6 zj kQ;obtain⟨ln,mF⟩:∃ln,ln=(qam Ws x.key k).length:=⟨_,rfl⟩;have GX:Hid (ln=(qam Ws x.key k).length):=mF;rw[<-mF]at a6 arow q6 an nf n4 n5 n6 xC;have cu:=fun W' (hr:W'.ownsRow 0 3 1 (.slice aS ln cS) ln (qfq (qam Ws x.key k))) nb (cU:Blk W' nb 3 #[vI y.num]) =>
       qby un29 inf3 (by omega) W' _ ln _ hr nb 1 1 (by omega) [vI y.num] rfl cU (by intro u hu;simp at hu;subst hu;rfl) (by unfold maxLen;omega) (by omega)
      clear mF bU jJ
      go_wp2_with fail
      go_region_law (first
       |(refine qau rfl (.tmp 62) (.tmp 71) 25 25 rfl _ _ ?_ ?_ (cu _ ?_ ?_ ?_) ?_;(focus (simp[Act.eval,Act.put]));(focus ((try simp[Act.eval,Act.put]);(try rfl)));(focus (exact qab (T:=fun _=>False) arow (Keep.new (by exact bel2)) (fun _ _ h=>h)));(focus exact blk2);rintro vA wA ⟨gT,cT,rfl,RA⟩;have bA:=Blk.keep (show Blk _ b6 37 #[.string cw,.bool x.leaf,vI s0,vI s1,vI x.b0,vI x.b1,vI u0,vI u1,.slice aS ln cS] by exact blk2) RA.keep n6;have Hl:=Blk.keep (show Blk _ w.heap.size 37 #[.string ⟨#[]⟩,.bool false,vI 0,vI 0,vI 0,vI 0,vI 0,vI 0,v0_] by exact blk2) RA.keep n4;have Hm:=Blk.keep (show Blk _ (w.heap.size+1) 163 #[.string cw,.bool x.leaf,vI x.n0,vI x.n1,vI x.b0,vI x.b1] by exact blk2) RA.keep n5;have gV:Bw w wA:=qv6 (by exact bel2) RA.keep xC;have lS:w.heap.size<=gT:=bnew (by exact bel2) RA.new xC;have cA:=bA.cell 8;have fA:=bA.frozen 8;simp only[xq0,xq1,xq2]at cA))
      all_goals go_wp2_with fail
      all_goals
       refine⟨⟨k+1,vS gT (ln+1) cT,by omega,by go_num,gV.setCell (by simp;omega) _,Hl.other _ _ (by simp;omega),Hm.other _ _ (by simp;omega),by simpa using bA.set 8 (vS gT (ln+1) cT),?_,?_⟩,by simp[intOf];omega⟩
       ·have hW:qam Ws x.key (k+1)=qam Ws x.key k++[y]:=by have:=HW.out;simpa using this
        have kH:(qam Ws x.key k++[y]).length=ln+1:=by simp[GX.out]
        rw[hW,kH,show qfq (qam Ws x.key k++[y])=qfq (qam Ws x.key k)++[vI y.num] by simp[qfq]]
        exact xrl RA.own (qlw RA.own bA (by decide)) _
       ·intro b' aZ
        simp[Value.ownBlock]at aZ
        subst aZ
        exact lS
    ·rw[decide_eq_false c_]at HW zj;clear c_;generalize sb (joinB y.key)=py at p1 zj
     go_wp2_with fail
     go_quiet (fail)
     go_wp2_with fail
     exact bU.out _ (xrm ae _) (by exact blk2) (by exact blk2) (by exact blk2) (qab (T:=fun _=>False) jJ (Keep.new (xrm (Below.refl _ _) _)) (fun _ _ h=>h)) (by rw[HW.out];simp)
   ·have z6:=f6.cell;have z4:=f4.cell;have g4:=f4.frozen;have NG:¬(w.heap.size=b6):=by omega
    have NH:¬(b6=w.heap.size):=by omega
    have je:Hid (qam Ws x.key k=qam Ws x.key Ws.length):=by
     have:k=Ws.length:=by have:=Bx.out;omega
     rw[this];rfl
    go_wp2_with fail
    have aM:=qjd f4 (.string cw) (.bool x.leaf) (vI s0) (vI s1) (vI x.b0) (vI x.b1) (vI u0) (vI u1) (.slice aS (qam Ws x.key k).length cS);have hc:=aM.cell;clear z4 z6 g4
    exact xrn (v:=.agg #[.string cw,.bool x.leaf,vI s0,vI s1,vI x.b0,vI x.b1,vI u0,vI u1,.slice aS (qam Ws x.key k).length cS]) (by simp[results,results164,go_sem,hc]) rfl ⟨_,rfl,by rw[<-je.out];exact qwh jJ n4 ..,xC,qgq ae (Nat.le_refl _) ..⟩
def noQ:Array Value:=#[.string ⟨#[]⟩,.bool false,vI 0,vI 0,vI 0,vI 0,vI 0,vI 0,v0_]
def qhv (L:List Ent)(Ws:List Wk)(s:Bs)(w:World)(e:Ending)(w':World):Prop :=
 Bw w w' /\
 ((qar s=false/\e=.returned (.tuple #[.agg noQ,vI 1])) \/
  (qar s=true/\qcv L (qaa s)=none/\e=.returned (.tuple #[.agg noQ,vI 3])) \/
  (qar s=true/\∃x ij,qcv L (qaa s)=some x/\e=.returned (.tuple #[.agg #[.string (sb (joinB x.key)),.bool x.leaf,vI (es0 (qaf L (joinB x.key))),vI (es1 (qaf L (joinB x.key))),vI x.b0,vI x.b1,vI (ws0 (qae Ws (joinB x.key))),vI (ws1 (qae Ws (joinB x.key))),ij],vI 0]) /\
   w'.ownsRow 0 3 1 ij (qam Ws x.key Ws.length).length (qfq (qam Ws x.key Ws.length))/\(∀b,ij.ownBlock=some b->w.heap.size<=b)))
theorem qq6{g:Nat}(h:GRef w br g cap L ao cW Ws cnt st)(E:Ents L)(EW:Wks Ws)(aH:∀a∈L,∀b∈L,a.key=b.key->a=b)(s:ByteArray)(hs:s.size<=2000000):
  Cl 124 #[vP br,.string s] w (qhv L Ws (bl s) w):=by
 have b0:Blk (w.alloc (.cells #[.string ⟨#[]⟩,.bool false,vI 0,vI 0,vI 0,vI 0,vI 0,vI 0,v0_] 37)) w.heap.size 37 #[.string ⟨#[]⟩,.bool false,vI 0,vI 0,vI 0,vI 0,vI 0,vI 0,v0_]:=Blk.new w 37 _
 cases hv:qar (bl s)
 ·have hn:=fun W=>qh1 s hs hv W
  have HX:Hid (∀w',Bw w w'->qhv L Ws (bl s) w (.returned (.tuple #[.agg noQ,vI 1])) w'):=fun w' hb=>⟨hb,.inl ⟨hv,rfl⟩⟩
  generalize qhv L Ws (bl s) w=X at HX ⊢
  go_enter func124,ntmps124
  go_wp2_with (go_at_call 113;refine(hn _).mono ?_;rintro e w1 ⟨rfl,aa⟩;have b1:=b0.below aa (by simp);have aY:=b1.cell;have cV:=b1.frozen)
  have aM:=qjd b1 (.string ⟨#[]⟩) (.bool false) (vI 0) (vI 0) (vI 0) (vI 0) (vI 0) (vI 0) v0_;have hc:=aM.cell;clear aY cV;have aj:Bw w w1:=qac (by exact bel2) aa
  exact xrn (v:=.tuple #[.agg noQ,vI 1]) (by simp[results,results124,go_sem,hc,noQ]) rfl (HX.out _ (qgq aj (Nat.le_refl _) ..))
 ·have hn:=fun W=>qdd s hs hv W
  have gK:qbn (qaa (bl s))=true:=by rw[<-qba];exact hv
  cases hf:qcv L (qaa (bl s)) with
  |none =>
   have bh:=fun W (hW:Bw w W)=>qgx (h.ref.below hW) E aH s (qaa (bl s)) gK (qa6 (bl s)).symm hf
   have HX:Hid (∀w',Bw w w'->qhv L Ws (bl s) w (.returned (.tuple #[.agg noQ,vI 3])) w'):=fun w' hb=>⟨hb,.inr (.inl ⟨hv,hf,rfl⟩)⟩
   generalize qhv L Ws (bl s) w=X at HX ⊢;clear hf h E aH
   go_enter func124,ntmps124
   go_wp2_with (first
    |(go_at_call 113;refine(hn _).mono ?_;rintro e w1 ⟨⟨fy,cp,rfl,au⟩,aa⟩;have aj:Bw w w1:=qac (by exact bel2) aa;have b1:=b0.below aa (by simp);have aY:=b1.cell;have cV:=b1.frozen)
    |(go_at_call 114;refine(bh _ aj).mono ?_;rintro e w2 ⟨rfl,en⟩;subst en))
   have aM:=qjd b1 (.string ⟨#[]⟩) (.bool false) (vI 0) (vI 0) (vI 0) (vI 0) (vI 0) (vI 0) v0_;have hc:=aM.cell;clear aY cV
   exact xrn (v:=.tuple #[.agg noQ,vI 3]) (by simp[results,results124,go_sem,hc,noQ]) rfl (HX.out _ (qgq aj (Nat.le_refl _) ..))
  |some x =>
   have bh:=fun W (hW:Bw w W)=>qib (h.ref.below hW) E aH s (qaa (bl s)) gK (qa6 (bl s)).symm hf
   have fD:=fun W (hW:Bw w W) i (hi:L[i]?=some x)=>qtr (h.below hW) E EW i x hi
   have HX:Hid (∀w' ij,Bw w w'->w'.ownsRow 0 3 1 ij (qam Ws x.key Ws.length).length (qfq (qam Ws x.key Ws.length))->(∀b,ij.ownBlock=some b->w.heap.size<=b)->qhv L Ws (bl s) w (.returned (.tuple #[.agg #[.string (sb (joinB x.key)),.bool x.leaf,vI (es0 (qaf L (joinB x.key))),vI (es1 (qaf L (joinB x.key))),vI x.b0,vI x.b1,vI (ws0 (qae Ws (joinB x.key))),vI (ws1 (qae Ws (joinB x.key))),ij],vI 0])) w'):=fun w' ij h1 h2 h3=>⟨h1,.inr (.inr ⟨hv,x,ij,hf,rfl,h2,h3⟩)⟩
   generalize qhv L Ws (bl s) w=X at HX ⊢;clear hf h E aH;generalize es0 (qaf L (joinB x.key))=s0 at fD HX;generalize es1 (qaf L (joinB x.key))=s1 at fD HX;generalize ws0 (qae Ws (joinB x.key))=u0 at fD HX;generalize ws1 (qae Ws (joinB x.key))=u1 at fD HX;generalize sb (joinB x.key)=cw at fD HX;generalize qfq (qam Ws x.key Ws.length)=nv at fD HX;generalize (qam Ws x.key Ws.length).length=nl at fD HX
   go_enter func124,ntmps124
   go_wp2_with (first
    |(go_at_call 113;refine(hn _).mono ?_;rintro e w1 ⟨⟨fy,cp,rfl,au⟩,aa⟩;have aj:Bw w w1:=qac (by exact bel2) aa;have b1:=b0.below aa (by simp))
    |(go_at_call 114;refine(bh _ aj).mono ?_;rintro e w2 ⟨⟨i,rfl,hi⟩,en⟩;subst en)
    |(go_at_call 164;refine(fD _ aj _ hi).mono ?_;rintro e w3 ⟨ij,rfl,pR,Dd,ax⟩;have aK:Bw w w3:=qac aj ax;have b3:=b1.below ax b1.lt;have aY:=b3.cell;have cV:=b3.frozen;have D2:=qlw pR b3 (by decide);obtain⟨aS,cS,rfl,nf,ja⟩:=qmh pR))
   have aM:=qjd b3 (.string cw) (.bool x.leaf) (vI s0) (vI s1) (vI x.b0) (vI x.b1) (vI u0) (vI u1) (.slice aS nl cS);have hc:=aM.cell;clear aY cV
   exact xrn (v:=.tuple #[.agg #[.string cw,.bool x.leaf,vI s0,vI s1,vI x.b0,vI x.b1,vI u0,vI u1,.slice aS nl cS],vI 0]) (by simp[results,results124,go_sem,hc]) rfl (HX.out _ _ (qgq aK (Nat.le_refl _) ..) (qwh pR D2 ..) (fun b hb=>Nat.le_trans aj.size (Dd b hb)))
def qs5 (Ws:List Wk)(m:Int)(e:Ending):Prop :=
 (∃x∈Ws,x.num=m/\e=.returned (.tuple #[.agg #[.string (sb (joinB x.key)),vI x.d0,vI x.d1,.bool (decide (0<x.st))],vI 0])) \/
 ((∀x∈Ws,x.num≠m)/\e=.returned (.tuple #[.agg #[.string ⟨#[]⟩,vI 0,vI 0,.bool false],vI 12]))
theorem qum{g:Nat}(h:GRef w br g cap L ao cW Ws cnt st)(EW:Wks Ws)(m:Int):
  Cl 127 #[vP br,vI m] w fun e w'=>qs5 Ws m e/\Bw w w':=by
 have bR:=h.ref.at_.lt;have jm:=EW.len;obtain⟨n,hn⟩:∃n,n=Ws.length:=⟨_,rfl⟩;have de:w.cell? (vA br 1)=some (.slice ao n cW):=by have:=h.ref.at_.cell 1;rw[hn];simpa using this
 rw[<-hn]at jm;have HN:Hid (n=Ws.length):=hn;clear hn;have fN:=fun W (hW:Bw w W)=>qh6 (h.below hW) EW m
 have a_:Blk (w.alloc (.cells #[.string ⟨#[]⟩,vI 0,vI 0,.bool false] 52)) w.heap.size 52 #[.string ⟨#[]⟩,vI 0,vI 0,.bool false]:=Blk.new w 52 _;have aO:Bw w (w.alloc (.cells #[.string ⟨#[]⟩,vI 0,vI 0,.bool false] 52)):=by exact bel2
 go_enter func127,ntmps127
 go_upto_region 1 with fail
 generalize (w.alloc (.cells #[.string ⟨#[]⟩,vI 0,vI 0,.bool false] 52))=W0 at a_ aO ⊢;have l4:=a_.lt;have E3:=a_.cell 0;have E4:=a_.cell 1;have L3:=a_.cell 2;have L4:=a_.cell 3;have LP:=a_.frozen 0;have LQ:=a_.frozen 1;have Ow:=a_.frozen 2;have Ox:=a_.frozen 3;have nQ:=(aO.cell (p:=vA br 1) bR).trans de;simp only[xq0,xq1,xq2]at E3 E4 L3 L4;have iX:Hid (∀(i:Nat) x,Ws[i]?=some x->∃b,ao=some (vA b 0)/\b<w.heap.size/\n<=cW/\cW<=maxLen/\W0.cell? (vA b (i*5))=some (vI x.num)/\W0.cell? (vA b (i*5+1))=some (.string (sb (joinB x.key)))/\W0.cell? (vA b (i*5+2))=some (vI x.d0)/\W0.cell? (vA b (i*5+3))=some (vI x.d1)/\W0.cell? (vA b (i*5+4))=some (vI x.st)):=by
  show ∀(i:Nat) x,Ws[i]?=some x->_
  intro i x hi;obtain⟨b,h1,h2,h3,h4,p⟩:=(h.below aO).wk hi
  exact⟨b,h1,qal h.wrow (by rw[h1];rfl),by rw[HN.out];exact h3,h4,p⟩
 go_wp2_with fail
 refine(fN _ aO).mono ?_
 rintro e w1 ⟨hP,bX⟩
 subst bX
 rcases hP with ⟨i,x,rfl,hi,hm⟩|⟨a7,rfl⟩
 ·have HM:Hid (x∈Ws/\x.num=m):=⟨xr2 hi,hm⟩;have ey:=(xr0.1 hi).1;rw[<-HN.out]at ey;obtain⟨b,eT,dw,h3,h4,p0,p1,p2,p3,p4⟩:=iX.out i x hi;subst eT;have mB:(i:Int)<n:=by omega
  have p8:(0:Int)<=i:=by omega
  have MV:¬((i:Int)<0):=by omega
  have hz:=aO.size;have e1:¬(w.heap.size=w1.heap.size):=by omega
  clear hi hm iX fN
  go_wp2_with fail
  have qO:=((((a_.set 0 (.string (sb (joinB x.key)))).set 1 (vI x.d0)).set 2 (vI x.d1)).set 3 (.bool (decide (0<x.st)))).alloc (.cells #[vI x.num,.string (sb (joinB x.key)),vI x.d0,vI x.d1,vI x.st] 178);have fR:=qO.cell
  refine xrn (v:=.tuple #[.agg #[.string (sb (joinB x.key)),vI x.d0,vI x.d1,.bool (decide (0<x.st))],vI 0]) ?_ rfl ⟨.inl ⟨x,HM.out.1,HM.out.2,rfl⟩,by exact bel2⟩
  simp[results,results127,go_sem,fR]
 ·have kL:Hid (∀x∈Ws,x.num≠m):=a7;clear a7 iX fN
  go_wp2_with fail
  have qO:=(((a_.set 0 (.string ⟨#[]⟩)).set 1 (vI 0)).set 2 (vI 0)).set 3 (.bool false);have fR:=qO.cell
  refine xrn (v:=.tuple #[.agg #[.string ⟨#[]⟩,vI 0,vI 0,.bool false],vI 12]) ?_ rfl ⟨.inr ⟨kL.out,rfl⟩,by exact bel2⟩
  simp[results,results127,go_sem,fR]
end Go.Proofs.YtphclnolomgjoaaGreatDoor
