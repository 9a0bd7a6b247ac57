import Derived.Test.YtphclnolomgjoaaGreatDoorC36
set_option linter.unusedVariables false
set_option linter.unusedSimpArgs false
set_option maxRecDepth 100000
set_option maxHeartbeats 4000000
namespace Go.Proofs.YtphclnolomgjoaaGreatDoor
open Tryz
open Go.RowKit
variable {K b bp bq br bt2 gp gq gt:Nat}{Ac Ah bm bz x1 x2 y2:Value}{W W2 w':World}{cnt er st:Int}{aL ar:List Node}{Ai l xj:List Pw}{τ':Nat->Tag}{n:Node}{Ws:List Wk}{s2:Bs}
theorem q0i{ns:List Bs}{x:Bs}{a:Nat}{s t:Bool}(h1:Found ns x a s)(h2:Found ns x b t):a=b:=by
 rcases Nat.lt_trichotomy a b with h|h|h
 ·have hl:a<ns.length:=by have:=h2.1;omega
  have e:=xr1 hl;have c1:=h2.2.1 a _ h e;have c2:=h1.2.2.1 a _ (Nat.le_refl _) e
  omega
 ·exact h
 ·have hl:b<ns.length:=by have:=h1.1;omega
  have e:=xr1 hl;have c1:=h1.2.1 b _ h e;have c2:=h2.2.2.1 b _ (Nat.le_refl _) e
  omega
theorem qy3{nm:Bs}:∀(ns:List Bs),ns.Pairwise (fun a b=>cmpB a b<0)->nm ∉ ns->∃at_,Found ns nm at_ false
 | [],_,_=>⟨0,qrj _⟩
 |a::l,hs,hn=>by
  obtain⟨h1,h2⟩:=List.pairwise_cons.1 hs
  by_cases c:cmpB a nm<0
  ·obtain⟨at_,f1,f2,f3,f4⟩:=qy3 l h2 (fun e=>hn (xru _ e))
   refine⟨at_+1,by simp;omega,fun j n hj gX=>?_,fun j n hj gX=>?_,?_⟩
   ·cases j with
    |zero=>simp at gX;rw[<-gX];exact c
    |succ j=>exact f2 j n (by omega) (by simpa using gX)
   ·cases j with
    |zero=>omega
    |succ j=>exact f3 j n (by omega) (by simpa using gX)
   ·rw[f4];simp
  ·refine⟨0,Nat.zero_le _,fun j n hj=>by omega,fun j n _ gX=>?_,?_⟩
   ·cases j with
    |zero=>simp at gX;rw[<-gX];omega
    |succ j =>
     have hm:n∈l:=xr2 (by simpa using gX);have c2:=h1 n hm
     rcases Int.lt_or_le (cmpB n nm) 0 with c3|c3
     ·exact absurd (qim a n nm c2 c3) c
     ·exact c3
   ·constructor
    ·intro e;cases e
    ·intro e;simp at e;exact absurd (by rw[e];simp) hn
def Tch3 (q p tq:Node)(x:Nat):Prop:=TchQ p q x\/x=tq.blk\/tq.sl.ownBlock=some x
structure MoM (W:World) (q p tq:Node) (nm:Bs) (i:Nat) (bm:Value) (at_:Nat) (bz:Value) (w':World):Prop where
 own1:bm.ownBlock=p.sl.ownBlock
 own2:bz.ownBlock=tq.sl.ownBlock\/∃g,bz.ownBlock=some g/\W.heap.size<=g
 par:qan w' (p.qxi i bm)
 tar:qan w' (tq.qif at_ q.blk bz)
 kid:qan w' {q with key:=tq.key++[nm],up:=some tq.blk}
 keep:Keep (Tch3 q p tq) W w'
theorem qzw{w:World}{nm:ByteArray}{P1:World->Prop}{P2:World->Prop}
  (h1:Cl 97 #[vP bq] w fun e w'=>e=.returned (.tuple #[])/\w'.cell? (vA bq 0)=some (.string nm)/\P1 w')
  (h2:∀W1,P1 W1->Cl 82 #[vP bt2,.string nm,vP bq] W1 fun e w'=>e=.returned (.tuple #[])/\P2 w') :
  Cl 94 #[vP bq,vP bt2] w fun e w'=>e=.returned (.tuple #[])/\P2 w':=by
 go_enter func94,ntmps94
 go_wp2_with (first
  |(go_at_call 97;refine h1.mono ?_;rintro e w1 ⟨rfl,hc,mg⟩)
  |(go_at_call 82;refine(h2 _ mg).mono ?_;rintro e w2 ⟨rfl,tU⟩))
 go_end0
 exact⟨rfl,tU⟩
section
variable {τ : Nat->Tag}{t:Nat}{w:World}{bt:Nat}{nodes:List Node}{last:Int}{vw va:Value}{ws as_:List Pw}{q p tq:Node}{nm:Bs}{ks kt:List Node}{i at_:Nat}
theorem qym(h:qb6 τ t w bt nodes last vw va ws as_)(M:Mv nodes q p tq nm ks i kt at_):
  Cl 94 #[vP q.blk,vP tq.blk] w fun e w'=>e=.returned (.tuple #[])/\∃bm bz,MoM w q p tq nm i bm at_ bz w':=by
 have T:=h.pr.tree;obtain⟨n1,n2,n3,n4,n5⟩:=M.ne;have fe:q≠p:=fun e=>n2 (by rw[e])
 have AR:q≠tq:=fun e=>n5 (by rw[e])
 have AQ:p≠tq:=fun e=>n4 (by rw[e])
 obtain⟨pp,a1,a2,_,e9⟩:=T.par q M.hq p.key nm M.qp
 have:pp=p:=T.inj pp a1 p M.hp a2
 subst this;have nt:qbv q.key=nm:=by rw[M.qp];exact qdc _ _
 have yC:∀ {z:Node} {l:List Node},z∈nodes->z.kids=l.map (·.blk)->l.length<=1000:=fun hz e=>by have:=qy4 T hz;rw[e]at this;simpa using this
 have KP:qxy w pp ks:=⟨M.pk,fun k hk=>h.pr.ins k ((M.pm k).1 hk).1,M.ps,yC M.hp M.pk⟩;have A1:=h.apart M.hp M.hq;have A2:=h.apart M.hq M.hp;have A3:=h.apart M.hp M.hp;have A4:=h.apart M.hq M.hq;have B1:=h.apart M.ht M.hq;have B2:=h.apart M.hq M.ht;have B3:=h.apart M.ht M.ht;have B4:=h.apart M.ht M.hp;have B5:=h.apart M.hp M.ht;have hl:=qzf (h.pr.ins pp M.hp) (h.pr.ins q M.hq) KP M.pi e9 (A1.2.1 (fun e=>fe e.symm)) A3.1 A1.1 A4.1 A2.1 (A1.2.2 (fun e=>fe e.symm))
 refine qzw (nm:=sb nm) (P1:=fun W1=>∃bm,LvM w pp q i bm W1) (hl.mono ?_) (fun W1 kR=>?_)
 ·rintro e w' ⟨rfl,sl,e1,e2,e3,e4⟩
  refine⟨rfl,?_,sl,⟨e1,e2,e3,e4⟩⟩
  have:=e3.cell (i:=0) (v:=.string (sb (qbv q.key))) rfl
  rw[nt]at this;exact this
 ·obtain⟨bm,L⟩:=kR;have gw:qan W1 tq:=h.other M.hq M.hp M.ht (fun e=>AQ e.symm) (fun e=>AR e.symm) L.keep;have hf:∀k∈kt,(if k.key=pp.key then pp.qxi i bm else k).blk=k.blk/\(if k.key=pp.key then pp.qxi i bm else k).key=k.key:=fun k hk=>by
   by_cases c:k.key=pp.key
   ·have:k=pp:=T.inj k ((M.tm k).1 hk).1 pp M.hp c
    subst this;rw[if_pos rfl];exact⟨rfl,rfl⟩
   ·rw[if_neg c];exact⟨rfl,rfl⟩
  have Fl:(kt.map fun k=>if k.key=pp.key then pp.qxi i bm else k).map (fun k=>qbv k.key)=kt.map fun k=>qbv k.key:=by
   rw[List.map_map];exact List.map_congr_left fun k hk=>by simp only[Function.comp];rw[(hf k hk).2]
  have KT:qxy W1 tq (kt.map fun k=>if k.key=pp.key then pp.qxi i bm else k):=by
   refine⟨?_,fun k hk=>?_,by rw[Fl];exact M.ts,by rw[List.length_map];exact yC M.ht M.tk⟩
   ·rw[List.map_map,M.tk];exact List.map_congr_left fun k hk=>((hf k hk).1).symm
   ·obtain⟨z,hz,rfl⟩:=xrq.1 hk;obtain⟨b1,x,b2⟩:=(M.tm z).1 hz
    by_cases c:z.key=pp.key
    ·rw[if_pos c];exact L.par
    ·rw[if_neg c]
     exact h.other M.hq M.hp b1 (fun e=>c (by rw[e])) (fun e=>n4 (by rw[e,M.qp]at b2;exact(qxo b2).1)) L.keep
  have fl:qbd nm=true:=qbz (T.ok q M.hq).1 (by rw[M.qp];simp);have a7:∀k∈kt.map fun k=>if k.key=pp.key then pp.qxi i bm else k,qbv k.key≠nm:=fun k hk e=>by
   obtain⟨z,hz,rfl⟩:=xrq.1 hk;rw[(hf z hz).2]at e;obtain⟨b1,x,b2⟩:=(M.tm z).1 hz;rw[b2,qdc]at e
   exact M.no z b1 (by rw[b2,e])
  refine(qz7 gw L.kid KT nm fl a7 (k':=tq.key++[nm]) (qdc _ _) (fun e=>B2.2.1 AR e) B1.1 B3.1 A4.1 B2.1 (B1.2.2 (fun e=>AR e.symm))).mono ?_
  rintro e w' ⟨rfl,Hf,bz,hF,f1,f2,f3,f4⟩
  rw[Fl]at hF;have bh:Hf=at_:=q0i hF M.tf;subst bh
  refine⟨rfl,bm,bz,⟨L.own,?_,?_,f1,f2,?_⟩⟩
  ·rcases f4 with e|⟨g,e,hg⟩
   ·exact .inl e
   ·exact .inr ⟨g,e,by have:=L.keep.size;omega⟩
  ·refine L.par.keep f3 (fun e=>?_) (fun g hg e=>?_)
   ·rcases e with e|e|e
    ·exact B5.2.1 AQ e
    ·exact A1.2.1 (fun e2=>fe e2.symm) e
    ·exact B4.1 e
   ·have hg:bm.ownBlock=some g:=hg;rw[L.own]at hg
    rcases e with e|e|e
    ·exact B5.1 (by rw[hg,e])
    ·exact A1.1 (by rw[hg];exact congrArg some e)
    ·exact B5.2.2 AQ g hg e
  ·exact(L.keep.mono (fun b e=>.inl e)).trans (f3.mono (fun b e=>by
    rcases e with e|e|e
    ·exact .inr (.inl e)
    ·exact .inl (.inr (.inl e))
    ·exact .inr (.inr e)))
def mvP (k k':List Bs)(y:Pw):Pw:={y with x:=mvW k k' y.x}
theorem q12(k k':List Bs)(y:Pw):qzq y (mvP k k' y):=⟨rfl,rfl,rfl,rfl,rfl⟩
theorem qb6.qzx(h:qb6 τ t w bt nodes last vw va ws as_)(M:Mv nodes q p tq nm ks i kt at_)(m:MoM w q p tq nm i bm at_ bz w'):
  PMid τ t w bt (nodes.map (gM q p tq nm i bm at_ bz)) last vw va (ws.map (mvP q.key (tq.key++[nm]))) (as_.map (mvP q.key (tq.key++[nm]))) w':=by
 have T:=h.pr.tree;obtain⟨n1,n2,n3,n4,n5⟩:=M.ne;have fe:q≠p:=fun e=>n2 (by rw[e])
 have AR:q≠tq:=fun e=>n5 (by rw[e])
 have AQ:p≠tq:=fun e=>n4 (by rw[e])
 have hg:=M.g bm bz;have sU:=M.last bm bz;have ai:∀x,x∈nodes.map (gM q p tq nm i bm at_ bz)↔∃n∈nodes,x=gM q p tq nm i bm at_ bz n:=fun x=>by simp only[xrq];exact⟨fun ⟨n,h,e⟩=>⟨n,h,e.symm⟩,fun ⟨n,h,e⟩=>⟨n,h,e.symm⟩⟩
 obtain⟨τ',fV⟩:∃τ':Nat->Tag,τ'=fun x=>if x<w.heap.size then τ x else if bz.ownBlock=some x then .row t tq.blk else .free:=⟨_,rfl⟩
 have iu:∀x,x<w.heap.size -> τ' x = τ x:=fun x hx=>by rw[fV];simp[hx]
 have zx:∀b,Tch3 q p tq b->((τ b).k=1\/(τ b).k=2)/\(τ b).prog t:=fun b hb=>by
  rcases hb with e|e|e
  ·exact h.tch M.hq M.hp b e
  ·exact h.tch M.ht M.ht b (.inl e)
  ·exact h.tch M.ht M.ht b (.inr (.inr e))
 have DC:∀z∈nodes,z≠p->z≠q->z≠tq->qan w' z:=fun z hz c1 c2 c3=>by
  refine(h.pr.ins z hz).keep m.keep (fun e=>?_) (fun g yF e=>?_)
  ·rcases e with (e|e|e)|e|e
   ·exact(h.apart hz M.hp).2.1 c1 e
   ·exact(h.apart hz M.hq).2.1 c2 e
   ·exact(h.apart M.hp hz).1 e
   ·exact(h.apart hz M.ht).2.1 c3 e
   ·exact(h.apart M.ht hz).1 e
  ·rcases e with (e|e|e)|e|e
   ·exact(h.apart hz M.hp).1 (by rw[yF,e])
   ·exact(h.apart hz M.hq).1 (by rw[yF,e])
   ·exact(h.apart hz M.hp).2.2 c1 g yF e
   ·exact(h.apart hz M.ht).1 (by rw[yF,e])
   ·exact(h.apart hz M.ht).2.2 c3 g yF e
 obtain⟨r,hr,hb⟩:=h.bk;obtain⟨gd,bK⟩:=qeh T hr
 refine⟨τ',iu,fun x hx=>?_,?_,m.keep.qlj (fun b hb e=>⟨hb,(zx b e).2⟩)⟩
 ·rw[fV];simp only[Nat.not_lt.2 hx,if_false]
  split
  ·exact .inr rfl
  ·exact .inl rfl
 refine h.new (τ' := τ') (M.tree bm bz) (fun n hn=>?_) (fun n hn=>?_) (fun a ha b aZ e=>?_) hr (r':=gM q p tq nm i bm at_ bz r) (by rw[xrs,hr];rfl) (hg r gd).2.1 m.keep (fun b _ e=>(zx b e).1) iu (fun y _=>q12 _ _ y) (fun y hy=>?_)
 ·obtain⟨z,hz,rfl⟩:=(ai n).1 hn;have hl:=sU z hz;unfold gM at hl ⊢
  by_cases c1:z.key=q.key
  ·rw[if_pos c1];exact m.kid
  ·rw[if_neg c1]at hl ⊢
   by_cases c2:z.key=p.key
   ·rw[if_pos c2];exact m.par
   ·rw[if_neg c2]at hl ⊢
    by_cases c3:z.key=tq.key
    ·rw[if_pos c3];exact m.tar
    ·rw[if_neg c3]at hl ⊢;have Gy:=DC z hz (fun e=>c2 (by rw[e])) (fun e=>c1 (by rw[e])) (fun e=>c3 (by rw[e]))
     refine⟨?_,Gy.row⟩
     refine Gy.at_.trans ?_
     simp only[Node.cells]at hl ⊢;rw[hl]
 ·obtain⟨z,hz,rfl⟩:=(ai n).1 hn;obtain⟨j,hj⟩:=xre hz;obtain⟨t1,t2⟩:=h.pr.tags j z hj;rw[(hg z hz).2.1]
  refine⟨by rw[iu _ (h.pr.ins z hz).lt];exact t1,fun g fk=>?_⟩
  have old:∀g,z.sl.ownBlock=some g -> τ' g=.row t z.blk:=fun g e=>by rw[iu _ ((h.pr.ins z hz).row.lt g e).2];exact t2 g e
  unfold gM at fk
  by_cases c1:z.key=q.key
  ·rw[if_pos c1]at fk;rw[T.inj z hz q M.hq c1]at old ⊢
   exact old g fk
  ·rw[if_neg c1]at fk
   by_cases c2:z.key=p.key
   ·rw[if_pos c2]at fk;have fk:bm.ownBlock=some g:=fk;rw[T.inj z hz p M.hp c2]at old ⊢
    exact old g (by rw[<-m.own1];exact fk)
   ·rw[if_neg c2]at fk
    by_cases c3:z.key=tq.key
    ·rw[if_pos c3]at fk;have fk:bz.ownBlock=some g:=fk;rw[T.inj z hz tq M.ht c3]at old ⊢
     rcases m.own2 with e|⟨g',e,fB⟩
     ·exact old g (by rw[<-e];exact fk)
     ·rw[fk]at e;cases e;rw[fV]
      simp[Nat.not_lt.2 fB,fk]
    ·rw[if_neg c3]at fk
     exact old g fk
 ·obtain⟨z,hz,rfl⟩:=(ai a).1 ha;obtain⟨y,hy,rfl⟩:=(ai b).1 aZ;rw[(hg z hz).2.1,(hg y hy).2.1]at e;rw[h.pr.binj z hz y hy e]
 ·obtain⟨n,hn,e1,e2⟩:=hb.lf y hy
  refine⟨_,(ai _).2 ⟨n,hn,rfl⟩,(hg n hn).2.1.trans e1,?_⟩
  rw[(hg n hn).1,e2];rfl
end
theorem q1s{w:World}{a:Nat}(h:w.cell? (vA a 0)=some (vI 0)):
  CallsD prog 140 #[vP a,vP b] .returning w fun e u' w'=>u'=.returning/\(e=.returned (.tuple #[])/\w'=w):=by
 go_enter_d func140,ntmps140
 go_wp2
 go_end0
 exact⟨rfl,rfl⟩
theorem q0p{w:World}{a:Nat}(he:(er != 0)=true)(h:w.cell? (vA a 0)=some (vI er))(hb:w.cell? (vA b 0)=some (.func (.func 95) #[] #[x1,y2])){M:World->Prop}
  (hU:Cl 95 #[x1,y2] w fun e w'=>e=.returned (.tuple #[])/\M w') :
  CallsD prog 140 #[vP a,vP b] .returning w fun e u' w'=>u'=.returning/\(e=.returned (.tuple #[])/\M w'):=by
 go_enter_d func140,ntmps140
 go_wp2_with (go_at_call 95;refine hU.mono ?_;rintro e w1 ⟨rfl,hM⟩)
 go_end0
 exact⟨rfl,hM⟩
theorem q0u{w:World}{bt:Nat}{M1 M2 M3:World->Prop}(dx:bt<w.heap.size)
  (hC:∀W1,Bw w W1->w.heap.size+2<=W1.heap.size->Cl 93 #[x1,x2] W1 fun e w'=>e=.returned (.tuple #[])/\Keep (fun b=>b<w.heap.size) W1 w'/\M1 w')
  (hO:∀W1,M1 W1->Cl 141 #[vP bt] W1 fun e w'=>e=.returned (vI er)/\Bw W1 w')
  (h2:er=0->∀W1 W2,M1 W1->w.heap.size<=W1.heap.size->Keep (fun b=>b=w.heap.size+1) W1 W2->M2 W2)
  (hU:er≠0->∀W1 W2,M1 W1->w.heap.size<=W1.heap.size->Keep (fun b=>b=w.heap.size+1) W1 W2->Cl 95 #[x1,y2] W2 fun e w'=>e=.returned (.tuple #[])/\Keep (fun b=>b≠w.heap.size/\b≠w.heap.size+1) W2 w'/\M3 w') :
  Cl 87 #[vP bt,.func (.func 93) #[] #[x1,x2],.func (.func 95) #[] #[x1,y2]] w fun e w'=>e=.returned (vI er)/\(er=0->M2 w')/\(er≠0->M3 w'):=by
 have nT:∀(fn:Fn) (first cap:Array Value) (w:World),(Instr.makeFunc fn first cap).run prog w=.ok (.func fn first cap) w:=fun _ _ _ _=>rfl
 obtain⟨W0,bJ⟩:∃W0,W0=(w.alloc (.cells #[.func (.func 95) #[] #[x1,y2]] 1)).alloc (.cells #[vI 0] 53):=⟨_,rfl⟩;have b1:Box W0 w.heap.size 1 (.func (.func 95) #[] #[x1,y2]):=by rw[bJ];exact(Box.new w 1 _).alloc _
 have b2:Box W0 (w.heap.size+1) 53 (vI 0):=by
  rw[bJ];have:=Box.new (w.alloc (.cells #[.func (.func 95) #[] #[x1,y2]] 1)) 53 (vI 0)
  rwa[xrt]at this
 have aO:Bw w W0:=by rw[bJ];exact bel2
 have fE:w.heap.size+2<=W0.heap.size:=by rw[bJ];simp
 go_enter_defers func87,ntmps87
 go_upto_region 1 with fail
 rw[<-bJ];clear bJ
 go_wp2_with (first
  |(go_at_call 93;refine(hC _ (by exact bel2) (by first|omega|(simp;omega))).mono ?_;rintro e w1 ⟨rfl,c_,kR⟩;have d1:=b1.keep c_ (by omega);have d2:=b2.keep c_ (by omega);have cJ:=c_.size)
  |(go_at_call 141;refine(hO _ kR).mono ?_;rintro e w2 ⟨rfl,af⟩;have f1:=d1.below af d1.lt;have f2:=d2.below af d2.lt;have q2:=f2.cell;have p2:=f2.frozen))
 have bM:Keep (fun b=>b=w.heap.size+1) w1 (w2.setCell (vA (w.heap.size+1) 0) (vI er)):=(Keep.new (T:=fun b=>b=w.heap.size+1) af).setCell (p:=vA (w.heap.size+1) 0) rfl _;have g1:=(f1.other (vA (w.heap.size+1) 0) (vI er) (by simp)).cell;have g2:=(f2.set (vI er)).cell
 by_cases he:er=0
 ·subst he
  refine leaves_cons (f:=140) (args:=#[vP (w.heap.size+1),vP w.heap.size]) (by simp) (by simp[go_sem]) ?_
  refine(q1s (b:=w.heap.size) g2).mono ?_
  rintro e u' ko ⟨rfl,rfl,rfl⟩
  simp[Leaves,settle,results,results87,go_sem,g2]
  exact h2 rfl _ _ kR (by omega) bM
 ·refine leaves_cons (f:=140) (args:=#[vP (w.heap.size+1),vP w.heap.size]) (by simp) (by simp[go_sem]) ?_
  refine(q0p (by simpa using he) g2 g1 (hU he _ _ kR (by omega) bM)).mono ?_
  rintro e u' ko ⟨rfl,rfl,dZ,rf⟩
  have g3:=((f2.set (vI er)).keep dZ (by simp)).cell
  simp[Leaves,settle,results,results87,go_sem,g3]
  exact⟨fun e=>absurd e he,fun _=>rf⟩
section
variable {τ : Nat->Tag}{t:Nat}{w:World}{bt:Nat}{nodes:List Node}{last:Int}{vw va:Value}{ws as_:List Pw}{q p tq:Node}{nm:Bs}{ks kt:List Node}{i at_:Nat}
theorem PMid.trans(m1:∀b,b<w.heap.size -> τ' b = τ b)(m2:∀b,w.heap.size<=b -> τ' b=.free\/(τ' b).prog t)(m4:Keep (fun b=>b<w.heap.size/\(τ b).prog t) w W2)(h:PMid τ' t W2 bt aL last Ah Ac Ai xj w'):PMid τ t w bt aL last Ah Ac Ai xj w':=by
 obtain⟨τ2,g1,g2,g3,g4⟩:=h;have hz:=m4.size
 refine⟨τ2,fun b hb=>(g1 b (by omega)).trans (m1 b hb),fun b hb=>?_,g3,m4.qbo g4 (fun b hb e=>⟨hb,by have:=e.2;rw[m1 b hb]at this;exact this⟩)⟩
 by_cases h1:b<W2.heap.size
 ·rw[g1 b h1];exact m2 b hb
 ·exact g2 b (by omega)
theorem Mv.q2k(M:Mv nodes q p tq nm ks i kt at_)(hn:n∈nodes):mvK (tq.key++[nm]) q.key (mvK q.key (tq.key++[nm]) n.key)=n.key:=by
 by_cases c:q.key <+: n.key
 ·rw[qxn c,qxn (xry _ _),List.drop_left];obtain⟨tl,ht⟩:=c;rw[<-ht,List.drop_left]
 ·rw[qxg c,qxg (M.fresh n hn)]
theorem Mv.q3d(M:Mv nodes q p tq nm ks i kt at_):p.leaf=false:=by
 obtain⟨pp,a1,a2,a3,_⟩:=M.T.par q M.hq p.key nm M.qp;rw[<-M.T.inj pp a1 p M.hp a2];exact a3
theorem Mv.back(M:Mv nodes q p tq nm ks i kt at_)(bm bz:Value):∃Bh i' zR xk,Mv (nodes.map (gM q p tq nm i bm at_ bz)) (gM q p tq nm i bm at_ bz q) (gM q p tq nm i bm at_ bz tq) (gM q p tq nm i bm at_ bz p) nm Bh i' zR xk:=by
 obtain⟨n1,n2,n3,n4,n5⟩:=M.ne;have T':=M.tree bm bz;have hg:=M.g bm bz;have ai:∀x,x∈nodes.map (gM q p tq nm i bm at_ bz)↔∃n∈nodes,x=gM q p tq nm i bm at_ bz n:=fun x=>by simp only[xrq];exact⟨fun ⟨n,h,e⟩=>⟨n,h,e.symm⟩,fun ⟨n,h,e⟩=>⟨n,h,e.symm⟩⟩
 have kq:(gM q p tq nm i bm at_ bz q).key=tq.key++[nm]:=by rw[(hg q M.hq).1,qxn (List.prefix_refl _),List.drop_length,List.append_nil]
 have G3:(gM q p tq nm i bm at_ bz tq).key=tq.key:=by rw[(hg tq M.ht).1,qxg M.q0l]
 have kp:(gM q p tq nm i bm at_ bz p).key=p.key:=by rw[(hg p M.hp).1,qxg n3]
 have lp:=(hg p M.hp).2.2.1.trans M.q3d;have mq:=(ai _).2 ⟨q,M.hq,rfl⟩;have mp:=(ai _).2 ⟨p,M.hp,rfl⟩;have mt:=(ai _).2 ⟨tq,M.ht,rfl⟩;generalize gM q p tq nm i bm at_ bz=g at *;obtain⟨Bh,b1,b2,b3⟩:=T'.kids (g tq) mt;obtain⟨zR,c1,c2,c3⟩:=T'.kids (g p) mp;obtain⟨i',kG⟩:=xre ((b2 (g q)).2 ⟨mq,nm,by rw[kq,G3]⟩);have zf:∀n∈nodes.map g,n.key≠(g p).key++[nm]:=fun n hn e=>by
  obtain⟨z,hz,rfl⟩:=(ai n).1 hn;rw[(hg z hz).1,kp,<- M.qp]at e
  by_cases c:q.key <+: z.key
  ·rw[qxn c]at e;exact M.fresh q M.hq ⟨_,e⟩
  ·rw[qxg c]at e;exact c (by rw[e];exact List.prefix_refl _)
 obtain⟨xk,hF⟩:=qy3 (nm:=nm) (zR.map fun k=>qbv k.key) c3 (fun e=>by
  obtain⟨k,hk,e2⟩:=xrq.1 e;obtain⟨d1,x,d2⟩:=(c2 k).1 hk;have e2:qbv k.key=nm:=e2;rw[d2,qdc]at e2
  exact zf k d1 (by rw[d2,e2]))
 refine⟨Bh,i',zR,xk,⟨T',mq,mt,mp,by rw[kq,G3],lp,by rw[kq,kp];exact M.fresh p M.hp,zf,fun n hn c=>?_,b1,b2,b3,kG,c1,c2,c3,hF⟩⟩
 obtain⟨z,hz,rfl⟩:=(ai n).1 hn;rw[kq,(hg z hz).1]at c;rw[kq,kp,(hg z hz).1];have fN:q.key.length=p.key.length+1:=by rw[M.qp];simp
 by_cases d:q.key <+: z.key
 ·rw[qxn d]
  have:=(M.T.ok z hz).2
  have:=d.length_le
  simp
  omega
 ·rw[qxg d]at c
  exact absurd c (M.fresh z hz)
theorem Mv.ents(M:Mv nodes q p tq nm ks i kt at_)(bm bz:Value):(nodes.map (gM q p tq nm i bm at_ bz)).map Node.ent=(nodes.map Node.ent).map (mvE q.key (tq.key++[nm])):=by
 rw[List.map_map,List.map_map]
 refine List.map_congr_left fun n hn=>?_
 obtain⟨g1,g2,g3,g4,g5,g6,g7,_⟩:=M.g bm bz n hn;simp only[Function.comp,Node.ent,mvE];rw[g1,g3,g4,g5,g6,g7]
theorem Rel.qzx(R:Rel nodes Ws ws as_)(k k':List Bs)(hl:∀y∈ws.map (mvP k k')++as_.map (mvP k k'),∃n∈ar,n.blk=y.q/\n.key=y.x.key):Rel ar (Ws.map (mvW k k')) (ws.map (mvP k k')) (as_.map (mvP k k')):=by
 obtain⟨az,a1,a2,a3⟩:=R.a
 refine⟨?_,⟨az.map (mvW k k'),?_,?_,?_⟩,hl⟩
 ·rw[List.map_map,List.filter_map]
  have:=congrArg (List.map (mvW k k')) R.w
  rw[List.map_map]at this
  exact this
 ·rw[List.map_map,List.map_map]
  have:=congrArg (List.map (mvW k k')) a1
  rw[List.map_map,List.map_map]at this
  exact this
 ·rw[List.filter_map]
  exact a2.map _
 ·rw[List.pairwise_map]
  exact a3
theorem q0x(M:Mv nodes q p tq nm ks i kt at_)(hl:∀y∈l,∃n∈nodes,n.blk=y.q/\n.key=y.x.key):(l.map (mvP q.key (tq.key++[nm]))).map (mvP (tq.key++[nm]) q.key)=l:=by
 rw[List.map_map]
 conv=>rhs;rw[<-List.map_id l]
 refine List.map_congr_left fun y hy=>?_
 obtain⟨n,hn,_,e⟩:=hl y hy
 have:=M.q2k hn
 rw[e]at this;obtain⟨yb,yx,yq⟩:=y;obtain⟨x1,x2,x3,x4,x5⟩:=yx;simp only[Function.comp,mvP,mvW,id];rw[this]
end
theorem q08{w:World}{P:World->Prop}(b1:Blk w gq 97 #[vP bq])(b2:Blk w gt 97 #[vP bt2])
  (hh:Cl 94 #[vP bq,vP bt2] w fun e w'=>e=.returned (.tuple #[])/\P w') :
  Cl 93 #[vP gq,vP gt] w fun e w'=>e=.returned (.tuple #[])/\P w':=by
 have c1:=b1.cell 0;have c2:=b2.cell 0;simp only[List.getElem?_toArray,List.getElem?_cons_zero]at c1 c2
 go_enter func93,ntmps93
 go_wp2_with (go_at_call 94;refine hh.mono ?_;rintro e w1 ⟨rfl,hP⟩)
 go_end0
 exact⟨rfl,hP⟩
theorem q09{w:World}{P:World->Prop}(b1:Blk w gq 97 #[vP bq])(b2:Blk w gt 97 #[vP bt2])
  (hh:Cl 94 #[vP bq,vP bt2] w fun e w'=>e=.returned (.tuple #[])/\P w') :
  Cl 95 #[vP gq,vP gt] w fun e w'=>e=.returned (.tuple #[])/\P w':=by
 have c1:=b1.cell 0;have c2:=b2.cell 0;simp only[List.getElem?_toArray,List.getElem?_cons_zero]at c1 c2
 go_enter func95,ntmps95
 go_wp2_with (go_at_call 94;refine hh.mono ?_;rintro e w1 ⟨rfl,hP⟩)
 go_end0
 exact⟨rfl,hP⟩
section
variable {τ : Nat->Tag}{t:Nat}{w:World}{bt:Nat}{nodes:List Node}{last:Int}{vw va:Value}{ws as_:List Pw}{q p tq:Node}{nm:Bs}{ks kt:List Node}{i at_:Nat}
theorem qza(h:qb6 τ t w bt nodes last vw va ws as_)(R:Rel nodes Ws ws as_)(M:Mv nodes q p tq nm ks i kt at_)(hW:Wks (Ws.map (mvW q.key (tq.key++[nm]))))
  (b1:Blk w gq 97 #[vP q.blk]) (b2:Blk w gt 97 #[vP tq.blk]) (b3:Blk w gp 97 #[vP p.blk]) (d1:¬Tch3 q p tq gq) (d3:¬Tch3 q p tq gp) :
  Cl 87 #[vP bt,.func (.func 93) #[] #[vP gq,vP gt],.func (.func 95) #[] #[vP gq,vP gp]] w
   fun e w'=>e=.returned (vI (brkE ((nodes.map Node.ent).map (mvE q.key (tq.key++[nm]))) (Ws.map (mvW q.key (tq.key++[nm])))))/\(brkE ((nodes.map Node.ent).map (mvE q.key (tq.key++[nm]))) (Ws.map (mvW q.key (tq.key++[nm])))=0->∃bm bz,PMid τ t w bt (nodes.map (gM q p tq nm i bm at_ bz)) last vw va (ws.map (mvP q.key (tq.key++[nm]))) (as_.map (mvP q.key (tq.key++[nm]))) w')/\(brkE ((nodes.map Node.ent).map (mvE q.key (tq.key++[nm]))) (Ws.map (mvW q.key (tq.key++[nm])))≠0->∃aL,aL.map Node.ent=nodes.map Node.ent/\(∀n∈nodes,∃n'∈aL,n'.blk=n.blk/\n'.key=n.key/\n'.leaf=n.leaf)/\PMid τ t w bt aL last vw va ws as_ w'):=by
 have T:=h.pr.tree;have ak:∀z∈nodes,z.blk<w.heap.size/\∀g,z.sl.ownBlock=some g->g<w.heap.size:=fun z hz=>⟨(h.pr.ins z hz).lt,fun g hg=>((h.pr.ins z hz).row.lt g hg).2⟩
 have jC:∀b,Tch3 q p tq b->b<w.heap.size:=fun b hb=>by
  rcases hb with (e|e|e)|e|e
  ·rw[e];exact(ak p M.hp).1
  ·rw[e];exact(ak q M.hq).1
  ·exact(ak p M.hp).2 b e
  ·rw[e];exact(ak tq M.ht).1
  ·exact(ak tq M.ht).2 b e
 obtain⟨r0,_,cx⟩:=h.bk;have l8:∀bm bz W1 W2,MoM w q p tq nm i bm at_ bz W1->(∀g,bz.ownBlock=some g->g≠w.heap.size+1)->Keep (fun b=>b=w.heap.size+1) W1 W2->MoM w q p tq nm i bm at_ bz W2:=fun bm bz W1 W2 m cv bM=>by
  refine⟨m.own1,m.own2,m.par.keep bM (fun e=>?_) (fun g hg e=>?_),m.tar.keep bM (fun e=>?_) (fun g hg e=>cv g hg e),m.kid.keep bM (fun e=>?_) (fun g hg e=>?_),m.keep.qbo bM (fun b hb e=>by omega)⟩
  ·have e:p.blk=w.heap.size+1:=e
   have:=(ak p M.hp).1;omega
  ·have hg:bm.ownBlock=some g:=hg;rw[m.own1]at hg
   have:=(ak p M.hp).2 g hg;omega
  ·have e:tq.blk=w.heap.size+1:=e
   have:=(ak tq M.ht).1;omega
  ·have e:q.blk=w.heap.size+1:=e
   have:=(ak q M.hq).1;omega
  ·have:=(ak q M.hq).2 g hg;omega
 refine q0u (M1:=fun W1=>∃bm bz,MoM w q p tq nm i bm at_ bz W1/\(∀g,bz.ownBlock=some g->g≠w.heap.size/\g≠w.heap.size+1))
  (M2:=fun w'=>∃bm bz,PMid τ t w bt (nodes.map (gM q p tq nm i bm at_ bz)) last vw va (ws.map (mvP q.key (tq.key++[nm]))) (as_.map (mvP q.key (tq.key++[nm]))) w')
  (M3:=fun w'=>∃aL,aL.map Node.ent=nodes.map Node.ent/\(∀n∈nodes,∃n'∈aL,n'.blk=n.blk/\n'.key=n.key/\n'.leaf=n.leaf)/\PMid τ t w bt aL last vw va ws as_ w') h.lts.1 (fun W1 hb hz=>?_) (fun W1 hM=>?_) (fun _ W1 W2 hM hz bM=>?_) (fun _ W1 W2 hM hz bM=>?_)
 ·have h1:=h.keep (τ':=qde τ w.heap.size) (T:=fun _=>False) (Keep.new hb) (fun _ _ h=>h.elim) (fun b hb=>qbx hb)
  refine q08 (P:=fun w'=>Keep (fun b=>b<w.heap.size) W1 w'/\∃bm bz,MoM w q p tq nm i bm at_ bz w'/\(∀g,bz.ownBlock=some g->g≠w.heap.size/\g≠w.heap.size+1)) (b1.below hb b1.lt) (b2.below hb b2.lt) ((qym h1 M).mono ?_)
  rintro e w' ⟨rfl,bm,bz,m⟩
  refine⟨rfl,m.keep.mono jC,bm,bz,⟨m.own1,?_,m.par,m.tar,m.kid,(Keep.new hb).trans m.keep⟩,fun g hg=>?_⟩
  ·rcases m.own2 with e|⟨g,e,hg⟩
   ·exact .inl e
   ·exact .inr ⟨g,e,by omega⟩
  ·rcases m.own2 with e|⟨g',e,fB⟩
   ·rw[e]at hg
    have:=(ak tq M.ht).2 g hg
    omega
   ·rw[hg]at e;cases e;omega
 ·obtain⟨bm,bz,m,_⟩:=hM;obtain⟨τ',m1,m2,P,m4⟩:=h.qzx M m;obtain⟨r,hr,hb⟩:=P.bk;obtain⟨gd,bK⟩:=qeh P.pr.tree hr
  have:=qxq P.pr.tree P.pr.qlc hb gd bK
  rw[qyc P.pr.tree (R.qzx _ _ hb.lf) hW,M.ents bm bz]at this
  exact this
 ·obtain⟨bm,bz,m,cv⟩:=hM
  exact⟨bm,bz,h.qzx M (l8 bm bz W1 W2 m (fun g hg=>(cv g hg).2) bM)⟩
 ·obtain⟨bm,bz,m,cv⟩:=hM;have m':=l8 bm bz W1 W2 m (fun g hg=>(cv g hg).2) bM;obtain⟨τ',m1,m2,P,m4⟩:=h.qzx M m';obtain⟨Bh,i',zR,xk,M'⟩:=M.back bm bz;have hg:=M.g bm bz;have kq:(gM q p tq nm i bm at_ bz q).key=tq.key++[nm]:=by rw[(hg q M.hq).1,qxn (List.prefix_refl _),List.drop_length,List.append_nil]
  have kp:(gM q p tq nm i bm at_ bz p).key=p.key:=by rw[(hg p M.hp).1,qxg M.ne.2.2.1]
  have aa:=(b1.keep m.keep d1).keep bM (by have:=b1.lt;omega);have ax:=(b3.keep m.keep d3).keep bM (by have:=b3.lt;omega);have AO:=qym P M';rw[(hg q M.hq).2.1,(hg p M.hp).2.1]at AO
  refine q09 (P:=fun w'=>Keep (fun b=>b≠w.heap.size/\b≠w.heap.size+1) W2 w'/\∃aL,aL.map Node.ent=nodes.map Node.ent/\(∀n∈nodes,∃n'∈aL,n'.blk=n.blk/\n'.key=n.key/\n'.leaf=n.leaf)/\PMid τ t w bt aL last vw va ws as_ w') aa ax (AO.mono ?_)
  rintro e w' ⟨rfl,GL,GM,m3⟩
  have e2:gM q p tq nm i bm at_ bz p=p.qxi i bm:=by unfold gM;rw[if_neg M.ne.2.1,if_pos rfl]
  have e3:gM q p tq nm i bm at_ bz tq=tq.qif at_ q.blk bz:=by unfold gM;rw[if_neg M.ne.2.2.2.2,if_neg (fun e=>M.ne.2.2.2.1 e.symm),if_pos rfl]
  have eJ:=P.qzx M' m3;rw[kq,kp,<- M.qp,q0x M (fun y hy=>cx.lf y (xr9 _ hy)),q0x M (fun y hy=>cx.lf y (xra _ hy))]at eJ;have fB:=M'.g GL GM;have jV:∀n∈nodes,(gM (gM q p tq nm i bm at_ bz q) (gM q p tq nm i bm at_ bz tq) (gM q p tq nm i bm at_ bz p) nm i' GL xk GM (gM q p tq nm i bm at_ bz n)).key=n.key:=fun n hn=>by
   rw[(fB _ (xrj hn)).1,kq,kp,<- M.qp,(hg n hn).1];exact M.q2k hn
  refine⟨rfl,m3.keep.mono (fun b e=>?_),_,?_,fun n hn=>?_,PMid.trans m1 m2 m4 eJ⟩
  ·rcases e with (e|e|e)|e|e
   ·rw[e,(hg tq M.ht).2.1];have:=(ak tq M.ht).1;omega
   ·rw[e,(hg q M.hq).2.1];have:=(ak q M.hq).1;omega
   ·rw[e3]at e;exact cv b e
   ·rw[e,(hg p M.hp).2.1];have:=(ak p M.hp).1;omega
   ·rw[e2]at e;have e:bm.ownBlock=some b:=e;rw[m.own1]at e
    have:=(ak p M.hp).2 b e;omega
  ·rw[List.map_map,List.map_map]
   refine List.map_congr_left fun n hn=>?_
   obtain⟨_,_,g3,g4,g5,g6,g7,_⟩:=hg n hn;obtain⟨_,_,f3,f4,f5,f6,f7,_⟩:=fB _ (xrj hn);simp only[Function.comp,Node.ent];rw[jV n hn,f3,f4,f5,f6,f7,g3,g4,g5,g6,g7]
  ·exact⟨_,xrj (xrj hn),((fB _ (xrj hn)).2.1).trans (hg n hn).2.1,jV n hn,((fB _ (xrj hn)).2.2.1).trans (hg n hn).2.2.1⟩
end
theorem q2m{g:Nat}{t:TypeId}(h:Blk W g t #[.pointer none])(v:Value):Blk (W.setCell (vA g 0) v) g t #[v]:=by simpa using h.set 0 v
theorem q2s{w:World}{bt:Nat}(s s2:ByteArray)(h0:er≠0)(du:Cl 91 #[vP bt,.string s,.string s2] w fun e w'=>e=.returned (vI er)/\Bw w w'):
  Cl 57 #[vP bt,.string s,.string s2] w fun e w'=>e=.returned (vI er)/\Bw w w':=by
 have aW:(er != 0)=true:=by simpa using h0
 go_enter func57,ntmps57
 go_wp2_with (go_at_call 91;refine du.mono ?_;rintro e w1 ⟨rfl,aa⟩)
 exact xrn (v:=vI er) (by simp[results,results57,go_sem]) rfl ⟨rfl,aa⟩
theorem q1c{w:World}{bt:Nat}(s s2:ByteArray)(du:Cl 91 #[vP bt,.string s,.string s2] w fun e w'=>e=.returned (vI 0)/\Bw w w')(cI:∀W,Bw w W->W.cell? (vA bt 0)=some (vP br))
  {fv:ByteArray->Value} (hf:∀W ji,Bw w W->ji=s\/ji=s2->Cl 63 #[vP br,.string ji] W fun e w'=>e=.returned (fv ji)/\Bw W w') (dv:fv s=vP bq) (dg:fv s2=vP bt2)
  (fI:∀W,Bw w W->Cl 92 #[vP bq] W fun e w'=>e=.returned (vP bp)/\w'=W) {Q:World->Prop}
  (bh:∀W,Bw w W->∀gq gt gp,Blk W gq 97 #[vP bq]->Blk W gt 97 #[vP bt2]->Blk W gp 97 #[vP bp]->w.heap.size<=gq->w.heap.size<=gt->w.heap.size<=gp ->
   Cl 87 #[vP bt,.func (.func 93) #[] #[vP gq,vP gt],.func (.func 95) #[] #[vP gq,vP gp]] W fun e w'=>e=.returned (vI er)/\Q w') :
  Cl 57 #[vP bt,.string s,.string s2] w fun e w'=>e=.returned (vI er)/\Q w':=by
 have nT:∀(fn:Fn) (first cap:Array Value) (w:World),(Instr.makeFunc fn first cap).run prog w=.ok (.func fn first cap) w:=fun _ _ _ _=>rfl
 have dx:=xrb w _ (cI w (Below.refl _ _))
 simp only at dx
 go_enter func57,ntmps57
 go_upto_region 4 with (go_at_call 91;refine du.mono ?_;rintro e W0 ⟨rfl,aO⟩)
 have fE:=aO.size;have Gm:=cI W0 aO;have n1:¬(bt=W0.heap.size):=by omega
 have n2:¬(bt=W0.heap.size+1):=by omega
 go_cut [8,9] from 18 to 29 (fun x1 x2 wx=>∃g1 g2,x1=vP g1/\x2=vP g2/\Bw w wx/\Blk wx g1 97 #[vP bq]/\Blk wx g2 97 #[vP bt2]/\w.heap.size<=g1/\w.heap.size<=g2)
 case first =>
  go_region_held3 (fun w'=>w'.cell? (vA bt 0)=some (vP br)) (first|go_keep|exact cI _ (by exact bel2))
   (first
   |(go_at_call 63;have _hh:=ax;refine(hf _ _ (by exact bel2) (by first|exact .inl rfl|exact .inr rfl)).mono ?_;rintro e w4 ⟨rfl,a_⟩;have dU:Bw w w4:=qac (by exact bel2) a_;have vM:=dU.size;have lW:=a_.size;have ob:=cI w4 dU;have KJ:¬(bt=w4.heap.size):=(by omega);have KK:¬(bt=w4.heap.size+1):=(by omega);(try (refine qyg (p:=Blk w4 (W0.heap.size) 97 #[.pointer none]) ?_ ?_;(focus (refine Blk.below ?_ a_ ?_;(focus ((repeat (first|(with_reducible assumption)|((with_reducible refine Blk.new' ?_);simp;done)|(with_reducible refine Blk.alloc ?_ _)|(with_reducible refine Blk.drew ?_)|(with_reducible refine Blk.drewN ?_ _)));done));(focus (first|omega|(simp;done)|(simp;omega)))));intro y1;have E6:=y1.cell 0;have LH:=y1.frozen 0;have LI:=y1.lt;simp only[List.getElem?_toArray,List.getElem?_cons_zero]at E6));(try (refine qyg (p:=Blk w4 (W0.heap.size+1) 97 #[.pointer none]) ?_ ?_;(focus (refine Blk.below ?_ a_ ?_;(focus ((repeat (first|(with_reducible assumption)|((with_reducible refine Blk.new' ?_);simp;done)|(with_reducible refine Blk.alloc ?_ _)|(with_reducible refine Blk.drew ?_)|(with_reducible refine Blk.drewN ?_ _)));done));(focus (first|omega|(simp;done)|(simp;omega)))));intro y2;have E7:=y2.cell 0;have LK:=y2.frozen 0;have LL:=y2.lt;simp only[List.getElem?_toArray,List.getElem?_cons_zero]at E7));(try (refine qyg (p:=Blk w4 (w3.heap.size) 97 #[.pointer none]) ?_ ?_;(focus (refine Blk.below ?_ a_ ?_;(focus ((repeat (first|(with_reducible assumption)|((with_reducible refine Blk.new' ?_);simp;done)|(with_reducible refine Blk.alloc ?_ _)|(with_reducible refine Blk.drew ?_)|(with_reducible refine Blk.drewN ?_ _)));done));(focus (first|omega|(simp;done)|(simp;omega)))));intro y3;have E8:=y3.cell 0;have LN:=y3.frozen 0;have LO:=y3.lt;simp only[List.getElem?_toArray,List.getElem?_cons_zero]at E8));(try (refine qyg (p:=Blk w4 (w3.heap.size+1) 97 #[.pointer none]) ?_ ?_;(focus (refine Blk.below ?_ a_ ?_;(focus ((repeat (first|(with_reducible assumption)|((with_reducible refine Blk.new' ?_);simp;done)|(with_reducible refine Blk.alloc ?_ _)|(with_reducible refine Blk.drew ?_)|(with_reducible refine Blk.drewN ?_ _)));done));(focus (first|omega|(simp;done)|(simp;omega)))));intro y4;have E9:=y4.cell 0;have LS:=y4.frozen 0;have LU:=y4.lt;simp only[List.getElem?_toArray,List.getElem?_cons_zero]at E9)))
   |(go_at_call 63;refine(hf _ _ (by exact bel2) (by first|exact .inl rfl|exact .inr rfl)).mono ?_;rintro e w3 ⟨rfl,ax⟩;have aK:Bw w w3:=qac (by exact bel2) ax;have nA:=aK.size;have Gk:=ax.size;have Gn:=cI w3 aK;have KH:¬(bt=w3.heap.size):=(by omega);have KI:¬(bt=w3.heap.size+1):=(by omega);(try (refine qyg (p:=Blk w3 (W0.heap.size) 97 #[.pointer none]) ?_ ?_;(focus (refine Blk.below ?_ ax ?_;(focus ((repeat (first|(with_reducible assumption)|((with_reducible refine Blk.new' ?_);simp;done)|(with_reducible refine Blk.alloc ?_ _)|(with_reducible refine Blk.drew ?_)|(with_reducible refine Blk.drewN ?_ _)));done));(focus (first|omega|(simp;done)|(simp;omega)))));intro z1;have EA:=z1.cell 0;have LW:=z1.frozen 0;have LX:=z1.lt;simp only[List.getElem?_toArray,List.getElem?_cons_zero]at EA));(try (refine qyg (p:=Blk w3 (W0.heap.size+1) 97 #[.pointer none]) ?_ ?_;(focus (refine Blk.below ?_ ax ?_;(focus ((repeat (first|(with_reducible assumption)|((with_reducible refine Blk.new' ?_);simp;done)|(with_reducible refine Blk.alloc ?_ _)|(with_reducible refine Blk.drew ?_)|(with_reducible refine Blk.drewN ?_ _)));done));(focus (first|omega|(simp;done)|(simp;omega)))));intro z2;have EC:=z2.cell 0;have LZ:=z2.frozen 0;have L_:=z2.lt;simp only[List.getElem?_toArray,List.getElem?_cons_zero]at EC))))
  all_goals go_wp2_with fail
  all_goals go_meet
  all_goals refine⟨_,_,rfl,rfl,(by exact bel2),?_,?_,(by omega),(by omega)⟩
  all_goals (repeat (first|(with_reducible assumption)|(with_reducible refine q2m ?_ _)|((with_reducible refine Blk.new' ?_);first|(simp;done)|(simp;omega))|(with_reducible refine Blk.alloc ?_ _)|((with_reducible refine Blk.other ?_ _ _ ?_);rotate_left;(focus (first|omega|(simp;done)|(simp;omega))))))
 case rest =>
  obtain⟨g1,g2,rfl,rfl,cY,x1,x2,e1,e2⟩:=hcut;have c1:=x1.cell 0;have l1:=x1.lt;have l2:=x2.lt;have vO:=cY.size;simp only[List.getElem?_toArray,List.getElem?_cons_zero]at c1;clear hf cI du
  go_wp2_with (first
   |(go_at_call 92;refine(fI _ cY).mono ?_;rintro e w5 ⟨rfl,lJ⟩;subst lJ;have ug:=bh _ (cY.alloc vO (.cells #[vP bp] 97)) g1 g2 _ (x1.alloc _) (x2.alloc _) (Blk.new _ 97 _) e1 e2 vO)
   |(go_at_call 87;refine ug.mono ?_;rintro e w9 ⟨rfl,hM⟩))
  exact xrn (v:=vI er) (by simp[results,results57,go_sem]) rfl ⟨rfl,hM⟩
theorem qyk{nodes:List Node}{s:Bs}(h:errMov nodes s s2=0):qar s=true/\s≠[]/\∃q tq,findKey nodes (qaa s)=some q/\findKey nodes (qaa s2)=some tq/\tq.leaf=false/\q.key.isPrefixOf tq.key=false/\findKey nodes (tq.key++[qbv q.key])=none/\qzb nodes q tq=false:=by
 unfold errMov at h
 by_cases h0:errP [s2,s] s=0
 ·rw[if_neg (by simpa using h0)]at h;obtain⟨hv,_,cZ⟩:=qz4 h0
  refine⟨hv,cZ,?_⟩
  cases hq:findKey nodes (qaa s) with
  |none=>rw[hq]at h;cases h
  |some q =>
   rw[hq]at h
   simp only at h
   cases ht:findKey nodes (qaa s2) with
   |none=>rw[ht]at h;cases h
   |some tq =>
    rw[ht]at h
    simp only at h
    by_cases c1:tq.leaf=true
    ·rw[if_pos c1]at h;cases h
    ·rw[if_neg c1]at h
     by_cases c2:q.key.isPrefixOf tq.key=true
     ·rw[if_pos c2]at h;cases h
     ·rw[if_neg c2]at h
      by_cases c3:(findKey nodes (tq.key++[qbv q.key])).isSome=true
      ·rw[if_pos c3]at h;cases h
      ·rw[if_neg c3]at h
       by_cases c4:qzb nodes q tq=true
       ·rw[if_pos c4]at h;cases h
       ·exact⟨q,tq,rfl,rfl,by simpa using c1,Bool.eq_false_iff.2 c2,by simpa using c3,by simpa using c4⟩
 ·rw[if_pos (by simpa using h0)]at h;exact absurd h h0
theorem Mv.of{nodes:List Node}(T:Tree nodes){q tq:Node}(hq:q∈nodes)(ht:tq∈nodes)(pV:q.key≠[])(h1:tq.leaf=false)(h2:q.key.isPrefixOf tq.key=false)(h3:findKey nodes (tq.key++[qbv q.key])=none)(h4:qzb nodes q tq=false):∃p ks i kt at_,Mv nodes q p tq (qbv q.key) ks i kt at_:=by
 have js:q.key=q.key.dropLast++[qbv q.key]:=by
  have:=(List.dropLast_concat_getLast pV).symm
  conv=>lhs;rw[this]
  congr 2
  conv=>rhs;rw[this]
  rw[qdc]
 obtain⟨p,hp,fU,_,_⟩:=T.par q hq _ _ js;obtain⟨ks,b1,b2,b3⟩:=T.kids p hp;obtain⟨kt,c1,c2,c3⟩:=T.kids tq ht;have fe:q.key=p.key++[qbv q.key]:=by rw[fU];exact js
 obtain⟨i,hi⟩:=xre ((b2 q).2 ⟨hq,_,fe⟩);have a7:∀n∈nodes,n.key≠tq.key++[qbv q.key]:=fun n hn e=>by rw[qdp T hn e]at h3;cases h3
 obtain⟨at_,hF⟩:=qy3 (nm:=qbv q.key) (kt.map fun k=>qbv k.key) c3 (fun e=>by
  obtain⟨k,hk,e2⟩:=xrq.1 e;obtain⟨d1,x,d2⟩:=(c2 k).1 hk;have e2:qbv k.key=qbv q.key:=e2;rw[d2,qdc]at e2
  exact a7 k d1 (by rw[d2,e2]))
 refine⟨p,ks,i,kt,at_,⟨T,hq,hp,ht,fe,h1,(fun e=>absurd (xrw.2 e) (Bool.eq_false_iff.1 h2)),a7,fun n hn c=>?_,b1,b2,b3,hi,c1,c2,c3,hF⟩⟩
 unfold qzb at h4;have h5:(nodes.filter fun m=>q.key.isPrefixOf m.key).all (okD ((tq.key.length:Int)+1-q.key.length))=true:=by simpa using h4
 have h6:=List.all_eq_true.1 h5 n (xrr.2 ⟨hn,xrw.2 c⟩);unfold okD at h6;have h7:¬((n.key.length:Int)+((tq.key.length:Int)+1-q.key.length)>4):=by simpa using h6
 have:=c.length_le
 omega
section
variable {τ : Nat->Tag}{t:Nat}{w:World}{bt:Nat}{nodes:List Node}{last:Int}{vw va:Value}{ws as_:List Pw}{q p tq:Node}{nm:Bs}{ks kt:List Node}{i at_:Nat}
theorem q2t(h:qb6 τ t w bt nodes last vw va ws as_)(R:Rel nodes Ws ws as_)(s s2:ByteArray)(hs:s.size<=2000000)(cv:s2.size<=2000000)(he:errMov nodes (bl s) (bl s2)=0)(hq:findKey nodes (qaa (bl s))=some q)(ht:findKey nodes (qaa (bl s2))=some tq)(M:Mv nodes q p tq nm ks i kt at_)(hW:Wks (Ws.map (mvW q.key (tq.key++[nm]))))(Jf:brkE ((nodes.map Node.ent).map (mvE q.key (tq.key++[nm]))) (Ws.map (mvW q.key (tq.key++[nm])))=er):
  Cl 57 #[vP bt,.string s,.string s2] w fun e w'=>e=.returned (vI er)/\((er=0->∃bm bz,PMid τ t w bt (nodes.map (gM q p tq nm i bm at_ bz)) last vw va (ws.map (mvP q.key (tq.key++[nm]))) (as_.map (mvP q.key (tq.key++[nm]))) w')/\(er≠0->∃aL,aL.map Node.ent=nodes.map Node.ent/\(∀n∈nodes,∃n'∈aL,n'.blk=n.blk/\n'.key=n.key/\n'.leaf=n.leaf)/\PMid τ t w bt aL last vw va ws as_ w')):=by
 have T:=h.pr.tree;obtain⟨r,dN,hb⟩:=h.bk;obtain⟨hr,bK⟩:=qeh T dN;have du:=qxx T h.pr.qlc hb hr bK s s2 hs cv;rw[he]at du;obtain⟨pp,a1,a2,_,e9⟩:=T.par q M.hq p.key nm M.qp
 have:pp=p:=T.inj pp a1 p M.hp a2
 subst this;have fI:=fun W (hW:Bw w W)=>qyu ((h.pr.ins q M.hq).below hW)
 rw[e9]at fI;have jC:∀b,Tch3 q pp tq b->b<w.heap.size:=fun b hb=>by
  rcases hb with (e|e|e)|e|e
  ·rw[e];exact(h.pr.ins pp M.hp).lt
  ·rw[e];exact(h.pr.ins q M.hq).lt
  ·exact((h.pr.ins pp M.hp).row.lt b e).2
  ·rw[e];exact(h.pr.ins tq M.ht).lt
  ·exact((h.pr.ins tq M.ht).row.lt b e).2
 refine q1c (br:=r.blk) (bq:=q.blk) (bt2:=tq.blk) (bp:=pp.blk) (fv:=fun ji=>match findKey nodes (qaa (bl ji)) with|none=>.pointer none|some p=>nptr p.blk) s s2 du (fun W bI=>(hb.below bI).bk.at_.cell 0) (fun W ji bI vt=>qfh T hr bK ji (by rcases vt with rfl|rfl<;>assumption) W (hb.below bI).ins _ rfl) (by simp only[hq];rfl) (by simp only[ht];rfl) fI (fun W bI gq gt gp b1 b2 b3 e1 e2 e3=>?_)
 have h6:=h.keep (τ':=qde τ w.heap.size) (T:=fun _=>False) (Keep.new bI) (fun _ _ h=>h.elim) (fun b hb=>qbx hb);have bh:=qza h6 R M hW b1 b2 b3 (fun e=>by have:=jC _ e;omega) (fun e=>by have:=jC _ e;omega);rw[Jf]at bh
 refine bh.mono ?_
 rintro e w' ⟨rfl,g1,g2⟩
 refine⟨rfl,fun e=>?_,fun e=>?_⟩
 ·obtain⟨bm,bz,g3⟩:=g1 e
  exact⟨bm,bz,PMid.from bI g3⟩
 ·obtain⟨aL,g3,g4,g5⟩:=g2 e
  exact⟨aL,g3,g4,PMid.from bI g5⟩
end
section
variable {nodes:List Node}{q p tq:Node}{nm:Bs}{ks kt:List Node}{i at_:Nat}
theorem Mv.wkl(M:Mv nodes q p tq nm ks i kt at_)(bm bz:Value)(H:WkL nodes Ws cnt):WkL (nodes.map (gM q p tq nm i bm at_ bz)) (Ws.map (mvW q.key (tq.key++[nm]))) cnt:=by
 refine⟨fun y hy=>?_,fun y hy=>?_⟩<;>obtain⟨x,hx,rfl⟩:=xrq.1 hy
 ·obtain⟨n,hn,e1,e2⟩:=H.leaf x hx;obtain⟨g1,g2,g3,_⟩:=M.g bm bz n hn
  exact⟨_,xrj hn,by rw[g1,e1];rfl,g3.trans e2⟩
 ·exact H.num x hx
theorem Mv.sinv(M:Mv nodes q p tq nm ks i kt at_)(H:WkL nodes Ws cnt)(I:SInv ⟨Ws,st,[]⟩):SInv ⟨Ws.map (mvW q.key (tq.key++[nm])),st,[]⟩:=by
 have H':=M.wkl v0_ v0_ H;have T':=M.tree v0_ v0_
 refine⟨⟨⟨fun y hy=>?_,fun y hy=>?_,by simpa using I.wks.wks.len⟩,?_,fun y hy=>?_,?_⟩,I.st0,H'.anti T'⟩
 ·obtain⟨n,hn,e1,_⟩:=H'.leaf y hy;rw[<-e1];exact T'.ok n hn
 ·obtain⟨x,hx,rfl⟩:=xrq.1 hy
  exact I.wks.wks.num x hx
 ·show((Ws.map (mvW q.key (tq.key++[nm]))).map (·.num)).Nodup
  rw[List.map_map];exact I.wks.nums
 ·obtain⟨x,hx,rfl⟩:=xrq.1 hy
  exact I.wks.st x hx
 ·show(((Ws.map (mvW q.key (tq.key++[nm]))).filter fun x=>decide (0<x.st)).map (·.st)).Nodup
  rw[List.filter_map,List.map_map];exact I.wks.sts
end
def movOut(x:Tw)(s s2:Bs):Out :=
 match findKey x.nodes (qaa s),findKey x.nodes (qaa s2) with
 |some q,some tq=>if errMov x.nodes s s2≠0 then x.same (errMov x.nodes s s2)
  else if brkE (x.L.map (mvE q.key (tq.key++[qbv q.key]))) (x.Ws.map (mvW q.key (tq.key++[qbv q.key])))≠0 then x.same (brkE (x.L.map (mvE q.key (tq.key++[qbv q.key]))) (x.Ws.map (mvW q.key (tq.key++[qbv q.key]))))
  else qiu (x.L.map (mvE q.key (tq.key++[qbv q.key]))) x.cnt (qaj (x.L.map (mvE q.key (tq.key++[qbv q.key]))) ⟨x.Ws.map (mvW q.key (tq.key++[qbv q.key])),x.st,[]⟩)
 |_,_=>x.same (errMov x.nodes s s2)
theorem qzg{x:Tw}{s:Bs}(h:errMov x.nodes s s2≠0):movOut x s s2=x.same (errMov x.nodes s s2):=by
 unfold movOut
 split
 ·rw[if_pos h]
 ·rfl
theorem qyn{bt:Nat}(s s2:ByteArray){M:World->Prop}{F:Value->World->Prop}
  (It:Cl 57 #[vP bt,.string s,.string s2] W fun e w'=>e=.returned (vI er)/\M w')
  (xH:∀W1,M W1->Cl 51 #[vP bt,vI er] W1 fun e w'=>∃ev,e=.returned (.tuple #[ev,vI er])/\F ev w') :
  Cl 30 #[vP bt,.string s,.string s2] W fun e w'=>∃ev,e=.returned (.tuple #[ev,vI er])/\F ev w':=by
 go_enter func30,ntmps30
 go_wp2_with (first
  |(go_at_call 57;refine It.mono ?_;rintro e w1 ⟨rfl,hM⟩)
  |(go_at_call 51;refine(xH _ hM).mono ?_;rintro e w2 ⟨ev,rfl,hF⟩))
 exact xrn (v:=.tuple #[ev,vI er]) (by simp[results,results30,go_sem]) rfl ⟨ev,rfl,hF⟩
theorem q1i{τ : Nat->Tag}{t:Nat}{x:Tw}(A:qbj K x)(hE:aL.map Node.ent=x.nodes.map Node.ent)(hS:∀n∈x.nodes,∃n'∈aL,n'.blk=n.blk/\n'.key=n.key/\n'.leaf=n.leaf)(hM:PMid τ t W x.bt aL x.last x.vw x.va x.ws x.as_ w')(err:Int):POut τ t W x.bt (x.same err) v0_ w':=by
 obtain⟨τ',m1,m2,m3,m4⟩:=hM
 refine⟨τ',aL,x.vw,x.va,x.ws,x.as_,m1,m2,?_,?_,?_,xrk _ _ _ _,(fun b hb=>by cases hb),m4⟩
 ·show qb6 τ' t w' x.bt _ x.cnt x.vw x.va x.ws x.as_
  rw[A.cnt];exact m3
 ·show _=x.L
  rw[hE,A.L]
 ·refine⟨m3.pr.tree,A.com.rel.qvh (fun n hn=>by obtain⟨n',h1,h2,h3,_⟩:=hS n hn;exact⟨n',h1,h2,h3⟩),A.com.inv,⟨fun y hy=>?_,A.com.wkl.num⟩,A.com.cnt0⟩
  obtain⟨n,hn,e1,e2⟩:=A.com.wkl.leaf y hy;obtain⟨n',h1,h2,h3,h4⟩:=hS n hn
  exact⟨n',h1,h3.trans e1,h4.trans e2⟩
theorem q3c{τ : Nat->Tag}{t:Nat}{x:Tw}(hP:qb6 τ t W x.bt x.nodes x.last x.vw x.va x.ws x.as_)(A:qbj K x)(s s2:ByteArray)(hs:s.size<=2000000)(cv:s2.size<=2000000):
  Cl 30 #[vP x.bt,.string s,.string s2] W fun e w'=>∃ev,e=.returned (.tuple #[ev,vI (movOut x (bl s) (bl s2)).err])/\POut τ t W x.bt (movOut x (bl s) (bl s2)) ev w':=by
 have T:=hP.pr.tree
 by_cases he:errMov x.nodes (bl s) (bl s2)=0
 ·obtain⟨hv,cZ,q,tq,hf,uE,h1,h2,h3,h4⟩:=qyk he;obtain⟨hq,fc⟩:=qbw hf;obtain⟨ht,kJ⟩:=qbw uE;have pV:q.key≠[]:=by rw[fc];intro e;exact cZ (qxp e)
  obtain⟨p,ks,i,kt,at_,M⟩:=Mv.of T hq ht pV h1 h2 h3 h4;have I':=M.sinv A.com.wkl A.inv;have ec:=q2t hP A.com.rel s s2 hs cv he hf uE M I'.wks.wks rfl;rw[<-A.L]at ec;have ho:movOut x (bl s) (bl s2)=if brkE (x.L.map (mvE q.key (tq.key++[qbv q.key]))) (x.Ws.map (mvW q.key (tq.key++[qbv q.key])))≠0 then x.same (brkE (x.L.map (mvE q.key (tq.key++[qbv q.key]))) (x.Ws.map (mvW q.key (tq.key++[qbv q.key])))) else qiu (x.L.map (mvE q.key (tq.key++[qbv q.key]))) x.cnt (qaj (x.L.map (mvE q.key (tq.key++[qbv q.key]))) ⟨x.Ws.map (mvW q.key (tq.key++[qbv q.key])),x.st,[]⟩):=by
   unfold movOut;simp only[hf,uE];rw[if_neg (by simpa using he)]
  by_cases h5:brkE (x.L.map (mvE q.key (tq.key++[qbv q.key]))) (x.Ws.map (mvW q.key (tq.key++[qbv q.key])))=0
  ·rw[if_neg (by simpa using h5)]at ho;rw[ho]
   refine qyn (M:=fun w'=>∃bm bz,PMid τ t W x.bt (x.nodes.map (gM q p tq (qbv q.key) i bm at_ bz)) x.last x.vw x.va (x.ws.map (mvP q.key (tq.key++[qbv q.key]))) (x.as_.map (mvP q.key (tq.key++[qbv q.key]))) w') s s2 (ec.mono fun e w' h=>?_) (fun W1 hM=>?_)
   ·obtain⟨h6,h7,_⟩:=h;rw[h5]at h6
    exact⟨h6,h7 h5⟩
   ·obtain⟨bm,bz,hM⟩:=hM;obtain⟨τ1,_,_,g3,_⟩:=id hM;obtain⟨r1,_,aa⟩:=g3.bk;have hR:=A.com.rel.qzx q.key (tq.key++[qbv q.key]) aa.lf;have hL:=M.wkl bm bz A.com.wkl;rw[A.cnt]at hL
    have:=qx9 hM hR I' hL (by rw[<-A.cnt];exact A.com.cnt0)
    rw[<-A.cnt,M.ents,<- A.L]at this
    exact this
  ·rw[if_pos h5]at ho;rw[ho]
   refine qyn (M:=fun w'=>∃aL,aL.map Node.ent=x.nodes.map Node.ent/\(∀n∈x.nodes,∃n'∈aL,n'.blk=n.blk/\n'.key=n.key/\n'.leaf=n.leaf)/\PMid τ t W x.bt aL x.last x.vw x.va x.ws x.as_ w') s s2 (ec.mono fun e w' h=>⟨h.1,by have h6:=h.2.2 h5;rw[A.L]at h6;exact h6⟩) (fun W1 hM=>?_)
   obtain⟨aL,e1,e2,hM⟩:=hM
   refine(qgg (w:=W1) (bt:=x.bt) h5).mono ?_
   rintro e w' ⟨rfl,rfl⟩
   exact⟨_,rfl,q1i A e1 e2 hM _⟩
 ·rw[qzg he];obtain⟨r,dN,hb⟩:=hP.bk;obtain⟨hr,bK⟩:=qeh T dN
  refine qyn (M:=fun w'=>Bw W w') s s2 (q2s s s2 he (qxx T hP.pr.qlc hb hr bK s s2 hs cv)) (fun W1 hM=>?_)
  refine(qgg (w:=W1) (bt:=x.bt) he).mono ?_
  rintro e w' ⟨rfl,rfl⟩
  exact⟨_,rfl,qht hP A hM _⟩
end Go.Proofs.YtphclnolomgjoaaGreatDoor
