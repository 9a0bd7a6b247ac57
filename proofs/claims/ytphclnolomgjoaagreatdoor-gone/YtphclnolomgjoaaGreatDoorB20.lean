import Derived.Test.YtphclnolomgjoaaGreatDoorB19
set_option linter.unusedVariables false
set_option linter.unusedSimpArgs false
set_option maxRecDepth 100000
set_option maxHeartbeats 4000000
namespace Go.Proofs.YtphclnolomgjoaaGreatDoor
open Tryz
open Go.RowKit
variable {w w' w1:World}{m n r:Node}{ai c1 c2 c3 ev:Value}{i:Nat}{x y:Wk}{T:Nat->Prop}{a c cnt d last':Int}{aT:SS}{leaf:Bool}{ar:List Node}{fg tu:List Wk}
theorem qqk{nodes:List Node}{bt:Nat}{vw va:Value}{ws as_:List Pw}(h:TwAt w nodes bt r ai vw va ws as_){m:Int}(hf:qgr ws as_ m=(.pointer none,false)):
  Calls prog 55 #[.pointer (some ⟨bt,0,none⟩),.int .i64 m] w fun e w'=>e=.returned (.int .i64 12)/\Below w.heap.size w w':=by
 have aj:=fun W (hW:Below w.heap.size w W)=>qmf (h.below hW).bk m
 rw[hf]at aj;have cD:=h.bk.at_.lt
 go_enter func55,ntmps55
 go_wp2_with (first
  |(go_at_call 46;refine(aj _ ?_).mono ?_;(focus exact bel2);rintro e w1 ⟨rfl,ck⟩;subst ck))
 exact xrn (v:=.int .i64 12) (by simp[results,results55,go_sem]) rfl ⟨rfl,by exact bel2⟩
theorem qql{nodes:List Node}{bt:Nat}{vw va:Value}{ws as_:List Pw}(h:TwAt w nodes bt r ai vw va ws as_){Ws:List Wk}{st:Int}(R:Rel nodes Ws ws as_)(hS:WkS Ws st)(hi:Ws[i]?=some x):
  Calls prog 55 #[.pointer (some ⟨bt,0,none⟩),.int .i64 x.num] w fun e w'=>e=.returned (.int .i64 0)/\∃aI aO an aL,TwAt w' nodes bt r ai aI aO an aL/\Rel nodes (Ws.take i++Ws.drop (i+1)) an aL/\Keep (BkT bt vw va) w w'/\(∀b,aI.ownBlock=some b\/aO.ownBlock=some b->vw.ownBlock=some b\/va.ownBlock=some b)/\(∀p∈an++aL,p∈ws++as_):=by
 obtain⟨p,b,hb,bR⟩:=R.found hS hi;have aj:=fun W (hW:Below w.heap.size w W)=>qmf (h.below hW).bk x.num
 rw[hb]at aj;have aF:∀W,Below w.heap.size w W->Calls prog 83 #[.pointer (some ⟨bt,1,none⟩),nptr p.blk] W fun e w'=>e=.returned (.tuple #[])/\∃aI aO an aL,TwAt w' nodes bt r ai aI aO an aL/\Rel nodes (Ws.take i++Ws.drop (i+1)) an aL/\Keep (BkT bt vw va) W w'/\(∀b,aI.ownBlock=some b\/aO.ownBlock=some b->vw.ownBlock=some b\/va.ownBlock=some b)/\(∀p∈an++aL,p∈ws++as_):=by
  intro W hW
  rcases bR with ⟨j,hj,hR⟩|⟨j,hj,hR⟩
  ·refine(qu8 (h.below hW).bk hj).mono ?_
   rintro e w' ⟨rfl,aI,k1,k2,k3⟩
   have r_:∀q∈(ws.take j++ws.drop (j+1))++as_,q∈ws++as_:=fun q hq=>by
    rcases xri.1 hq with h1|h1
    ·exact xr9 _ (qbl h1)
    ·exact xra _ h1
   refine⟨rfl,aI,va,_,_,(h.below hW).next k1 k2 (fun q hq=>.inl (r_ q hq)),hR,k2,fun b e=>?_,r_⟩
   rw[k3]at e;exact e
  ·refine(qu7 (h.below hW).bk hj).mono ?_
   rintro e w' ⟨rfl,aO,k1,k2,k3⟩
   have r_:∀q∈ws++(as_.take j++as_.drop (j+1)),q∈ws++as_:=fun q hq=>by
    rcases xri.1 hq with h1|h1
    ·exact xr9 _ h1
    ·exact xra _ (qbl h1)
   refine⟨rfl,vw,aO,_,_,(h.below hW).next k1 k2 (fun q hq=>.inl (r_ q hq)),hR,k2,fun b e=>?_,r_⟩
   rw[k3]at e;exact e
 have cD:=h.bk.at_.lt;have aW:=fun W=>qhh (W:=W) (x:=p)
 clear bR;unfold nptr at aj aF
 go_enter func55,ntmps55
 go_wp2_with (first
  |(go_at_call 46;refine(aj _ ?_).mono ?_;(focus exact bel2);rintro e w1 ⟨rfl,ck⟩;subst ck)
  |(go_at_call 83;refine(aF _ ?_).mono ?_;(focus exact bel2);rintro e w2 ⟨rfl,ff,fe,eC,fR,m1,m2,m3,m4,m5⟩))
 exact xrn (v:=.int .i64 0) (by simp[results,results55,go_sem]) rfl ⟨rfl,ff,fe,eC,fR,m1,m2,(Keep.new (by exact bel2)).qbm m3 (fun b hb e=>e),m4,m5⟩
theorem qpw{nodes:List Node}{bt:Nat}{vw va:Value}{ws as_:List Pw}(h:TwAt w nodes bt r ai vw va ws as_){Ws:List Wk}{st:Int}(R:Rel nodes Ws ws as_)(hS:WkS Ws st){m:Int}(hm:∀x∈Ws,x.num≠m):
  Calls prog 28 #[.pointer (some ⟨bt,0,none⟩),.int .i64 m] w fun e w'=>e=.returned (.tuple #[.slice none 0 0,.int .i64 12])/\Below w.heap.size w w':=by
 have aF:=fun W (hW:Below w.heap.size w W)=>qqk (h.below hW) (R.lost hS hm)
 have eJ:=fun W=>qcp (w:=W) (bt:=bt) (x:=12) (by decide)
 have cD:=h.bk.at_.lt
 go_enter func28,ntmps28
 go_wp2_with (first
  |(go_at_call 55;refine(aF _ ?_).mono ?_;(focus exact bel2);rintro e w1 ⟨rfl,aa⟩)
  |(go_at_call 51;refine(eJ _).mono ?_;rintro e w2 ⟨rfl,eG⟩;subst eG))
 exact xrn (v:=.tuple #[.slice none 0 0,.int .i64 12]) (by simp[results,results28,go_sem]) rfl ⟨rfl,qab (by exact bel2) aa⟩
theorem qpx{nodes:List Node}(T0:Tree nodes)(hB:qa1 nodes){bt:Nat}{vw va:Value}{ws as_:List Pw}(h:TwAt w nodes bt r ai vw va ws as_)(hr:r∈nodes)(a_:r.key=[]){Ws:List Wk}{st:Int}(R:Rel nodes Ws ws as_)(I:SInv ⟨Ws,st,[]⟩)(hi:Ws[i]?=some x)(I2:SInv ⟨Ws.take i++Ws.drop (i+1),st,[]⟩):
  Calls prog 28 #[.pointer (some ⟨bt,0,none⟩),.int .i64 x.num] w fun e w'=>∃ev,e=.returned (.tuple #[ev,.int .i64 0])/\SetT nodes bt r ai vw va ws as_ (qal (nodes.map Node.ent) ⟨Ws.take i++Ws.drop (i+1),st,[]⟩) ev w w':=by
 have aF:=fun W (hW:Below w.heap.size w W)=>qql (h.below hW) R I.wks hi
 have eJ:=fun W aI aO an aL (hT:TwAt W nodes bt r ai aI aO an aL) (hR:Rel nodes (Ws.take i++Ws.drop (i+1)) an aL)=>qfc T0 hB hT hr a_ (s0:=⟨Ws.take i++Ws.drop (i+1),st,[]⟩) hR I2 rfl
 generalize qal (nodes.map Node.ent) ⟨Ws.take i++Ws.drop (i+1),st,[]⟩=aT at eJ ⊢;have cD:=h.bk.at_.lt
 go_enter func28,ntmps28
 go_wp2_with (first
  |(go_at_call 55;refine(aF _ ?_).mono ?_;(focus exact bel2);rintro e w1 ⟨rfl,eU,fc,ws1,fh,n1,n2,n3,n4,n5⟩)
  |(go_at_call 51;refine(eJ _ _ _ _ _ n1 n2).mono ?_;rintro e w2 ⟨ff,fe,ei,eC,fR,rfl,m1,m2,m3,m4,m5,m6,m7⟩))
 have qE:Keep (BkT bt vw va) w w1:=(Keep.new (by exact bel2)).qbm n3 (fun b hb e=>e);have dz:=qE.size
 refine xrn (v:=.tuple #[ei,.int .i64 0]) (by simp[results,results28,go_sem]) rfl ⟨ei,rfl,ff,fe,eC,fR,m1,m2,m3,qE.qbm m4 (fun b hb e=>?_),fun b hb=>?_,fun b hb=>Nat.le_trans dz (m6 b hb),fun p hp=>.inl (n5 p (m7 p hp))⟩
 ·rcases e with e|e
  ·exact .inl e
  ·exact .inr (n4 b e)
 ·rcases m5 b hb with e|e|e
  ·exact(n4 b (.inl e)).imp id .inl
  ·exact(n4 b (.inr e)).imp id .inl
  ·exact .inr (.inr (by omega))
structure qa2 (τ : Nat->Tag) (t:Nat) (W:World) (bt:Nat) (nodes:List Node) (last:Int) (vw va:Value) (ws as_:List Pw):Prop where
 pr:qf1 τ t W bt nodes (.int .i64 last) vw va
 bk:∃r,nodes[0]?=some r/\TwAt W nodes bt r (.int .i64 last) vw va ws as_
 wtag:∀b,vw.ownBlock=some b\/va.ownBlock=some b -> τ b=.book t
 ptag:∀p∈ws++as_,τ p.blk=.work t
section
variable {τ τ':Nat->Tag}{t:Nat}{W W':World}{bt:Nat}{nodes:List Node}{last:Int}{vw va:Value}{ws as_:List Pw}
theorem qf1.qdk(h:qf1 τ t W bt nodes c1 c2 c3):qa1 nodes:=fun a ha b hb e=>by
 exact h.binj a ha b hb e
theorem qa2.lts(h:qa2 τ t W bt nodes last vw va ws as_):bt<W.heap.size/\(∀b,vw.ownBlock=some b\/va.ownBlock=some b->b<W.heap.size)/\(∀p∈ws++as_,p.blk<W.heap.size):=by
 obtain⟨r,_,hb⟩:=h.bk
 exact⟨hb.bk.at_.lt,fun b e=>e.elim (fun e=>qap hb.bk.wrow e) (fun e=>qap hb.bk.arow e),fun p hp=>(hb.bk.works p hp).lt⟩
theorem qa2.keep(h:qa2 τ t W bt nodes last vw va ws as_)(k:Keep T W W')(hT:∀b,b<W.heap.size->T b->¬(τ b).prog t)(hτ : ∀b,b<W.heap.size -> τ' b = τ b):qa2 τ' t W' bt nodes last vw va ws as_:=by
 have hp:=h.pr.keep k hT hτ;obtain⟨l1,l2,l3⟩:=h.lts;obtain⟨r,hr,hb⟩:=h.bk
 refine⟨hp,⟨r,hr,hp.ins,?_,hb.lf,hb.nm⟩,fun b e=>by rw[hτ b (l2 b e)];exact h.wtag b e,fun p hq=>by rw[hτ _ (l3 p hq)];exact h.ptag p hq⟩
 exact hb.bk.keep k (fun e=>hT _ l1 e (by rw[h.pr.ttag];rfl)) (fun b e e2=>hT _ (l2 b (.inl e)) e2 (by rw[h.wtag b (.inl e)];rfl)) (fun b e e2=>hT _ (l2 b (.inr e)) e2 (by rw[h.wtag b (.inr e)];rfl)) (fun p hq e2=>hT _ (l3 p hq) e2 (by rw[h.ptag p hq];rfl))
open Classical in
theorem qa2.set(h:qa2 τ t W bt nodes last vw va ws as_)(hr:nodes[0]?=some r)(hs:SetT nodes bt r (.int .i64 last') vw va ws as_ aT ev W W'):
  ∃τ' aI aO an aL,(∀x,x<W.heap.size -> τ' x = τ x)/\(∀x,W.heap.size<=x -> τ' x=.free\/(τ' x).prog t)/\qa2 τ' t W' bt nodes last' aI aO an aL/\Rel nodes aT.Ws an aL/\W'.ownsRow 0 60 2 ev aT.evs.length (qam aT.evs)/\(∀b,ev.ownBlock=some b->W.heap.size<=b /\ τ' b=.free)/\Keep (fun x=>x<W.heap.size/\(τ x).prog t) W W':=by
 obtain⟨aI,aO,an,aL,m1,m2,m3,m4,m5,m6,m7⟩:=hs;obtain⟨l1,l2,l3⟩:=h.lts;obtain⟨τ',gY⟩:∃τ':Nat->Tag,τ'=fun x=>if x<W.heap.size then τ x else if aI.ownBlock=some x\/aO.ownBlock=some x then .book t else if ∃p∈an++aL,p.blk=x then .work t else .free:=⟨_,rfl⟩
 have fr:∀x,x<W.heap.size -> τ' x = τ x:=fun x hx=>by rw[gY];simp[hx]
 have C0:∀p∈an++aL,¬(aI.ownBlock=some p.blk\/aO.ownBlock=some p.blk):=fun p hp e=>by
  rcases e with e|e
  ·exact qah m1.bk.wrow (m1.bk.works p hp) (by decide) e
  ·exact qah m1.bk.arow (m1.bk.works p hp) (by decide) e
 refine⟨τ',aI,aO,an,aL,fr,fun x hx=>?_,⟨⟨h.pr.tree,m1.ins,fun i n hi=>?_,⟨r,hr,m1.bk.at_⟩,?_,h.pr.binj⟩,⟨r,hr,m1⟩,fun b e=>?_,fun p hp=>?_⟩,m3,m2,fun b e=>⟨m6 b e,?_⟩,?_⟩
 ·rw[gY];simp only[Nat.not_lt.2 hx,if_false]
  split
  ·exact .inr rfl
  ·split
   ·exact .inr rfl
   ·exact .inl rfl
 ·obtain⟨t1,t2⟩:=h.pr.tags i n hi;have hn:=h.pr.ins n (xr2 hi)
  exact⟨by rw[fr _ hn.lt];exact t1,fun g hg=>by rw[fr _ (hn.row.lt g hg).2];exact t2 g hg⟩
 ·rw[fr _ l1];exact h.pr.ttag
 ·rcases m5 b e with e2|e2|e2
  ·rw[fr _ (l2 b (.inl e2))];exact h.wtag b (.inl e2)
  ·rw[fr _ (l2 b (.inr e2))];exact h.wtag b (.inr e2)
  ·rw[gY];simp[Nat.not_lt.2 e2,e]
 ·rcases m7 p hp with e|e
  ·rw[fr _ (l3 p e)];exact h.ptag p e
  ·have h1:∃q∈an++aL,q.blk=p.blk:=⟨p,hp,rfl⟩;rw[gY];simp only[Nat.not_lt.2 e,if_false,C0 p hp,if_pos h1]
 ·have h1:¬b<W.heap.size:=Nat.not_lt.2 (m6 b e);have h2:¬(aI.ownBlock=some b\/aO.ownBlock=some b):=fun e2=>by
   rcases e2 with e2|e2
   ·exact qd2 m2 m1.bk.wrow (by decide) e e2
   ·exact qd2 m2 m1.bk.arow (by decide) e e2
  have h3:¬ ∃p∈an++aL,p.blk=b:=fun ⟨p,hp,e2⟩=>by
   subst e2
   exact qah m2 (m1.bk.works p hp) (by decide) e
  rw[gY];simp only[h1,h2,if_false,if_neg h3]
 ·refine(Keep.refl _ W).qbm m4 (fun x hx e=>⟨hx,?_⟩)
  rcases e with e|e|e
  ·rw[e,h.pr.ttag];rfl
  ·rw[h.wtag x (.inl e)];rfl
  ·rw[h.wtag x (.inr e)];rfl
theorem qa2.hung(h:qa2 τ t W bt nodes last vw va ws as_)(kK:Below W.heap.size W w){q:Nat}(hq:W.heap.size<=q){s:Bs}{b:Int}
  (hv:qar s=true) (hd:qep s<=4) (ef:(0<=a/\a<=1000)/\(0<=b/\b<=1000)/\(0<=c/\c<=1000)/\(0<=d/\d<=1000)/\(leaf=false->a=0/\b=0))
  (hp:qkx nodes q s leaf a b c d w w') :
  ∃τ' ar,(∀x,x<W.heap.size -> τ' x = τ x)/\(∀x,W.heap.size<=x -> τ' x=.free\/(τ' x).prog t)/\qa2 τ' t w' bt ar last vw va ws as_/\ar.map Node.ent=nodes.map Node.ent++[⟨qac s,leaf,a,b,c,d⟩] /\
   Keep (fun x=>x<W.heap.size/\(τ x).prog t) W w'/\(∀n∈nodes,∃n'∈ar,n'.blk=n.blk/\n'.key=n.key):=by
 obtain⟨τ',ar,g1,g2,g3,g4,g5,g6,g7⟩:=h.pr.hung kK hq hv hd ef hp;obtain⟨l1,l2,l3⟩:=h.lts;obtain⟨r,hr,hb⟩:=h.bk;obtain⟨r',pW,bJ⟩:=g3.tow
 refine⟨τ',ar,g1,g2,⟨g3,⟨r',pW,g3.ins,⟨bJ,?_,?_,?_,hb.bk.sep,hb.bk.nd,hb.bk.inj,hb.bk.len⟩,fun p hp=>?_,hb.nm⟩,fun b e=>by rw[g1 b (l2 b e)];exact h.wtag b e,fun p hq=>by rw[g1 _ (l3 p hq)];exact h.ptag p hq⟩,g4,(Keep.refl _ W).qbm g5 (fun x hx e=>⟨hx,?_⟩),g6⟩
 ·exact qaf hb.bk.wrow g5 (fun g hg e=>by have:=e.2.1;rw[h.wtag g (.inl hg)]at this;simp at this)
 ·exact qaf hb.bk.arow g5 (fun g hg e=>by have:=e.2.1;rw[h.wtag g (.inr hg)]at this;simp at this)
 ·exact fun p hp=>(hb.bk.works p hp).keep g5 (fun e=>by have:=e.2.1;rw[h.ptag p hp]at this;simp at this)
 ·obtain⟨n,hn,e1,e2⟩:=hb.lf p hp;obtain⟨n',dp,f1,f2⟩:=g6 n hn
  exact⟨n',dp,f1.trans e1,f2.trans e2⟩
 ·obtain⟨_,e1,e2⟩:=e;generalize τ x=y at e1 e2;obtain⟨k,t',i⟩:=y
  simp only at e1 e2
  rcases e1 with e1|e1<;>subst e1<;>exact e2
theorem Rel.qlp{nodes:List Node}{Ws:List Wk}{ws as_:List Pw}(R:Rel nodes Ws ws as_)(h:∀n∈nodes,∃n'∈ar,n'.blk=n.blk/\n'.key=n.key):Rel ar Ws ws as_ :=
 ⟨R.w,R.a,fun p hp=>by
  obtain⟨n,hn,e1,e2⟩:=R.leaf p hp;obtain⟨n',dp,f1,f2⟩:=h n hn
  exact⟨n',dp,f1.trans e1,f2.trans e2⟩⟩
end
def qjp (τ : Nat->Tag)(t:Nat)(W:World)(bt:Nat)(nodes:List Node)(last:Int)(Ws:List Wk)(st:Int)(err:Int)(x:Ent)(e:Ending)(w':World):Prop :=
 (err≠0/\e=.returned (.tuple #[.slice none 0 0,.int .i64 err])/\Below W.heap.size W w') \/
 (err=0/\∃τ' ar aI aO an aL ev,e=.returned (.tuple #[ev,.int .i64 0])/\(∀b,b<W.heap.size -> τ' b = τ b)/\(∀b,W.heap.size<=b -> τ' b=.free\/(τ' b).prog t)/\qa2 τ' t w' bt ar last aI aO an aL /\
  ar.map Node.ent=nodes.map Node.ent++[x]/\Rel ar (qal (nodes.map Node.ent++[x]) ⟨Ws,st,[]⟩).Ws an aL/\w'.ownsRow 0 60 2 ev (qal (nodes.map Node.ent++[x]) ⟨Ws,st,[]⟩).evs.length (qam (qal (nodes.map Node.ent++[x]) ⟨Ws,st,[]⟩).evs)/\(∀b,ev.ownBlock=some b->W.heap.size<=b /\ τ' b=.free)/\Keep (fun b=>b<W.heap.size/\(τ b).prog t) W w')
def qky (τ : Nat->Tag)(t:Nat)(W:World)(bt:Nat)(nodes:List Node)(last:Int)(vw va:Value)(ws as_:List Pw)(Ws:List Wk)(x:Ent)(w':World):Prop :=
 ∃τ' ar,(∀b,b<W.heap.size -> τ' b = τ b)/\(∀b,W.heap.size<=b -> τ' b=.free\/(τ' b).prog t)/\qa2 τ' t w' bt ar last vw va ws as_/\ar.map Node.ent=nodes.map Node.ent++[x]/\Rel ar Ws ws as_/\Keep (fun b=>b<W.heap.size/\(τ b).prog t) W w'
section
variable {τ : Nat->Tag}{t:Nat}{W:World}{bt:Nat}{nodes:List Node}{last:Int}{vw va:Value}{ws as_:List Pw}{Ws:List Wk}{st:Int}
theorem qbp{nodes:List Node}(T:Tree nodes)(h:nodes[0]?=some r):r∈nodes/\r.key=[]:=by
 obtain⟨r',h1,h2,_⟩:=T.root;rw[h]at h1;cases h1
 exact⟨xr2 h,h2⟩
theorem qmm{x:Ent}(h:qky τ t W bt nodes last vw va ws as_ Ws x w1)(I:SInv ⟨Ws,st,[]⟩):
  Calls prog 51 #[.pointer (some ⟨bt,0,none⟩),.int .i64 0] w1 fun e w'=>qjp τ t W bt nodes last Ws st 0 x e w':=by
 obtain⟨τ1,jj,g1,g2,g3,g4,g5,g6⟩:=h;obtain⟨r,hr,nz⟩:=g3.bk;obtain⟨eF,a_⟩:=qbp g3.pr.tree hr
 refine(qfc g3.pr.tree g3.pr.qdk nz eF a_ (s0:=⟨Ws,st,[]⟩) g5 I rfl).mono ?_
 rintro e w' ⟨ff,fe,ei,eC,fR,rfl,m1,m2,m3,m4,m5,m6,m7⟩
 obtain⟨τ2,kv,mw,gB,jl,k1,k2,k3,k4,k5,k6,k7⟩:=g3.set hr (last':=last) (ev:=ei) ⟨ff,fe,eC,fR,m1,m2,m3,m4,m5,m6,fun p hp=>.inl (m7 p hp)⟩;have hz:=g6.size;rw[g4]at k4 k5
 refine .inr ⟨rfl,τ2,jj,kv,mw,gB,jl,ei,rfl,fun b hb=>(k1 b (by omega)).trans (g1 b hb),fun b hb=>?_,k3,g4,k4,k5,fun b hb=>⟨by have:=(k6 b hb).1;omega,(k6 b hb).2⟩,g6.qbm k7 (fun b hb e=>⟨hb,by have:=e.2;rw[g1 b hb]at this;exact this⟩)⟩
 by_cases aa:b<w1.heap.size
 ·rw[k1 b aa];exact g2 b hb
 ·exact k2 b (by omega)
theorem qyu(h:qa2 τ t W bt nodes last vw va ws as_)(R:Rel nodes Ws ws as_)(hW:Below W.heap.size W w)(s:ByteArray)(hs:s.size<=2000000)(vb cp:Nat)(l:List (Int×Int))(hl:l.length<=100)(hb:vb<w.heap.size)
  (hc:∀(j:Nat) (x:Int×Int),l[j]?=some x->w.cell? ⟨vb,j*2,none⟩=some (.int .i64 x.1)/\w.cell? ⟨vb,j*2+1,none⟩=some (.int .i64 x.2))
  (q:Nat) (hq:W.heap.size<=q) (leaf:Bool) (a b c d:Int) (jo:Blk w q 136 #[.string ⟨#[]⟩,.bool leaf,.int .i64 a,.int .i64 b,.int .i64 c,.int .i64 d,.pointer none,.slice none 0 0])
  (ef:qbj l=true->(0<=a/\a<=1000)/\(0<=b/\b<=1000)/\(0<=c/\c<=1000)/\(0<=d/\d<=1000)/\(leaf=false->a=0/\b=0)) :
  Calls prog 52 #[.pointer (some ⟨bt,0,none⟩),.string s,.pointer (some ⟨q,0,none⟩),.slice (some ⟨vb,0,none⟩) l.length cp] w fun e w'=>e=.returned (.int .i64 (qbo nodes (bl s) (qbj l)))/\(qbo nodes (bl s) (qbj l)≠0->Below W.heap.size W w')/\(qbo nodes (bl s) (qbj l)=0->qky τ t W bt nodes last vw va ws as_ Ws ⟨qac (bl s),leaf,a,b,c,d⟩ w')/\Keep (fun x=>x<W.heap.size\/x=q) w w':=by
 obtain⟨r,eT,nz⟩:=h.bk;obtain⟨hr,a_⟩:=qbp h.pr.tree eT;have cQ:w.cell? ⟨bt,0,none⟩=some (nptr r.blk):=(nz.below hW).bk.at_.cell 0
 refine(qvc h.pr.tree w (fun n hn=>(h.pr.ins n hn).below hW) hr a_ bt cQ s hs vb cp l hl hb hc q leaf a b c d jo (fun n hn=>?_)).mono ?_
 ·obtain⟨i,hi⟩:=xre hn;obtain⟨t1,t2⟩:=h.pr.tags i n hi
  refine⟨fun e=>by have:=(h.pr.ins n hn).lt;omega,fun e=>by have:=((h.pr.ins n hn).row.lt _ e).2;omega,fun e=>by have:=t2 _ e;rw[t1]at this;cases this⟩
 ·rintro e w' (⟨h1,rfl,bZ⟩|⟨h1,rfl,hp⟩)
  ·exact⟨rfl,fun _=>qab hW bZ,fun e=>absurd e h1,Keep.new bZ⟩
  ·obtain⟨hv,h0,cg,hd,_⟩:=qit h1;obtain⟨τ',ar,g1,g2,g3,g4,g5,g6⟩:=h.hung hW hq hv hd (ef cg) hp
   refine⟨by rw[h1],fun e=>absurd h1 e,fun _=>⟨τ',ar,g1,g2,g3,g4,R.qlp g6,g5⟩,?_⟩
   obtain⟨p,nm,ks,at_,sl,h3,_,_,_,_,h2⟩:=hp.ex
   refine h2.keep.mono (fun x hx=>?_)
   have hn:=h.pr.ins p h3
   rcases hx with rfl|rfl|e
   ·exact .inl hn.lt
   ·exact .inr rfl
   ·exact .inl (hn.row.lt _ e).2
end
theorem qjp.ret{τ : Nat->Tag}{t:Nat}{W:World}{bt:Nat}{nodes:List Node}{last:Int}{Ws:List Wk}{st:Int}{x:Ent}{e:Ending}(h:qjp τ t W bt nodes last Ws st 0 x e w'):∃ev,e=.returned (.tuple #[ev,.int .i64 0]):=by
 rcases h with ⟨h,_⟩|⟨_,_,_,_,_,_,_,ev,h,_⟩
 ·exact absurd rfl h
 ·exact⟨ev,h⟩
theorem qxg{τ : Nat->Tag}{t:Nat}{W:World}{bt:Nat}{nodes:List Node}{last:Int}{vw va:Value}{ws as_:List Pw}{Ws:List Wk}{st:Int}(h:qa2 τ t W bt nodes last vw va ws as_)(R:Rel nodes Ws ws as_)(I:SInv ⟨Ws,st,[]⟩)(s:ByteArray)(hs:s.size<=2000000)(c d:Int):
  Calls prog 27 #[.pointer (some ⟨bt,0,none⟩),.string s,.agg #[.int .i64 c,.int .i64 d]] W
   (qjp τ t W bt nodes last Ws st (qbo nodes (bl s) (qbj [(c,d)])) ⟨qac (bl s),false,0,0,c,d⟩):=by
 have aJ:∀W',Below W.heap.size W W'->∀q vb,W.heap.size<=q->Blk W' q 136 #[.string ⟨#[]⟩,.bool false,.int .i64 0,.int .i64 0,.int .i64 c,.int .i64 d,.pointer none,.slice none 0 0]->Blk W' vb 35 #[.int .i64 c,.int .i64 d] ->
   Calls prog 52 #[.pointer (some ⟨bt,0,none⟩),.string s,.pointer (some ⟨q,0,none⟩),.slice (some ⟨vb,0,none⟩) 1 1] W' fun e w'=>e=.returned (.int .i64 (qbo nodes (bl s) (qbj [(c,d)])))/\(qbo nodes (bl s) (qbj [(c,d)])≠0->Below W.heap.size W w')/\(qbo nodes (bl s) (qbj [(c,d)])=0->qky τ t W bt nodes last vw va ws as_ Ws ⟨qac (bl s),false,0,0,c,d⟩ w')/\Keep (fun x=>x<W.heap.size\/x=q) W' w':=by
  intro W' hW q vb hq jo iq
  refine qyu h R hW s hs vb 1 [(c,d)] (by simp) iq.lt (fun j x hx=>?_) q hq false 0 0 c d jo (fun cg=>by simp[qbj,qao]at cg;exact⟨by omega,by omega,by omega,by omega,fun _=>⟨rfl,rfl⟩⟩)
  cases j with
  |zero=>simp at hx;subst hx;have c0:=iq.cell 0;have c1:=iq.cell 1;simp at c0 c1;exact⟨c0,c1⟩
  |succ j=>simp at hx
 have ez:=fun w1 (h1:qky τ t W bt nodes last vw va ws as_ Ws ⟨qac (bl s),false,0,0,c,d⟩ w1)=>(qmm (st:=st) h1 I).mono (R':=fun e w'=>∃ev,e=.returned (.tuple #[ev,.int .i64 0])/\qjp τ t W bt nodes last Ws st 0 ⟨qac (bl s),false,0,0,c,d⟩ (.returned (.tuple #[ev,.int .i64 0])) w') (fun e w' hm=>by obtain⟨ev,rfl⟩:=hm.ret;exact⟨ev,rfl,hm⟩)
 generalize (⟨qac (bl s),false,0,0,c,d⟩:Ent)=X at *;generalize qbo nodes (bl s) (qbj [(c,d)])=E at aJ ⊢;have cD:=h.lts.1;clear h R I
 by_cases hE:E=0
 ·subst hE;simp only[ne_eq,not_true_eq_false,false_implies,true_and,forall_const]at aJ;generalize qky τ t W bt nodes last vw va ws as_ Ws X=HU at aJ ez;generalize qjp τ t W bt nodes last Ws st 0 X=MA at ez ⊢
  go_enter func27,ntmps27
  go_wp2
  go_region_with (first
   |(go_at_call 54;refine(qe3 _ _ _).mono ?_;rintro e w1 ⟨rfl,ck⟩;subst ck)
   |(go_at_call 52;refine Calls.mono (aJ _ ?_ _ _ ?_ ?_ ?_) ?_;(focus exact bel1);(focus (first|omega|(simp<;>omega)));(focus exact blk1);(focus exact blk1);rintro e w3 ⟨rfl,hM,eH⟩)
   |(go_at_call 51;refine(ez _ hM).mono ?_;rintro e w4 ⟨ev,rfl,vh⟩))
  all_goals go_wp2
  all_goals exact xrn (v:=.tuple #[ev,.int .i64 0]) (by simp[results,results27,go_sem]) rfl vh
 ·have o8:∀W',Below W.heap.size W W'->∀q vb,W.heap.size<=q->Blk W' q 136 #[.string ⟨#[]⟩,.bool false,.int .i64 0,.int .i64 0,.int .i64 c,.int .i64 d,.pointer none,.slice none 0 0]->Blk W' vb 35 #[.int .i64 c,.int .i64 d] ->
    Calls prog 52 #[.pointer (some ⟨bt,0,none⟩),.string s,.pointer (some ⟨q,0,none⟩),.slice (some ⟨vb,0,none⟩) 1 1] W' fun e w'=>e=.returned (.int .i64 E)/\Below W.heap.size W w':=fun W' h1 q vb h2 h3 h4=>(aJ W' h1 q vb h2 h3 h4).mono (fun e w' hm=>⟨hm.1,hm.2.1 hE⟩)
  have eJ:=fun w=>qcp (w:=w) (bt:=bt) hE
  clear aJ ez
  go_enter func27,ntmps27
  go_wp2
  go_region_with (first
   |(go_at_call 54;refine(qe3 _ _ _).mono ?_;rintro e w1 ⟨rfl,ck⟩;subst ck)
   |(go_at_call 52;refine Calls.mono (o8 _ ?_ _ _ ?_ ?_ ?_) ?_;(focus exact bel1);(focus (first|omega|(simp<;>omega)));(focus exact blk1);(focus exact blk1);rintro e w3 ⟨rfl,hM⟩)
   |(go_at_call 51;refine(eJ _).mono ?_;rintro e w4 ⟨rfl,lK⟩;subst lK))
  all_goals go_wp2
  all_goals exact xrn (v:=.tuple #[.slice none 0 0,.int .i64 E]) (by simp[results,results27,go_sem]) rfl (.inl ⟨hE,rfl,by exact bel2⟩)
theorem qlc{τ : Nat->Tag}{t:Nat}{W:World}{bt:Nat}{nodes:List Node}{last:Int}{vw va:Value}{ws as_:List Pw}{Ws:List Wk}{st:Int}{x:Ent}(hl:bt<W.heap.size/\(∀b,vw.ownBlock=some b\/va.ownBlock=some b->b<W.heap.size))(h:qky τ t W bt nodes last vw va ws as_ Ws x w1)(I:SInv ⟨Ws,st,[]⟩):
  Calls prog 51 #[.pointer (some ⟨bt,0,none⟩),.int .i64 0] w1 fun e w'=>∃ev,e=.returned (.tuple #[ev,.int .i64 0])/\qjp τ t W bt nodes last Ws st 0 x (.returned (.tuple #[ev,.int .i64 0])) w'/\Keep (fun b=>b<W.heap.size) w1 w':=by
 obtain⟨τ1,jj,g1,g2,g3,g4,g5,g6⟩:=h;obtain⟨r,hr,nz⟩:=g3.bk;obtain⟨eF,a_⟩:=qbp g3.pr.tree hr
 refine(qfc g3.pr.tree g3.pr.qdk nz eF a_ (s0:=⟨Ws,st,[]⟩) g5 I rfl).mono ?_
 rintro e w' ⟨ff,fe,ei,eC,fR,rfl,m1,m2,m3,m4,m5,m6,m7⟩
 obtain⟨τ2,kv,mw,gB,jl,k1,k2,k3,k4,k5,k6,k7⟩:=g3.set hr (last':=last) (ev:=ei) ⟨ff,fe,eC,fR,m1,m2,m3,m4,m5,m6,fun p hp=>.inl (m7 p hp)⟩;have hz:=g6.size;rw[g4]at k4 k5
 refine⟨ei,rfl,.inr ⟨rfl,τ2,jj,kv,mw,gB,jl,ei,rfl,fun b hb=>(k1 b (by omega)).trans (g1 b hb),fun b hb=>?_,k3,g4,k4,k5,fun b hb=>⟨by have:=(k6 b hb).1;omega,(k6 b hb).2⟩,g6.qbm k7 (fun b hb e=>⟨hb,by have:=e.2;rw[g1 b hb]at this;exact this⟩)⟩,m4.mono (fun x hx=>?_)⟩
 ·by_cases aa:b<w1.heap.size
  ·rw[k1 b aa];exact g2 b hb
  ·exact k2 b (by omega)
 ·rcases hx with e|e|e
  ·rw[e];exact hl.1
  ·exact hl.2 x (.inl e)
  ·exact hl.2 x (.inr e)
theorem q0q{τ : Nat->Tag}{t:Nat}{W:World}{bt:Nat}{nodes:List Node}{last:Int}{vw va:Value}{ws as_:List Pw}{Ws:List Wk}{st:Int}(h:qa2 τ t W bt nodes last vw va ws as_)(R:Rel nodes Ws ws as_)(I:SInv ⟨Ws,st,[]⟩)(s:ByteArray)(hs:s.size<=2000000)(a b c d:Int):
  Calls prog 26 #[.pointer (some ⟨bt,0,none⟩),.string s,.agg #[.int .i64 a,.int .i64 b],.agg #[.int .i64 c,.int .i64 d]] W
   (qjp τ t W bt nodes last Ws st (qbo nodes (bl s) (qbj [(a,b),(c,d)])) ⟨qac (bl s),true,a,b,c,d⟩):=by
 have aJ:∀W',Below W.heap.size W W'->∀q vb,W.heap.size<=q->Blk W' q 136 #[.string ⟨#[]⟩,.bool true,.int .i64 a,.int .i64 b,.int .i64 c,.int .i64 d,.pointer none,.slice none 0 0]->Blk W' vb 35 #[.int .i64 a,.int .i64 b,.int .i64 c,.int .i64 d] ->
   Calls prog 52 #[.pointer (some ⟨bt,0,none⟩),.string s,.pointer (some ⟨q,0,none⟩),.slice (some ⟨vb,0,none⟩) 2 2] W' fun e w'=>e=.returned (.int .i64 (qbo nodes (bl s) (qbj [(a,b),(c,d)])))/\(qbo nodes (bl s) (qbj [(a,b),(c,d)])≠0->Below W.heap.size W w')/\(qbo nodes (bl s) (qbj [(a,b),(c,d)])=0->qky τ t W bt nodes last vw va ws as_ Ws ⟨qac (bl s),true,a,b,c,d⟩ w')/\Keep (fun x=>x<W.heap.size\/x=q) W' w':=by
  intro W' hW q vb hq jo iq
  refine qyu h R hW s hs vb 2 [(a,b),(c,d)] (by simp) iq.lt (fun j x hx=>?_) q hq true a b c d jo (fun cg=>by simp[qbj,qao]at cg;exact⟨by omega,by omega,by omega,by omega,fun h=>by cases h⟩)
  cases j with
  |zero=>simp at hx;subst hx;have c0:=iq.cell 0;have c1:=iq.cell 1;simp at c0 c1;exact⟨c0,c1⟩
  |succ j =>
   cases j with
   |zero=>simp at hx;subst hx;have c0:=iq.cell 2;have c1:=iq.cell 3;simp at c0 c1;exact⟨c0,c1⟩
   |succ j=>simp at hx
 have cn:∀W',Below W.heap.size W W'->W.heap.size+2<=W'.heap.size->Calls prog 53 #[.agg #[.int .i64 a,.int .i64 b],.agg #[.int .i64 c,.int .i64 d]] W' fun e w'=>∃q,e=.returned (.pointer (some ⟨q,0,none⟩))/\Below W'.heap.size W' w'/\W.heap.size+2<=q/\Blk w' q 136 #[.string ⟨#[]⟩,.bool true,.int .i64 a,.int .i64 b,.int .i64 c,.int .i64 d,.pointer none,.slice none 0 0]:=by
  intro W' hW h2
  refine(qof _ _ _ _ _).mono ?_
  rintro e w1 ⟨rfl,rfl⟩
  have:=hW.size
  exact⟨_,rfl,by exact bel2,by omega,by exact blk2⟩
 have ez:=fun w1 (h1:qky τ t W bt nodes last vw va ws as_ Ws ⟨qac (bl s),true,a,b,c,d⟩ w1)=>qlc (st:=st) ⟨h.lts.1,h.lts.2.1⟩ h1 I
 generalize (⟨qac (bl s),true,a,b,c,d⟩:Ent)=X at *;generalize qbo nodes (bl s) (qbj [(a,b),(c,d)])=E at aJ ⊢;have cD:=h.lts.1;clear h R I;have nE:Blk ((W.alloc (.cells #[.int .i64 a,.int .i64 b] 35)).alloc (.cells #[.int .i64 c,.int .i64 d] 35)) W.heap.size 35 #[.int .i64 a,.int .i64 b]:=by exact blk2
 have nF:Blk ((W.alloc (.cells #[.int .i64 a,.int .i64 b] 35)).alloc (.cells #[.int .i64 c,.int .i64 d] 35)) (W.heap.size+1) 35 #[.int .i64 c,.int .i64 d]:=Blk.new' (by simp);have bj:Below W.heap.size W ((W.alloc (.cells #[.int .i64 a,.int .i64 b] 35)).alloc (.cells #[.int .i64 c,.int .i64 d] 35)):=by exact bel2
 by_cases hE:E=0
 ·subst hE;simp only[ne_eq,not_true_eq_false,false_implies,true_and,forall_const]at aJ;generalize qky τ t W bt nodes last vw va ws as_ Ws X=HU at aJ ez;generalize qjp τ t W bt nodes last Ws st 0 X=MA at ez ⊢
  go_enter func26,ntmps26
  go_upto_region 1 with fail
  generalize ((W.alloc (.cells #[.int .i64 a,.int .i64 b] 35)).alloc (.cells #[.int .i64 c,.int .i64 d] 35))=W0 at nE nF bj ⊢;have d0:=nE.cell 0;have d1:=nE.cell 1;have e0:=nF.cell 0;have e1:=nF.cell 1;have l6:=nE.lt;have l7:=nF.lt;have fM:=bj.size;simp only[xq0,xq1,xq2]at d0 d1 e0 e1;have n6:¬(W.heap.size=W0.heap.size):=by omega
  have n7:¬(W.heap.size+1=W0.heap.size):=by omega
  go_region_held3 (fun w'=>w'.cell? ⟨W.heap.size,0,none⟩=some (.int .i64 a)/\w'.cell? ⟨W.heap.size,1,none⟩=some (.int .i64 b)/\w'.cell? ⟨W.heap.size+1,0,none⟩=some (.int .i64 c)/\w'.cell? ⟨W.heap.size+1,1,none⟩=some (.int .i64 d)) (go_keep)
   (first
   |(go_at_call 53;refine(cn _ ?_ ?_).mono ?_;(focus exact bel2);(focus (first|omega|(simp<;>omega)));rintro e w1 ⟨q,rfl,aa,hq,bq⟩;have au:Below W.heap.size W w1:=qab (by exact bel2) aa;have ig:Blk w1 W.heap.size 35 #[.int .i64 a,.int .i64 b]:=Blk.below (by exact blk2) aa (by first|omega|(simp<;>omega));have fN:Blk w1 (W.heap.size+1) 35 #[.int .i64 c,.int .i64 d]:=Blk.below (by exact blk2) aa (by first|omega|(simp<;>omega));have f0:=ig.cell 0;have f1:=ig.cell 1;have g0:=fN.cell 0;have g1:=fN.cell 1;have sR:=ig.lt;have xC:=fN.lt;have CY:¬(W.heap.size=w1.heap.size):=(by omega);have CZ:¬(W.heap.size+1=w1.heap.size):=(by omega);simp only[xq0,xq1,xq2]at f0 f1 g0 g1;(try (have Ay:Blk w1 W0.heap.size 35 #[.int .i64 a,.int .i64 b,.int .i64 c,.int .i64 d]:=Blk.below (by first|(with_reducible exact Blk.new' (by simp))|(with_reducible exact Blk.drew (Blk.new' (by simp)))) aa (by simp))))
   |(go_at_call 52;refine Calls.mono (aJ _ ?_ _ _ ?_ ?_ ?_) ?_;(focus exact bel2);(focus omega);(focus exact blk2);(focus exact blk2);rintro e w3 ⟨rfl,hM,eH⟩;have mA:Blk w3 W.heap.size 35 #[.int .i64 a,.int .i64 b]:=Blk.keep (by exact blk2) eH (by omega);have ij:Blk w3 (W.heap.size+1) 35 #[.int .i64 c,.int .i64 d]:=Blk.keep (by exact blk2) eH (by omega);have u0:=mA.cell 0;have u1:=mA.cell 1;have v0:=ij.cell 0;have v1:=ij.cell 1;simp only[xq0,xq1,xq2]at u0 u1 v0 v1)
   |(go_at_call 51;refine(ez _ hM).mono ?_;rintro e w4 ⟨ev,rfl,vh,lZ⟩;have yi:Blk w4 W.heap.size 35 #[.int .i64 a,.int .i64 b]:=Blk.keep (by exact blk2) lZ (by omega);have yj:Blk w4 (W.heap.size+1) 35 #[.int .i64 c,.int .i64 d]:=Blk.keep (by exact blk2) lZ (by omega);have x0:=yi.cell 0;have x1:=yi.cell 1;have y0:=yj.cell 0;have y1:=yj.cell 1;simp only[xq0,xq1,xq2]at x0 x1 y0 y1))
  all_goals go_wp2
  all_goals exact vh
 ·replace aJ:∀W',Below W.heap.size W W'->∀q vb,W.heap.size<=q->Blk W' q 136 #[.string ⟨#[]⟩,.bool true,.int .i64 a,.int .i64 b,.int .i64 c,.int .i64 d,.pointer none,.slice none 0 0]->Blk W' vb 35 #[.int .i64 a,.int .i64 b,.int .i64 c,.int .i64 d] ->
    Calls prog 52 #[.pointer (some ⟨bt,0,none⟩),.string s,.pointer (some ⟨q,0,none⟩),.slice (some ⟨vb,0,none⟩) 2 2] W' fun e w'=>e=.returned (.int .i64 E)/\Below W.heap.size W w'/\Keep (fun x=>x<W.heap.size\/x=q) W' w':=fun W' h1 q vb h2 h3 h4=>(aJ W' h1 q vb h2 h3 h4).mono (fun e w' hm=>⟨hm.1,hm.2.1 hE,hm.2.2.2⟩)
  have eJ:=fun w=>qcp (w:=w) (bt:=bt) hE
  clear ez
  go_enter func26,ntmps26
  go_upto_region 1 with fail
  generalize ((W.alloc (.cells #[.int .i64 a,.int .i64 b] 35)).alloc (.cells #[.int .i64 c,.int .i64 d] 35))=W0 at nE nF bj ⊢;have d0:=nE.cell 0;have d1:=nE.cell 1;have e0:=nF.cell 0;have e1:=nF.cell 1;have l6:=nE.lt;have l7:=nF.lt;have fM:=bj.size;simp only[xq0,xq1,xq2]at d0 d1 e0 e1;have n6:¬(W.heap.size=W0.heap.size):=by omega
  have n7:¬(W.heap.size+1=W0.heap.size):=by omega
  go_region_held3 (fun w'=>w'.cell? ⟨W.heap.size,0,none⟩=some (.int .i64 a)/\w'.cell? ⟨W.heap.size,1,none⟩=some (.int .i64 b)/\w'.cell? ⟨W.heap.size+1,0,none⟩=some (.int .i64 c)/\w'.cell? ⟨W.heap.size+1,1,none⟩=some (.int .i64 d)) (go_keep)
   (first
   |(go_at_call 53;refine(cn _ ?_ ?_).mono ?_;(focus exact bel2);(focus (first|omega|(simp<;>omega)));rintro e w1 ⟨q,rfl,aa,hq,bq⟩;have au:Below W.heap.size W w1:=qab (by exact bel2) aa;have ig:Blk w1 W.heap.size 35 #[.int .i64 a,.int .i64 b]:=Blk.below (by exact blk2) aa (by first|omega|(simp<;>omega));have fN:Blk w1 (W.heap.size+1) 35 #[.int .i64 c,.int .i64 d]:=Blk.below (by exact blk2) aa (by first|omega|(simp<;>omega));have f0:=ig.cell 0;have f1:=ig.cell 1;have g0:=fN.cell 0;have g1:=fN.cell 1;have sR:=ig.lt;have xC:=fN.lt;have CY:¬(W.heap.size=w1.heap.size):=(by omega);have CZ:¬(W.heap.size+1=w1.heap.size):=(by omega);simp only[xq0,xq1,xq2]at f0 f1 g0 g1;(try (have Ay:Blk w1 W0.heap.size 35 #[.int .i64 a,.int .i64 b,.int .i64 c,.int .i64 d]:=Blk.below (by first|(with_reducible exact Blk.new' (by simp))|(with_reducible exact Blk.drew (Blk.new' (by simp)))) aa (by simp))))
   |(go_at_call 52;refine Calls.mono (aJ _ ?_ _ _ ?_ ?_ ?_) ?_;(focus exact bel2);(focus omega);(focus exact blk2);(focus exact blk2);rintro e w3 ⟨rfl,hM,eH⟩;have mA:Blk w3 W.heap.size 35 #[.int .i64 a,.int .i64 b]:=Blk.keep (by exact blk2) eH (by omega);have ij:Blk w3 (W.heap.size+1) 35 #[.int .i64 c,.int .i64 d]:=Blk.keep (by exact blk2) eH (by omega);have u0:=mA.cell 0;have u1:=mA.cell 1;have v0:=ij.cell 0;have v1:=ij.cell 1;simp only[xq0,xq1,xq2]at u0 u1 v0 v1)
   |(go_at_call 51;refine(eJ _).mono ?_;rintro e w4 ⟨rfl,lK⟩;subst lK))
  all_goals go_wp2
  all_goals exact xrn (v:=.tuple #[.slice none 0 0,.int .i64 E]) (by simp[results,results26,go_sem]) rfl (.inl ⟨hE,rfl,hM⟩)
theorem Rel.length{nodes:List Node}{Ws:List Wk}{ws as_:List Pw}(R:Rel nodes Ws ws as_){st:Int}(hS:WkS Ws st):ws.length+as_.length=Ws.length:=by
 have:=(R.nums (fun x hx=>(hS.st x hx).1)).length_eq
 simpa using this
theorem qnv{nodes:List Node}{Ws:List Wk}{ws as_:List Pw}(R:Rel nodes Ws ws as_){st:Int}(hS:WkS Ws st)(s:Bs)(ok:Bool):qfd nodes (ws.length+as_.length) s ok=errS (nodes.map Node.ent) Ws s ok:=by
 unfold qfd errS;rw[R.length hS,qb4]
 cases findKey nodes (qac s) with
 |none=>rfl
 |some n=>rfl
theorem qif{nodes:List Node}(T:Tree nodes)(hm:m∈nodes)(hl:m.leaf=true):∀(j:Nat) (n:Node),n∈nodes->n.key.length=j->m.key <+: n.key->m.key=n.key:=by
 intro j
 induction j with
 |zero =>
  intro n hn hj hp;have h0:n.key=[]:=List.eq_nil_of_length_eq_zero hj;rw[h0]at hp ⊢
  exact List.prefix_nil.1 hp
 |succ j ih =>
  intro n hn hj hp
  rcases List.eq_nil_or_concat n.key with h0|⟨k,x,hk⟩
  ·rw[h0]at hj;cases hj
  ·rw[List.concat_eq_append]at hk;obtain⟨pp,h1,h2,h3,h4⟩:=T.par n hn k x hk;rw[hk]at hp ⊢
   rcases List.prefix_concat_iff.1 hp with e|e
   ·exact e
   ·exfalso
    have fO:pp.key.length=j:=by rw[h2];rw[hk]at hj;simpa using hj
    have e2:=ih pp h1 fO (by rw[h2];exact e)
    have:=T.inj m hm pp h1 e2
    rw[this,h3]at hl
    cases hl
structure WkL (nodes:List Node) (Ws:List Wk) (cnt:Int):Prop where
 leaf:∀x∈Ws,∃n∈nodes,n.key=x.key/\n.leaf=true
 num:∀x∈Ws,1<=x.num/\x.num<=cnt
theorem WkL.anti{nodes:List Node}(T:Tree nodes){Ws:List Wk}(h:WkL nodes Ws cnt):Anti Ws:=fun x hx y hy e=>by
 obtain⟨n,hn,e1,l1⟩:=h.leaf x hx;obtain⟨m,hm,e2,l2⟩:=h.leaf y hy;have hp:=(qe1 (e1 ▸ (T.ok n hn).1) (e2 ▸ (T.ok m hm).1)).1 e;rw[<-e1,<- e2]at hp ⊢
 exact(qif T hm l2 _ n hn rfl hp).symm
theorem WkL.append{nodes:List Node}{Ws:List Wk}(h:WkL nodes Ws cnt)(hc:0<=cnt)(hn:n∈nodes)(hl:n.leaf=true){s:Bs}(hk:n.key=qac s)(a b:Int):WkL nodes (Ws++[qe4 cnt s a b]) (cnt+1):=by
 refine⟨fun x hx=>?_,fun x hx=>?_⟩<;>rcases xri.1 hx with e|e
 ·exact h.leaf x e
 ·simp only[List.mem_singleton]at e;subst e
  exact⟨n,hn,hk,hl⟩
 ·have:=h.num x e;omega
 ·simp only[List.mem_singleton]at e;subst e;simp only[qe4];omega
theorem SInv.append{nodes:List Node}(T:Tree nodes){Ws:List Wk}{st:Int}(I:SInv ⟨Ws,st,[]⟩)(L:WkL nodes Ws cnt)(hc:0<=cnt)(hn:n∈nodes)(hl:n.leaf=true){s:Bs}(hk:n.key=qac s){b:Int}(hf:qao a b=true)(pG:Ws.length<24):SInv ⟨Ws++[qe4 cnt s a b],st,[]⟩:=by
 have hS:WkS Ws st:=I.wks;have cJ:0<=st:=I.st0
 refine⟨⟨⟨fun x hx=>?_,fun x hx=>?_,by simp;omega⟩,?_,fun x hx=>?_,?_⟩,cJ,(L.append hc hn hl hk a b).anti T⟩
 ·rcases xri.1 hx with e|e
  ·exact hS.wks.ok x e
  ·simp only[List.mem_singleton]at e;subst e;simp only[qe4];rw[<-hk]
   exact T.ok n hn
 ·rcases xri.1 hx with e|e
  ·exact hS.wks.num x e
  ·simp only[List.mem_singleton]at e;subst e
   simp[qao]at hf
   simp only[qe4]
   omega
 ·simp only[List.map_append,List.map_cons,List.map_nil]
  refine List.nodup_append.2 ⟨hS.nums,by simp,?_⟩
  intro c cS d hd e;simp only[List.mem_singleton]at hd;obtain⟨x,hx,rfl⟩:=xrq.1 cS
  have:=(L.num x hx).2
  rw[hd]at e;simp only[qe4]at e
  omega
 ·rcases xri.1 hx with e|e
  ·exact hS.st x e
  ·simp only[List.mem_singleton]at e;subst e;simp only[qe4]
   omega
 ·simp only[List.filter_append]
  simpa [qe4] using hS.sts
def OfW (tu Ws:List Wk):Prop:=∀y∈Ws,∃z∈tu,z.adm 0=y.adm 0
theorem OfW.refl(Ws:List Wk):OfW Ws Ws:=fun y hy=>⟨y,hy,rfl⟩
theorem OfW.step{Ws:List Wk}(h:OfW tu Ws)(hs:∀y∈fg,∃z∈Ws,z.adm 0=y.adm 0):OfW tu fg:=fun y hy=>by
 obtain⟨z,hz,e⟩:=hs y hy;obtain⟨z0,h0,e0⟩:=h z hz
 exact⟨z0,h0,e0.trans e⟩
theorem qol(L:List Ent)(x:Wk):∀(n:Nat) (s:MS),OfW s.Ws (room L x n s).Ws
 |0,s=>OfW.refl _
 |n+1,s=>by
  simp only[room]
  cases he:qa3 L x s with
  |none=>exact OfW.refl _
  |some s' =>
   refine OfW.step (Ws:=s'.Ws) ?_ (qol L x n s')
   unfold qa3 at he
   split at he
   ·cases he
   ·split at he
    ·cases he
    ·split at he
     ·rename_i i _ v hv
      simp only[Option.some.injEq]at he;subst he;intro y hy
      rcases List.mem_cons.1 hy with e|e
      ·exact⟨v,xr2 hv,by rw[e];rfl⟩
      ·exact⟨y,qbl e,rfl⟩
     ·cases he
theorem qin(Ws:List Wk)(m t:Int):OfW Ws (qd7 Ws m t):=by
 intro y hy;unfold qd7 at hy;obtain⟨z,hz,e⟩:=xrq.1 hy
 refine⟨z,hz,?_⟩
 subst e
 split<;>rfl
theorem qt3(L:List Ent)(s:SS):OfW s.Ws (qal L s).Ws:=by
 unfold qal qcn;have h1:OfW s.Ws (qbf (qbc L) s.Ws.length s).Ws:=by
  refine qdv (I:=fun s'=>OfW s.Ws s'.Ws) (fun a b h he=>?_) _ _ (OfW.refl _)
  obtain⟨i,x,_,hx,_,_,rfl⟩:=qee he
  exact(h.step (qol L x _ ⟨a.Ws,a.evs⟩)).step (qin _ _ _)
 refine qdv (I:=fun s'=>OfW s.Ws s'.Ws) (fun a b h he=>?_) _ _ h1
 obtain⟨i,x,_,hx,_,_,rfl⟩:=qcz he
 refine h.step (fun y hy=>?_)
 unfold qf5 at hy
 rcases List.mem_or_eq_of_mem_set hy with e|e
 ·exact⟨y,e,rfl⟩
 ·exact⟨x,xr2 hx,by rw[e];rfl⟩
theorem qwr(h:x.adm 0=y.adm 0):x.num=y.num/\x.key=y.key/\x.d0=y.d0/\x.d1=y.d1:=by
 simp only[Wk.adm,Wk.mk.injEq]at h
 exact⟨h.1,h.2.1,h.2.2.1,h.2.2.2.1⟩
theorem WkL.of{nodes:List Node}{Ws:List Wk}(h:WkL nodes Ws cnt)(ho:OfW Ws fg):WkL nodes fg cnt :=
 ⟨fun y hy=>by
  obtain⟨z,hz,e⟩:=ho y hy;obtain⟨n,hn,e1,l1⟩:=h.leaf z hz
  exact⟨n,hn,e1.trans (qwr e).2.1,l1⟩,fun y hy=>by
  obtain⟨z,hz,e⟩:=ho y hy;rw[<-(qwr e).1];exact h.num z hz⟩
theorem WkL.sub{nodes:List Node}{Ws:List Wk}(h:WkL nodes Ws cnt)(hs:fg.Sublist Ws):WkL nodes fg cnt:=⟨fun y hy=>h.leaf y (hs.subset hy),fun y hy=>h.num y (hs.subset hy)⟩
end Go.Proofs.YtphclnolomgjoaaGreatDoor
