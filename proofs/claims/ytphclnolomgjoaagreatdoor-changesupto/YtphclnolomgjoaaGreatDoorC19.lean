import Derived.Test.YtphclnolomgjoaaGreatDoorC18
set_option linter.unusedVariables false
set_option linter.unusedSimpArgs false
set_option maxRecDepth 100000
set_option maxHeartbeats 4000000
namespace Go.Proofs.YtphclnolomgjoaaGreatDoor
open Tryz
section
open Go.RowKit
variable {T T':Nat->Prop}{p:Pw}{w' w1 w2:World}{aQ aX ck eV f gG gR gj ik jI v:Value}{aR bg:List Pw}{oO:List (Int×Int)}{b hb i:Nat}{st:Int}{n:Node}
structure LdAt (W:World) (nodes:List Node) (rr bt:Nat) (r:Node) (lst vw va ev:Value) (ws as_:List Pw) (evs:List (Int×Int)):Prop where
 ins:∀n∈nodes,qan W n
 ld:qdx W rr bt (nptr r.blk) (nptr r.blk) lst vw va ev ws as_ evs
 lf:∀p∈ws++as_,∃n∈nodes,n.blk=p.q/\n.key=p.x.key
 nm:∀p∈ws++as_,(0<=p.x.d0/\p.x.d0<=1000)/\(0<=p.x.d1/\p.x.d1<=1000)
structure qdh (nodes:List Node) (rr bt:Nat) (vw va ev:Value) (ws as_:List Pw) (T:Nat->Prop):Prop where
 ns:∀n∈nodes,¬T n.blk/\∀g,n.sl.ownBlock=some g->¬T g
 rr:¬T rr
 bt:¬T bt
 vw:∀b,vw.ownBlock=some b->¬T b
 va:∀b,va.ownBlock=some b->¬T b
 ev:∀b,ev.ownBlock=some b->¬T b
 ws:∀p∈ws++as_,¬T p.blk
section
variable {W W':World}{nodes:List Node}{rr bt:Nat}{r:Node}{lst vw va ev:Value}{ws as_:List Pw}{evs:List (Int×Int)}
theorem LdAt.keep(h:LdAt W nodes rr bt r lst vw va ev ws as_ evs)(hk:Keep T W W')(ho:qdh nodes rr bt vw va ev ws as_ T):LdAt W' nodes rr bt r lst vw va ev ws as_ evs :=
 ⟨qel ho.ns h.ins hk,⟨h.ld.bk.keep hk ho.bt ho.vw ho.va ho.ws,h.ld.rnd.keep hk ho.rr ho.ev⟩,h.lf,h.nm⟩
theorem LdAt.below(h:LdAt W nodes rr bt r lst vw va ev ws as_ evs)(hb:Bw W W'):LdAt W' nodes rr bt r lst vw va ev ws as_ evs :=
 h.keep (T:=fun _=>False) (Keep.new hb) ⟨fun _ _=>⟨id,fun _ _=>id⟩,id,id,fun _ _=>id,fun _ _=>id,fun _ _=>id,fun _ _=>id⟩
theorem LdAt.cells(h:LdAt W nodes rr bt r lst vw va ev ws as_ evs):W.cell? (vA rr 0)=some (nptr r.blk)/\W.cell? (vA rr 1)=some (.pointer (some (vA bt 1)))/\W.cell? (vA rr 2)=some ev/\W.cell? (vA bt 2)=some vw/\W.cell? (vA bt 3)=some va :=
 ⟨h.ld.rnd.at_.cell 0,h.ld.rnd.at_.cell 1,h.ld.rnd.at_.cell 2,h.ld.bk.at_.cell 2,h.ld.bk.at_.cell 3⟩
theorem LdAt.rd(h:LdAt W nodes rr bt r lst vw va ev ws as_ evs):Rd W nodes bt rr va as_ :=
 ⟨h.ins,h.cells.2.1,h.cells.2.2.2.2,⟨h.ld.bk.arow,fun p hp=>h.ld.bk.works p (xra _ hp),fun p hp=>h.lf p (xra _ hp),fun p hp=>h.nm p (xra _ hp),by have:=h.ld.bk.len;omega⟩⟩
theorem LdAt.rw_(h:LdAt W nodes rr bt r lst vw va ev ws as_ evs):Rw W nodes bt rr r vw ws :=
 ⟨h.ins,h.cells.1,h.cells.2.1,h.cells.2.2.2.1,⟨h.ld.bk.wrow,fun p hp=>h.ld.bk.works p (xr9 _ hp)⟩,by have:=h.ld.bk.len;omega,fun p hp=>by obtain⟨n,h1,h2,_⟩:=h.lf p (xr9 _ hp);exact⟨n,h1,h2⟩⟩
theorem LdAt.pin(h:LdAt W nodes rr bt r lst vw va ev ws as_ evs)(hp:p∈ws++as_):PwIn W nodes p:=⟨h.ld.bk.works p hp,h.lf p hp,h.nm p hp⟩
theorem LdAt.lt(h:LdAt W nodes rr bt r lst vw va ev ws as_ evs)(hT:∀b,T b->W.heap.size<=b):qdh nodes rr bt vw va ev ws as_ T :=
 ⟨fun n hn=>⟨fun e=>by have:=(h.ins n hn).lt;have:=hT _ e;omega,fun g hg e=>by have:=((h.ins n hn).row.lt g hg).2;have:=hT _ e;omega⟩,fun e=>by have:=h.ld.rnd.at_.lt;have:=hT _ e;omega,fun e=>by have:=h.ld.bk.at_.lt;have:=hT _ e;omega,fun b hb e=>by have:=qal h.ld.bk.wrow hb;have:=hT _ e;omega,fun b hb e=>by have:=qal h.ld.bk.arow hb;have:=hT _ e;omega,fun b hb e=>by have:=qal h.ld.rnd.row hb;have:=hT _ e;omega,fun p hp e=>by have:=(h.ld.bk.works p hp).lt;have:=hT _ e;omega⟩
theorem qdh.or(h:qdh nodes rr bt vw va ev ws as_ T)(h':qdh nodes rr bt vw va ev ws as_ T'):qdh nodes rr bt vw va ev ws as_ (fun b=>T b\/T' b) :=
 ⟨fun n hn=>⟨fun e=>e.elim (h.ns n hn).1 (h'.ns n hn).1,fun g hg e=>e.elim ((h.ns n hn).2 g hg) ((h'.ns n hn).2 g hg)⟩,fun e=>e.elim h.rr h'.rr,fun e=>e.elim h.bt h'.bt,fun b hb e=>e.elim (h.vw b hb) (h'.vw b hb),fun b hb e=>e.elim (h.va b hb) (h'.va b hb),fun b hb e=>e.elim (h.ev b hb) (h'.ev b hb),fun p hp e=>e.elim (h.ws p hp) (h'.ws p hp)⟩
theorem qdh.mono(h:qdh nodes rr bt vw va ev ws as_ T)(hm:∀b,T' b->T b):qdh nodes rr bt vw va ev ws as_ T' :=
 ⟨fun n hn=>⟨fun e=>(h.ns n hn).1 (hm _ e),fun g hg e=>(h.ns n hn).2 g hg (hm _ e)⟩,fun e=>h.rr (hm _ e),fun e=>h.bt (hm _ e),fun b hb e=>h.vw b hb (hm _ e),fun b hb e=>h.va b hb (hm _ e),fun b hb e=>h.ev b hb (hm _ e),fun p hp e=>h.ws p hp (hm _ e)⟩
theorem qdh.rw_(h:qdh nodes rr bt vw va ev ws as_ T):qhs nodes bt rr vw ws T:=⟨h.ns,h.rr,h.bt,h.vw,fun p hp=>h.ws p (xr9 _ hp)⟩
theorem LdAt.qh0(h:LdAt W nodes rr bt r lst vw va ev ws as_ evs):∀n∈nodes,¬LdT rr bt vw va ev n.blk/\∀g,n.sl.ownBlock=some g->¬LdT rr bt vw va ev g:=fun n hn=>by
 have bh:Blk W n.blk 136 n.cells:=(h.ins n hn).at_;have au:=(h.ins n hn).row
 refine⟨?_,fun g hg=>?_⟩
 ·rintro(e|(e|e|e)|e)
  ·exact qax bh h.ld.rnd.at_ (by decide) e
  ·exact qax bh h.ld.bk.at_ (by decide) e
  ·exact qag h.ld.bk.wrow bh (by decide) e
  ·exact qag h.ld.bk.arow bh (by decide) e
  ·exact qag h.ld.rnd.row bh (by decide) e
 ·rintro(e|(e|e|e)|e)
  ·subst e;exact qag au h.ld.rnd.at_ (by decide) hg
  ·subst e;exact qag au h.ld.bk.at_ (by decide) hg
  ·exact qdj au h.ld.bk.wrow (by decide) hg e
  ·exact qdj au h.ld.bk.arow (by decide) hg e
  ·exact qdj au h.ld.rnd.row (by decide) hg e
end
structure qbu (rr bt:Nat) (w w':World) (vw va ev aQ aX ck:Value):Prop where
 keep:Keep (LdT rr bt vw va ev) w w'
 new:LdN w vw va ev aQ aX ck
theorem qbu.refl(rr bt:Nat)(w:World)(vw va ev:Value):qbu rr bt w w vw va ev vw va ev:=⟨Keep.refl _ _,⟨fun b e=>e.elim (fun e=>.inl e) (fun e=>.inr (.inl e)),fun b e=>.inl e⟩⟩
theorem qbu.trans{rr bt:Nat}{w:World}{vw va ev:Value}(h:qbu rr bt w w1 vw va ev gG gj jI)(k:qbu rr bt w1 w2 gG gj jI ik gR eV):qbu rr bt w w2 vw va ev ik gR eV:=by
 refine⟨h.keep.qbo k.keep (fun b hb e=>?_),⟨fun b e=>?_,fun b e=>?_⟩⟩
 ·rcases e with e|(e|e|e)|e
  ·exact .inl e
  ·exact .inr (.inl (.inl e))
  ·rcases h.new.all b (.inl e) with e|e|e|e
   ·exact .inr (.inl (.inr (.inl e)))
   ·exact .inr (.inl (.inr (.inr e)))
   ·exact .inr (.inr e)
   ·omega
  ·rcases h.new.all b (.inr (.inl e)) with e|e|e|e
   ·exact .inr (.inl (.inr (.inl e)))
   ·exact .inr (.inl (.inr (.inr e)))
   ·exact .inr (.inr e)
   ·omega
  ·rcases h.new.all b (.inr (.inr e)) with e|e|e|e
   ·exact .inr (.inl (.inr (.inl e)))
   ·exact .inr (.inl (.inr (.inr e)))
   ·exact .inr (.inr e)
   ·omega
 ·rcases k.new.bk b e with e|e|e
  ·exact h.new.bk b (.inl e)
  ·exact h.new.bk b (.inr e)
  ·exact .inr (.inr (Nat.le_trans h.keep.size e))
 ·rcases k.new.ev b e with e|e
  ·exact h.new.ev b e
  ·exact .inr (Nat.le_trans h.keep.size e)
theorem qbu.below{rr bt:Nat}{w:World}{vw va ev:Value}(h:qbu rr bt w w1 vw va ev gG gj jI)(hb:Bw w1 w2):qbu rr bt w w2 vw va ev gG gj jI:=⟨h.keep.qc5 hb,h.new⟩
section
variable {w:World}{nodes:List Node}{rr bt:Nat}{r:Node}{lst vw va ev:Value}{ws as_:List Pw}{evs:List (Int×Int)}
theorem LdAt.next(h:LdAt w nodes rr bt r lst vw va ev ws as_ evs)(h2:qdx w2 rr bt (nptr r.blk) (nptr r.blk) lst aQ aX ck bg aR oO)(hk:Keep (LdT rr bt vw va ev) w w2)(hn:LdN w vw va ev aQ aX ck)(hm:∀p∈bg++aR,p∈ws++as_):
  LdAt w2 nodes rr bt r lst aQ aX ck bg aR oO/\qbu rr bt w w2 vw va ev aQ aX ck :=
 ⟨⟨qel h.qh0 h.ins hk,h2,fun p hp=>h.lf p (hm p hp),fun p hp=>h.nm p (hm p hp)⟩,⟨hk,hn⟩⟩
theorem LdAt.admit(h:LdAt w nodes rr bt r lst vw va ev ws as_ evs)(hl:evs.length<=10000)(hi:ws[i]?=some p):
  Cl 173 #[vP rr,nptr p.blk] w fun e w'=>e=.returned (.tuple #[])/\∃aQ aX ck,LdAt w' nodes rr bt r lst aQ aX ck (ws.take i++ws.drop (i+1)) (as_++[p]) (evs++[(1,p.x.num)])/\qbu rr bt w w' vw va ev aQ aX ck:=by
 refine(qqc h.ld hl hi).mono ?_
 rintro e w' ⟨he,aQ,aX,ck,h2,hk,hn⟩
 refine⟨he,aQ,aX,ck,h.next h2 hk hn (fun q hq=>?_)⟩
 rcases xri.1 hq with h1|h1
 ·exact xr9 _ (qbb h1)
 ·rcases xri.1 h1 with h1|h1
  ·exact xra _ h1
  ·simp at h1;subst h1;exact xr9 _ (xr2 hi)
theorem qqm(T0:Tree nodes)(hB:qa7 nodes)(h:LdAt w nodes rr bt r lst vw va ev ws as_ evs){Ws:List Wk}(hp:p∈ws++as_)(hn:n∈nodes)(gz:n.blk=p.q)(dh:n.key=p.x.key)(R:Rel nodes Ws ws as_)(I:RInv (nodes.map Node.ent) p.x st Ws)(hl:evs.length+admN Ws<=10000):
  Cl 172 #[vP rr,nptr p.blk] w fun e w'=>e=.returned (.tuple #[])/\∃aQ aX ck bg aR,LdAt w' nodes rr bt r lst aQ aX ck bg aR (room (nodes.map Node.ent) p.x (admN Ws) ⟨Ws,evs⟩).evs/\Rel nodes (room (nodes.map Node.ent) p.x (admN Ws) ⟨Ws,evs⟩).Ws bg aR/\qbu rr bt w w' vw va ev aQ aX ck/\bg++aR ⊆ ws++as_/\ws++as_ ⊆ bg++aR:=by
 have zC:∀(W:World) (vw va ev:Value) (ws as_:List Pw) (evs:List (Int×Int)),LdAt W nodes rr bt r lst vw va ev ws as_ evs->p∈ws++as_->Cl 210 #[vP rr,vP p.blk] W fun e w'=>e=.returned (optP (vicP nodes as_ p.x n))/\Bw W w':=fun W vw va ev ws as_ evs hW dM=>qns T0 hB hW.rd (hW.pin dM) hn gz
 have rO:=fun W (p:Pw)=>qgv (W:=W) (x:=p)
 have ju:=fun W=>qd8 (W:=W)
 obtain⟨L,hL⟩:∃L,L=nodes.map Node.ent:=⟨_,rfl⟩;rw[<-hL]at I ⊢;obtain⟨fin,aM⟩:∃fin,fin=room L p.x (admN Ws) ⟨Ws,evs⟩:=⟨_,rfl⟩;rw[<-aM];have HL:Hid (L=nodes.map Node.ent):=hL;clear hL;unfold nptr
 go_enter func172,ntmps172
 go_wp2_with fail
 refine(zC _ _ _ _ _ _ _ h hp).mono ?_
 rintro e w1 ⟨rfl,aa⟩
 have h1:=h.below aa;generalize n9:optP (vicP nodes as_ p.x n)=v0;have qN:Hid (optP (vicP nodes as_ p.x n)=v0):=n9;clear n9
 go_wp2_with fail
 go_loopg [4] (admN Ws) (fun q v wr=>∃(aQ aX ck:Value) (bg aR:List Pw) (s:MS),v=optP (vicP nodes aR p.x n)/\admN s.Ws<=q/\LdAt wr nodes rr bt r lst aQ aX ck bg aR s.evs/\Rel nodes s.Ws bg aR/\RInv L p.x st s.Ws/\fin=room L p.x (admN s.Ws) s/\s.evs.length+admN s.Ws<=10000/\qbu rr bt w wr vw va ev aQ aX ck/\bg++aR ⊆ ws++as_/\ws++as_ ⊆ bg++aR)
 case atStart=>exact⟨vw,va,ev,ws,as_,⟨Ws,evs⟩,qN.out.symm,Nat.le_refl _,h1,R,I,aM,hl,(qbu.refl _ _ _ _ _ _).below aa,fun _ e=>e,fun _ e=>e⟩
 case round =>
  clear h1 aa aM hl R I;obtain⟨aQ,aX,ck,bg,aR,s,rfl,hq,hA,hR,hI,hf,an,bW,oa,cv⟩:=hrel
  cases hv:vicP nodes aR p.x n with
  |none =>
   have a7:=hR.qtk T0 hI.wks hn dh hv;rw[<-HL.out]at a7;have cG:fin=s:=by rw[hf];exact room_end (qfu.2 a7) _
   have HF:Hid (fin=s):=cG;clear hf cG a7;simp only[optP]
   go_wp2_with fail
   go_end0
   refine⟨rfl,aQ,aX,ck,bg,aR,?_,?_,bW,oa,cv⟩
   ·rw[HF.out];exact hA
   ·rw[HF.out];exact hR
  |some q' =>
   obtain⟨i,v,iw,hi,ox,rW,n9,AS⟩:=hR.qtp T0 hI.wks hn dh hv;rw[<-HL.out]at ox;have qG:=qe1 (s:=s) ox rW;obtain⟨s',n_⟩:∃s':MS,s'=⟨v.adm 0::(s.Ws.take iw++s.Ws.drop (iw+1)),s.evs++[(2,v.num)]⟩:=⟨_,rfl⟩;rw[<-n_]at qG;have F3:=hI.step qG;have ud:=(qmc hI.wks qG).1;have dy:fin=room L p.x (admN s'.Ws) s':=by rw[hf,<- ud];exact qqx qG _
   have eh:Rel nodes s'.Ws (q'::bg) (aR.take i++aR.drop (i+1)):=by rw[n_];exact hR.qis hI.wks hi rW n9 AS
   have u6:s'.evs=s.evs++[(2,q'.x.num)]:=by rw[n_,AS];rfl
   have ly:s'.evs.length+admN s'.Ws<=10000:=by rw[u6];simp;omega
   have DI:=xr2 hi;have ai:∀x∈(q'::bg)++(aR.take i++aR.drop (i+1)),x∈bg++aR:=fun x hx=>by
    rcases xri.1 hx with hx|hx
    ·rcases List.mem_cons.1 hx with rfl|hx
     ·exact xra _ DI
     ·exact xr9 _ hx
    ·exact xra _ (qbb hx)
   have sV:∀x∈bg++aR,x∈(q'::bg)++(aR.take i++aR.drop (i+1)):=fun x hx=>by
    rcases xri.1 hx with hx|hx
    ·exact xr9 _ (xru _ hx)
    ·have:=(qb0 hi).mem_iff.1 hx
     rcases List.mem_cons.1 this with rfl|this
     ·exact xr9 _ (List.mem_cons_self ..)
     ·exact xra _ this
   have uA:=qor hA.ld.bk hi;have gZ:∀w1 gG gj,BkAt w1 bt (nptr r.blk) lst gG gj (q'::bg) (aR.take i++aR.drop (i+1))->Keep (BkT bt aQ aX) wr w1->qdx w1 rr bt (nptr r.blk) (nptr r.blk) lst gG gj ck (q'::bg) (aR.take i++aR.drop (i+1)) s.evs:=fun w1 gG gj hb hk=>⟨hb,hA.ld.rnd.keep hk hA.ld.qgd.1 hA.ld.qgd.2⟩
   obtain⟨_,Mk,_⟩:=hA.cells;have cQ:=rO;clear ju;have HX:Hid (RInv L p.x st s'.Ws/\fin=room L p.x (admN s'.Ws) s'/\Rel nodes s'.Ws (q'::bg) (aR.take i++aR.drop (i+1))/\s'.evs=s.evs++[(2,q'.x.num)]/\s'.evs.length+admN s'.Ws<=10000/\admN s'.Ws+1=admN s.Ws):=⟨F3.1,dy,eh,u6,ly,ud⟩;clear F3 dy eh u6 ly ud qG ox rW hf n_;simp only[optP];unfold nptr at uA ⊢
   go_wp2_with fail
   refine uA.mono ?_
   rintro e w2 ⟨rfl,gG,gj,aa,c_,cQ⟩
   have h1:=gZ w2 gG gj aa c_;have eL:=ql9 h1.rnd (by omega) (h1.bk.works q' (by simp)) 2;clear uA gZ;unfold nptr at eL
   go_wp2_with fail
   refine eL.mono ?_
   rintro e w3 ⟨rfl,jI,h2,bM,da⟩
   obtain⟨t1,t2,t3⟩:=hA.ld.told h1 c_ cQ h2 bM da;obtain⟨sy,DR⟩:=hA.next t1 t2 t3 ai;have mO:=zC w3 _ _ _ _ _ _ sy (sV _ (cv hp));clear eL
   go_wp2_with fail
   refine mO.mono ?_
   rintro e w4 ⟨rfl,a_⟩
   obtain⟨y1,y2,y3,y4,y5,y6⟩:=HX.out;generalize hv4:optP (vicP nodes (aR.take i++aR.drop (i+1)) p.x n)=v4;have Hb:Hid (optP (vicP nodes (aR.take i++aR.drop (i+1)) p.x n)=v4):=hv4;clear hv4
   go_wp2_with fail
   go_roundg (admN s'.Ws)
   case measure=>omega
   case rel=>exact⟨gG,gj,jI,_,_,s',Hb.out.symm,Nat.le_refl _,by rw[y4];exact sy.below a_,y3,y1,y2,y5,(bW.trans DR).below a_,fun x hx=>oa (ai x hx),fun x hx=>sV x (cv hx)⟩
end
def ownMore(nodes:List Node)(as_:List Pw):Option Pw->List Pw
 |some p=>if ownP nodes as_ p.x then [p] else []
 |none=>[]
section
variable {w:World}{nodes:List Node}{rr bt:Nat}{r:Node}{lst vw va ev:Value}{ws as_:List Pw}{evs:List (Int×Int)}
theorem LdAt.befs(h:LdAt w nodes rr bt r lst vw va ev ws as_ evs)(T0:Tree nodes)(ho:qdh nodes rr bt vw va ev ws as_ T){ys:List Pw}(jE:∀p∈ys,p∈ws++as_):Befs w T ys ltP:=fun W hk a ha b hb=>by
 have hW:=h.keep hk ho
 exact qm8 T0 hW.ins (hW.pin (jE a ha)) (hW.pin (jE b hb))
theorem HpAt.keep{W W':World}{ys:List Pw}(h:HpAt W hb f v ys)(hk:Keep T W W')(h1:¬T hb)(h2:∀b,v.ownBlock=some b->¬T b):HpAt W' hb f v ys:=⟨h.at_.keep hk h1,qab h.row hk h2,h.ne⟩
theorem qhb(T0:Tree nodes)(hB:qa7 nodes)(h:LdAt w nodes rr bt r lst vw va ev ws as_ evs){ys:List Pw}(hH:HpAt w hb (.func (.func 168) #[] #[]) v ys)(hU:qbp ltP ys)(hl:ys.length<=50)(jE:∀p∈ys,p∈ws++as_)(ho:qdh nodes rr bt vw va ev ws as_ (fun y=>y=hb\/v.ownBlock=some y))(o:Option Pw)(u_:∀p,o=some p->p∈ws++as_):
  Cl 170 #[vP rr,vP hb,optP o] w fun e w'=>e=.returned (.tuple #[])/\∃v' zs,zs.Perm (ys++ownMore nodes as_ o)/\qbp ltP zs/\HpAt w' hb (.func (.func 168) #[] #[]) v' zs/\Keep (fun y=>y=hb\/v.ownBlock=some y) w w'/\(v'.ownBlock=v.ownBlock\/∃g,v'.ownBlock=some g/\w.heap.size<=g):=by
 have ju:=fun W=>qd8 (W:=W)
 have rO:=fun W (p:Pw)=>qgv (W:=W) (x:=p)
 cases o with
 |none =>
  simp only[optP,ownMore,List.append_nil]
  go_enter func170,ntmps170
  go_wp2_with fail
  go_end0
  exact⟨rfl,v,ys,List.Perm.refl _,hU,hH,Keep.refl _ _,.inl rfl⟩
 |some p =>
  have dM:=u_ p rfl;have kD:=qjr T0 hB h.rd (h.pin dM);have iT:=fun W (hW:Bw w W)=>qu4 qnp (hH.below hW) hl hU p ((h.below hW).befs T0 ho (fun q hq=>by
   rcases xri.1 hq with e|e
   ·exact jE q e
   ·simp at e;subst e;exact dM))
  have av:ownP nodes as_ p.x=((abv (ws0 (pun as_ p.x.key)+p.x.d0) (pn0 nodes p.x.key) == 0)&&(abv (ws1 (pun as_ p.x.key)+p.x.d1) (pn1 nodes p.x.key) == 0)):=rfl;simp only[optP];obtain⟨M,hM⟩:∃M,M=ownMore nodes as_ (some p):=⟨_,rfl⟩;rw[<-hM];have HM:Hid (M=if ownP nodes as_ p.x then [p] else []):=hM;clear hM;generalize abv (ws0 (pun as_ p.x.key)+p.x.d0) (pn0 nodes p.x.key)=a0 at *;generalize abv (ws1 (pun as_ p.x.key)+p.x.d1) (pn1 nodes p.x.key)=a1 at *;unfold nptr at kD iT ⊢;have kY:∀W,(Op.equalIn 10000 35 (.agg #[vI a0,vI a1]) (.agg #[vI 0,vI 0])).run prog W=.ok (a0 == 0&&a1 == 0) W:=fun W=>eq35 9998 a0 a1 0 0 W
  generalize cx:(a0 == 0&&a1 == 0)=b0 at kY av;have xe:Hid (ownP nodes as_ p.x=b0):=av;clear av cx
  go_enter func170,ntmps170
  go_wp2_with fail
  refine kD.mono ?_
  rintro e w1 ⟨rfl,aa⟩
  have sY:=iT w1 aa;have ni:=kY w1;clear kD iT kY
  cases b0
  ·go_wp2_with fail
   go_end0
   refine⟨rfl,v,ys,?_,hU,hH.below aa,Keep.new aa,.inl rfl⟩
   rw[HM.out,xe.out];simp
  ·go_wp2_with fail
   refine sY.mono ?_
   rintro e w2 ⟨rfl,v',zs,y1,y2,y3,y4,y5⟩
   go_wp2_with fail
   go_end0
   refine⟨rfl,v',zs,?_,y2,y3,(Keep.new aa).trans y4,y5.imp id (fun ⟨g,g1,g2⟩=>⟨g,g1,Nat.le_trans aa.size g2⟩)⟩
   rw[HM.out,xe.out];exact y1
end
section
variable {nodes:List Node}{Ws:List Wk}{ws as_:List Pw}
theorem qk0(Ws:List Wk)(h:∀x∈Ws,0<=x.st):(Ws.filter (fun x=>x.st == 0)++Ws.filter (fun x=>decide (0<x.st))).Perm Ws:=by
 have h1:=List.filter_append_perm (fun x:Wk=>x.st == 0) Ws
 refine List.Perm.trans (List.Perm.append_left _ (List.Perm.of_eq (List.filter_congr fun x hx=>?_))) h1
 have:=h x hx
 by_cases e:x.st=0
 ·simp[e]
 ·rw[beq_eq_false_iff_ne.2 e,decide_eq_true (by omega)];rfl
theorem Rel.nums(R:Rel nodes Ws ws as_)(h:∀x∈Ws,0<=x.st):((ws++as_).map (·.x.num)).Perm (Ws.map (·.num)):=by
 obtain⟨az,h1,h2,_⟩:=R.a;have e1:(ws++as_).map (·.x.num)=(ws.map (·.x)).map (·.num)++(as_.map (·.x)).map (·.num):=by rw[List.map_append,List.map_map,List.map_map];rfl
 have e2:(az.map (·.adm 0)).map (·.num)=az.map (·.num):=by rw[List.map_map];rfl
 rw[e1,h1,e2,R.w]
 have:=(qk0 Ws h).map (·.num)
 rw[List.map_append]at this
 exact List.Perm.trans (List.Perm.append_left _ (h2.map _)) this
theorem Rel.uniq(R:Rel nodes Ws ws as_)(hS:WkS Ws st){q:Pw}(hp:p∈ws++as_)(hq:q∈ws++as_)(e:p.x.num=q.x.num):p=q:=by
 have df:((ws++as_).map (·.x.num)).Nodup:=(R.nums (fun x hx=>(hS.st x hx).1)).nodup_iff.2 hS.nums;obtain⟨i,hi⟩:=xre hp;obtain⟨j,hj⟩:=xre hq
 have:i=j:=qhj (f:=fun p:Pw=>p.x.num) df hi hj e
 subst this;rw[hi]at hj;injection hj
theorem Rel.idx(R:Rel nodes Ws ws as_)(hS:WkS Ws st){a:Pw}(ha:a∈ws++as_)(hh:qa0 Ws a.x.key=some a.x):∃i:Nat,ws[i]?=some a:=by
 obtain⟨h1,h2,_⟩:=qak hh;have hm:a.x∈ws.map (·.x):=by rw[R.w];exact xrr.2 ⟨h1,by simp[h2]⟩
 obtain⟨p,hp,he⟩:=xrq.1 hm
 have:p=a:=R.uniq hS (xr9 _ hp) ha (by rw[he])
 subst this
 exact xre hp
theorem qeu(h:qbl ws b=some p):p∈ws:=List.mem_of_find?_eq_some h
theorem qjl{l:List Node}(h:p∈qap ws l):p∈ws:=by
 obtain⟨n,_,hn⟩:=List.mem_filterMap.1 h
 exact qeu hn
theorem Rel.qcu(R:Rel nodes Ws ws as_)(T:Tree nodes)(hB:qa7 nodes)(hn:n∈nodes)(h:qbl ws n.blk=some p):qa0 Ws n.key=some p.x/\p.x.key=n.key:=by
 have:=R.head T hB hn
 unfold qbl at h;rw[h]at this;have h1:qa0 Ws n.key=some p.x:=this.symm
 exact⟨h1,(qak h1).2.2⟩
theorem Rel.more(R:Rel nodes Ws ws as_)(T:Tree nodes)(hB:qa7 nodes)(hW:Wks Ws)(hn:n∈nodes):(ownMore nodes as_ (qbl ws n.blk)).map (·.x)=moreOwn (nodes.map Node.ent) Ws n.key:=by
 have hh:=R.head T hB hn;unfold moreOwn ownMore
 cases hp:qbl ws n.blk with
 |none =>
  unfold qbl at hp;rw[hp]at hh;rw[<-hh];rfl
 |some p =>
  obtain⟨h1,h2⟩:=R.qcu T hB hn hp;rw[h1]
  simp only
  rw[R.own T hW (by rw[h2];exact(T.ok n hn).1)]
  split<;>rfl
theorem Rel.qxe(R:Rel nodes Ws ws as_)(T:Tree nodes)(hB:qa7 nodes)(hS:WkS Ws st){l:List Node}(hl:l.Perm nodes){ys:List Pw}(jE:ys.Perm ((qap ws l).filter fun p=>ownP nodes as_ p.x)):qb2 (nodes.map Node.ent) Ws (ys.map (·.x)):=by
 have ai:∀p,p∈qap ws l↔∃n∈nodes,qbl ws n.blk=some p:=fun p=>by
  unfold qap;rw[List.mem_filterMap]
  constructor
  ·rintro⟨n,h1,h2⟩;exact⟨n,hl.mem_iff.1 h1,h2⟩
  ·rintro⟨n,h1,h2⟩;exact⟨n,hl.mem_iff.2 h1,h2⟩
 have df:((qap ws l).map (·.x.key)).Nodup:=by
  have hk:(l.map (·.key)).Nodup:=(hl.map _).nodup_iff.2 T.nodup;have aF:((qap ws l).map (·.x.key)).Sublist (l.map (·.key)):=by
   have mF:∀n∈l,n∈nodes:=fun n h=>hl.mem_iff.1 h
   clear ai jE hk hl
   induction l with
   |nil=>exact List.Sublist.slnil
   |cons n l ih =>
    have zP:=ih (fun m hm=>mF m (xru _ hm));have e:qap ws (n::l)=(qbl ws n.blk).toList++qap ws l:=by
     unfold qap
     cases h:qbl ws n.blk<;>simp[List.filterMap_cons,h]
    rw[e]
    cases h:qbl ws n.blk with
    |none=>simpa using zP.cons n.key
    |some p =>
     have:=(R.qcu T hB (mF n (List.mem_cons_self ..)) h).2
     simp only[Option.toList_some,List.singleton_append,List.map_cons];rw[this]
     exact zP.cons_cons _
  exact aF.nodup hk
 refine⟨?_,fun y=>?_⟩
 ·have h1:((ys.map (·.x)).map (·.key)).Nodup:=by
   rw[List.map_map]
   refine((jE.map _).nodup_iff).2 ?_
   exact df.sublist ((List.filter_sublist ..).map _)
  exact qcc h1
 ·rw[xrq]
  constructor
  ·rintro⟨p,hp,rfl⟩
   obtain⟨h1,h2⟩:=xrr.1 (jE.mem_iff.1 hp);obtain⟨n,hn,h3⟩:=(ai p).1 h1;obtain⟨g1,g2⟩:=R.qcu T hB hn h3;rw[R.own T hS.wks (by rw[g2];exact(T.ok n hn).1)]at h2
   exact⟨by rw[g2];exact g1,h2⟩
  ·rintro⟨h1,h2⟩
   obtain⟨g1,g2,_⟩:=qak h1;have hm:y∈ws.map (·.x):=by rw[R.w];exact xrr.2 ⟨g1,by simp[g2]⟩
   obtain⟨p0,zi,mv⟩:=xrq.1 hm;obtain⟨n,hn,_,dh⟩:=R.leaf p0 (xr9 _ zi);rw[mv]at dh;have hh:=R.head T hB hn;rw[dh,h1]at hh
   cases hq:qbl ws n.blk with
   |none=>unfold qbl at hq;rw[hq]at hh;cases hh
   |some p =>
    unfold qbl at hq;rw[hq]at hh;have hx:p.x=y:=by simpa using hh
    refine⟨p,jE.mem_iff.2 (xrr.2 ⟨(ai p).2 ⟨n,hn,hq⟩,?_⟩),hx⟩
    rw[hx,R.own T hS.wks (hS.wks.ok y g1).1]
    exact h2
end
theorem qdh.ldt{nodes:List Node}{rr bt:Nat}{vw va ev:Value}{ws as_:List Pw}(h:qdh nodes rr bt vw va ev ws as_ T)(hb:T b):¬LdT rr bt vw va ev b:=by
 rintro(e|(e|e|e)|e)
 ·subst e;exact h.rr hb
 ·subst e;exact h.bt hb
 ·exact h.vw b e hb
 ·exact h.va b e hb
 ·exact h.ev b e hb
theorem qdh.step{nodes:List Node}{rr bt:Nat}{w:World}{vw va ev:Value}{ws as_:List Pw}(h:qdh nodes rr bt vw va ev ws as_ T)(hs:qbu rr bt w w' vw va ev aQ aX ck)(hT:∀b,T b->b<w.heap.size)(hm:∀p∈bg++aR,p∈ws++as_):qdh nodes rr bt aQ aX ck bg aR T:=by
 have key:∀b,aQ.ownBlock=some b\/aX.ownBlock=some b\/ck.ownBlock=some b->¬T b:=fun b e hb=>by
  rcases hs.new.all b e with e|e|e|e
  ·exact h.vw b e hb
  ·exact h.va b e hb
  ·exact h.ev b e hb
  ·have:=hT b hb;omega
 exact⟨h.ns,h.rr,h.bt,fun b hb=>key b (.inl hb),fun b hb=>key b (.inr (.inl hb)),fun b hb=>key b (.inr (.inr hb)),fun p hp=>h.ws p (hm p hp)⟩
end
section
open Go.RowKit Go.Shelf
variable {e:TypeId}{b hb size:Nat}{xs:List Value}{T:Nat->Prop}{aQ aX ck f v':Value}{vs:Array Value}{aR bg zs:List Pw}{s':SS}{L:List Ent}{hs:List Wk}{n:Node}
def isCells(W:World)(b:Nat):Prop:=∃vs t f,W.heap[b]?=some (.cells vs t f)
theorem qcl{W:World}{n:Nat}{v:Value}(h:W.ownsRow 0 e size v n xs)(hb:v.ownBlock=some b):isCells W b:=by
 rcases h.2 with ⟨rfl,_⟩|⟨g,cap,aD,rfl,_,hg,_⟩
 ·cases hb
 ·simp[Value.ownBlock]at hb;subst hb;exact⟨_,_,_,hg⟩
theorem qfy{A A':World}(hk:Keep T A A'){D:Nat}{x:Option (List Deferred)}(hD:A.heap[D]?=some (.deferred x))(hT:∀b,T b->isCells A b):A'.heap[D]?=some (.deferred x):=by
 refine(hk.block D (xrc.1 hD).1 (fun e=>?_)).trans hD
 obtain⟨vs,t,f,h⟩:=hT D e;rw[hD]at h
 cases h
theorem HpAt.isC{W:World}{v:Value}{ys:List Pw}(h:HpAt W hb f v ys):∀b,(b=hb\/v.ownBlock=some b)->isCells W b:=fun b e=>by
 rcases e with rfl|e
 ·exact⟨_,_,_,h.at_⟩
 ·exact qcl h.row e
theorem HpAt.qdy{W:World}{v:Value}{ys:List Pw}(h:HpAt W hb f v ys){t:TypeId}(hx:Blk W b t vs)(h1:t≠247)(h2:t≠95):¬(b=hb\/v.ownBlock=some b):=by
 rintro(e|e)
 ·exact qax hx h.at_ h1 e
 ·exact qag h.row hx (fun e=>h2 e.symm) e
section
variable {W:World}{nodes:List Node}{rr bt:Nat}{r:Node}{lst vw va ev:Value}{ws as_:List Pw}{evs:List (Int×Int)}
theorem LdAt.isC(h:LdAt W nodes rr bt r lst vw va ev ws as_ evs):∀b,LdT rr bt vw va ev b->isCells W b:=fun b e=>by
 rcases e with rfl|(rfl|e|e)|e
 ·exact⟨_,_,_,h.ld.rnd.at_⟩
 ·exact⟨_,_,_,h.ld.bk.at_⟩
 ·exact qcl h.ld.bk.wrow e
 ·exact qcl h.ld.bk.arow e
 ·exact qcl h.ld.rnd.row e
theorem LdAt.qdy(h:LdAt W nodes rr bt r lst vw va ev ws as_ evs){t:TypeId}(hx:Blk W b t vs)(h1:t≠188)(h2:t≠102)(h3:t≠95)(h4:t≠60):¬LdT rr bt vw va ev b:=by
 rintro(e|(e|e|e)|e)
 ·exact qax hx h.ld.rnd.at_ h1 e
 ·exact qax hx h.ld.bk.at_ h2 e
 ·exact qag h.ld.bk.wrow hx (fun e=>h3 e.symm) e
 ·exact qag h.ld.bk.arow hx (fun e=>h3 e.symm) e
 ·exact qag h.ld.rnd.row hx (fun e=>h4 e.symm) e
end
structure GC (nodes:List Node) (rr bt:Nat) (r:Node) (lst:Value) (w:World) (D:Nat) (dQ dP dK:Value) (ws0 dJ:List Pw) (fin:SS) (k:Nat) (A:World) (v:Value) (ys:List Pw) (vw va ev:Value) (ws as_:List Pw) (s:SS):Prop where
 hp:HpAt A (w.heap.size+1) (.func (.func 168) #[] #[]) v ys
 heap:qbp ltP ys
 mem:∀p∈ys,p∈ws++as_
 ld:LdAt A nodes rr bt r lst vw va ev ws as_ s.evs
 rel:Rel nodes s.Ws ws as_
 inv:SInv s
 it:fin=iterS (ownStep (nodes.map Node.ent)) k s
 ms:mOwn (nodes.map Node.ent) s.Ws<=k
 bd:s.evs.length+25*k<=1000
 st:qbu rr bt w A dQ dP dK vw va ev
 out:qdh nodes rr bt vw va ev ws as_ (fun y=>y=w.heap.size+1\/v.ownBlock=some y)
 low:∀b,v.ownBlock=some b->w.heap.size<=b
 sub:∀p∈ws++as_,p∈ws0++dJ
 b1:Box A w.heap.size 186 (vP rr)
 b3:Box A (w.heap.size+1+1) 216 (vP (w.heap.size+1))
 d:A.heap[D]?=some (.deferred (some []))
section
variable {nodes:List Node}{rr bt:Nat}{r:Node}{lst:Value}{w:World}{D:Nat}{dQ dP dK:Value}{ws0 dJ:List Pw}{fin:SS}{k:Nat}{A A':World}{v:Value}{ys:List Pw}{vw va ev:Value}{ws as_:List Pw}{s:SS}
theorem GC.below(h:GC nodes rr bt r lst w D dQ dP dK ws0 dJ fin k A v ys vw va ev ws as_ s)(hb:Bw A A'):GC nodes rr bt r lst w D dQ dP dK ws0 dJ fin k A' v ys vw va ev ws as_ s :=
 ⟨h.hp.below hb,h.heap,h.mem,h.ld.below hb,h.rel,h.inv,h.it,h.ms,h.bd,h.st.below hb,h.out,h.low,h.sub,h.b1.below hb h.b1.lt,h.b3.below hb h.b3.lt,(hb.block D (xrc.1 h.d).1).trans h.d⟩
theorem GC.ql6(h:GC nodes rr bt r lst w D dQ dP dK ws0 dJ fin k A v ys vw va ev ws as_ s)(hp:HpAt A' (w.heap.size+1) (.func (.func 168) #[] #[]) v' zs)(hh:qbp ltP zs)(hm:∀p∈zs,p∈ws++as_)(hk:Keep (fun y=>y=w.heap.size+1\/v.ownBlock=some y) A A')(hn:v'.ownBlock=v.ownBlock\/∃g,v'.ownBlock=some g/\A.heap.size<=g):GC nodes rr bt r lst w D dQ dP dK ws0 dJ fin k A' v' zs vw va ev ws as_ s:=by
 have uR:∀b,(b=w.heap.size+1\/v.ownBlock=some b)->w.heap.size<=b:=fun b e=>e.elim (fun e=>by omega) (h.low b)
 have Ba:=h.st.keep.size
 refine⟨hp,hh,hm,h.ld.keep hk h.out,h.rel,h.inv,h.it,h.ms,h.bd,⟨h.st.keep.qbo hk (fun b hb e=>by have:=uR b e;omega),h.st.new⟩,?_,?_,h.sub,h.b1.keep hk (h.hp.qdy h.b1 (by decide) (by decide)),h.b3.keep hk (h.hp.qdy h.b3 (by decide) (by decide)),qfy hk h.d h.hp.isC⟩
 ·rcases hn with e|⟨g,e,hg⟩
  ·rw[e];exact h.out
  ·have h1:=h.out.mono (T':=fun y=>y=w.heap.size+1) (fun b e=>.inl e);have h2:=h.ld.lt (T:=fun y=>v'.ownBlock=some y) (fun b e'=>by rw[e]at e';cases e';exact hg)
   exact h1.or h2
 ·intro b hb
  rcases hn with e|⟨g,e,hg⟩
  ·rw[e]at hb;exact h.low b hb
  ·rw[e]at hb;cases hb;omega
theorem GC.qng(h:GC nodes rr bt r lst w D dQ dP dK ws0 dJ fin k A v ys vw va ev ws as_ s){k':Nat}(hl:LdAt A' nodes rr bt r lst aQ aX ck bg aR s'.evs)(bW:qbu rr bt A A' vw va ev aQ aX ck)(gy:∀p∈bg++aR,p∈ws++as_)(ir:∀p∈ws++as_,p∈bg++aR)(hr:Rel nodes s'.Ws bg aR)(hi:SInv s')(Dk:fin=iterS (ownStep (nodes.map Node.ent)) k' s')(wJ:mOwn (nodes.map Node.ent) s'.Ws<=k')(pg:s'.evs.length+25*k'<=1000):GC nodes rr bt r lst w D dQ dP dK ws0 dJ fin k' A' v ys aQ aX ck bg aR s':=by
 have hk:=bW.keep;have uS:∀b,(b=w.heap.size+1\/v.ownBlock=some b)->b<A.heap.size:=fun b e=>e.elim (fun e=>by have:=h.hp.at_.lt;omega) (fun e=>qal h.hp.row e)
 refine⟨h.hp.keep hk (h.out.ldt (.inl rfl)) (fun b hb=>h.out.ldt (.inr hb)),h.heap,fun p hp=>ir p (h.mem p hp),hl,hr,hi,Dk,wJ,pg,h.st.trans bW,h.out.step bW uS gy,h.low,fun p hp=>h.sub p (gy p hp),h.b1.keep hk (h.ld.qdy h.b1 (by decide) (by decide) (by decide) (by decide)),h.b3.keep hk (h.ld.qdy h.b3 (by decide) (by decide) (by decide) (by decide)),qfy hk h.d h.ld.isC⟩
def G1 (nodes:List Node)(rr bt:Nat)(r:Node)(lst:Value)(w:World)(D:Nat)(dQ dP dK:Value)(ws0 dJ:List Pw)(fin:SS)(k:Nat)(hv sv:Value)(A:World):Prop :=
 ∃v ys vw va ev ws as_ s,GC nodes rr bt r lst w D dQ dP dK ws0 dJ fin k A v ys vw va ev ws as_ s /\
  ((sv=.bool false/\hv=.pointer none/\fin=s)\/(sv=.bool true/\∃a,hv=vP a.blk/\a∈ws++as_/\qb2 (nodes.map Node.ent) s.Ws (a.x::ys.map (·.x))/\∀b∈ys,ltP b a=false))
theorem GC.len(h:GC nodes rr bt r lst w D dQ dP dK ws0 dJ fin k A v ys vw va ev ws as_ s)(hO:qb2 (nodes.map Node.ent) s.Ws (ys.map (·.x))):ys.length<=24:=by
 have h1:(ys.map (·.x)).length<=s.Ws.length:=by
  have aF:∀y∈ys.map (·.x),y∈s.Ws:=fun y hy=>(qak ((hO.all y).1 hy).1).1
  have df:=hO.nd;have ju:((ys.map (·.x)).map (·.num)).Nodup:=by
   rw[List.nodup_iff_pairwise_ne,List.pairwise_map];rw[List.nodup_iff_pairwise_ne]at df
   exact df.imp_of_mem (fun ha hb aW e=>aW (qew h.inv.wks.nums (aF _ ha) (aF _ hb) e))
  have:=qdg ju (l':=s.Ws.map (·.num)) (fun x hx=>by
   obtain⟨y,hy,rfl⟩:=xrq.1 hx
   exact xrq.2 ⟨y,aF y hy,rfl⟩)
  simpa using this
 have h2:=h.inv.wks.wks.len
 simp at h1
 omega
theorem GC.pop(T0:Tree nodes)(h:GC nodes rr bt r lst w D dQ dP dK ws0 dJ fin k A v ys vw va ev ws as_ s)(hO:qb2 (nodes.map Node.ent) s.Ws (ys.map (·.x))):
  Cl 171 #[vP (w.heap.size+1)] A fun e A'=>∃hv sv,e=.returned (.tuple #[hv,sv])/\G1 nodes rr bt r lst w D dQ dP dK ws0 dJ fin k hv sv A':=by
 have hl:=h.len hO
 refine(qv8 qnp h.hp (by omega) h.heap (h.ld.befs T0 h.out h.mem)).mono ?_
 rintro e A' (⟨h0,rfl,rfl⟩|⟨a,v',zs,h1,rfl,h2,h3,h4,h5,h6⟩)
 ·subst h0
  refine⟨_,_,rfl,v,[],vw,va,ev,ws,as_,s,h,.inl ⟨rfl,rfl,?_⟩⟩
  rw[h.it]
  exact qb9 (hO.ends h.inv) k
 ·have dR:=h.heap.min qnp h1 (qb8 _)
  refine⟨_,_,rfl,v',zs,vw,va,ev,ws,as_,s,h.ql6 h4 h3 (fun p hp=>h.mem p (h2.mem_iff.1 (xru _ hp))) h5 (.inl h6),.inr ⟨rfl,a,rfl,h.mem a (h2.mem_iff.1 (List.mem_cons_self ..)),?_,fun b hb=>?_⟩⟩
  ·exact hO.perm (h2.symm.map (·.x))
  ·obtain⟨j,hj⟩:=xre (h2.mem_iff.1 (xru a hb))
   exact dR j b hj
end
theorem qr1{s:SS}(I:SInv s)(hO:qb2 L s.Ws hs):hs.length<=24:=by
 have h1:hs.length<=s.Ws.length:=by
  have aF:∀y∈hs,y∈s.Ws:=fun y hy=>(qak ((hO.all y).1 hy).1).1
  have df:=hO.nd;have ju:(hs.map (·.num)).Nodup:=by
   rw[List.nodup_iff_pairwise_ne,List.pairwise_map];rw[List.nodup_iff_pairwise_ne]at df
   exact df.imp_of_mem (fun ha hb aW e=>aW (qew I.wks.nums (aF _ ha) (aF _ hb) e))
  have:=qdg ju (l':=s.Ws.map (·.num)) (fun x hx=>by
   obtain⟨y,hy,rfl⟩:=xrq.1 hx
   exact xrq.2 ⟨y,aF y hy,rfl⟩)
  simpa using this
 have h2:=I.wks.wks.len
 omega
section
variable {nodes:List Node}{rr bt:Nat}{r:Node}{lst:Value}{w:World}{D:Nat}{dQ dP dK:Value}{ws0 dJ:List Pw}{fin:SS}{k:Nat}{A A':World}{v:Value}{ys:List Pw}{vw va ev:Value}{ws as_:List Pw}{s:SS}
theorem GC.owned(h:GC nodes rr bt r lst w D dQ dP dK ws0 dJ fin k A v ys vw va ev ws as_ s){a:Pw}(ha:a∈ws++as_)(hO:qb2 (nodes.map Node.ent) s.Ws (a.x::ys.map (·.x)))(dR:∀b∈ys,ltP b a=false):
  RInv (nodes.map Node.ent) a.x s.st s.Ws/\s.evs.length+admN s.Ws<=10000/\(room (nodes.map Node.ent) a.x (admN s.Ws) ⟨s.Ws,s.evs⟩).evs.length<=10000 /\
  (∀ws1 gS,Rel nodes (room (nodes.map Node.ent) a.x (admN s.Ws) ⟨s.Ws,s.evs⟩).Ws ws1 gS->a∈ws1++gS->∃i:Nat,ws1[i]?=some a/\Rel nodes (qcs (nodes.map Node.ent) a.x s).Ws (ws1.take i++ws1.drop (i+1)) (gS++[a])) /\
  SInv (qcs (nodes.map Node.ent) a.x s)/\qb2 (nodes.map Node.ent) (qcs (nodes.map Node.ent) a.x s).Ws (moreOwn (nodes.map Node.ent) (qcs (nodes.map Node.ent) a.x s).Ws a.x.key++ys.map (·.x)) /\
  ∃k',k=k'+1/\fin=iterS (ownStep (nodes.map Node.ent)) k' (qcs (nodes.map Node.ent) a.x s)/\mOwn (nodes.map Node.ent) (qcs (nodes.map Node.ent) a.x s).Ws<=k'/\(qcs (nodes.map Node.ent) a.x s).evs.length+25*k'<=1000:=by
 obtain⟨d1,d2,d3⟩:=hO.does h.inv (fun y hy=>by
  obtain⟨b,hb,rfl⟩:=xrq.1 hy
  exact dR b hb)
 obtain⟨i1,i2,i3,i4,i5⟩:=h.inv.own d1;have dY:admN s.Ws<=24:=Nat.le_trans (xrh _ _) h.inv.wks.wks.len;have pg:=h.bd;have wJ:=h.ms;obtain⟨g1,g2,g3,g4⟩:=RInv.room (admN s.Ws) ⟨s.Ws,s.evs⟩ d2
 simp only at g3
 refine⟨d2,by omega,by omega,fun ws1 gS mh mj=>?_,i1,d3,?_⟩
 ·obtain⟨i,hi⟩:=mh.idx g1.wks mj g1.head;obtain⟨x1,x2,_⟩:=qak g1.head;obtain⟨ix,qB⟩:=xre x1
  refine⟨i,hi,?_⟩
  have e:(qcs (nodes.map Node.ent) a.x s).Ws=(room (nodes.map Node.ent) a.x (admN s.Ws) ⟨s.Ws,s.evs⟩).Ws.set ix (a.x.adm (s.st+1)):=qfa g1.wks.nums qB _;rw[e]
  exact mh.admit g1.wks h.inv.st0 hi qB x2 rfl
 ·obtain⟨k',rfl⟩:∃k',k=k'+1:=⟨k-1,by omega⟩
  exact⟨k',rfl,by rw[h.it];exact qfb d1 k',by omega,by omega⟩
theorem GC.qs0(T0:Tree nodes)(hB:qa7 nodes)(h:GC nodes rr bt r lst w D dQ dP dK ws0 dJ fin k A v ys vw va ev ws as_ s)(hn:n∈nodes)(hO:qb2 (nodes.map Node.ent) s.Ws (moreOwn (nodes.map Node.ent) s.Ws n.key++ys.map (·.x))):
  Cl 170 #[vP rr,vP (w.heap.size+1),optP (qbl ws n.blk)] A fun e A'=>e=.returned (.tuple #[])/\∃v' zs,GC nodes rr bt r lst w D dQ dP dK ws0 dJ fin k A' v' zs vw va ev ws as_ s/\qb2 (nodes.map Node.ent) s.Ws (zs.map (·.x)):=by
 have hl:=qr1 h.inv hO
 simp at hl
 refine(qhb T0 hB h.ld h.hp h.heap (by omega) h.mem h.out (qbl ws n.blk) (fun p e=>xr9 _ (qeu e))).mono ?_
 rintro e A' ⟨he,v',zs,y1,y2,y3,y4,y5⟩
 have ai:∀p∈ownMore nodes as_ (qbl ws n.blk),p∈ws:=fun p hp=>by
  unfold ownMore at hp
  cases hh:qbl ws n.blk with
  |none=>rw[hh]at hp;cases hp
  |some q =>
   rw[hh]at hp
   simp only at hp
   split at hp
   ·simp at hp;subst hp;exact qeu hh
   ·cases hp
 refine⟨he,v',zs,h.ql6 y3 y2 (fun p hp=>?_) y4 y5,?_⟩
 ·rcases xri.1 (y1.mem_iff.1 hp) with e|e
  ·exact h.mem p e
  ·exact xr9 _ (ai p e)
 ·refine hO.perm ?_
  rw[<-h.rel.more T0 hB h.inv.wks.wks hn]
  have:=y1.map (·.x)
  rw[List.map_append]at this
  exact List.perm_append_comm.trans this.symm
end
end
section
open Go.RowKit
variable {w:World}{nodes:List Node}{bt rr:Nat}{va:Value}{l:List Pw}{r:Node}{p:Pw}
def ltA (a b:Ak):Bool:=before (a.p.x,a.s) (b.p.x,b.s)
theorem qip:Ord ltA:=⟨fun a b h=>qle _ _ h,fun a b c h1 h2=>qkr _ _ _ h1 h2⟩
theorem qqe{a b:Ak}(ha:Blk w a.p.blk 105 a.p.cells)(hb:Blk w b.p.blk 105 b.p.cells):
  Cl 176 #[akv a,akv b] w fun e w'=>e=.returned (.bool (ltA a b))/\Bw w w':=by
 have la:=ha.lt;have lb:=hb.lt;have na:∀W,Bw w W->W.cell? (vA a.p.blk 0)=some (vI a.p.x.num):=fun W hW=>(ha.below hW la).cell 0
 have nb:∀W,Bw w W->W.cell? (vA b.p.blk 0)=some (vI b.p.x.num):=fun W hW=>(hb.below hW lb).cell 0
 obtain⟨W0,bJ⟩:∃W0,W0=(w.alloc (.cells #[vP a.p.blk,vI a.s] 226)).alloc (.cells #[vP b.p.blk,vI b.s] 226):=⟨_,rfl⟩;have aO:Bw w W0:=by rw[bJ];exact bel2
 have b1:Blk W0 w.heap.size 226 #[vP a.p.blk,vI a.s]:=by rw[bJ];exact blk2
 have b2:Blk W0 (w.heap.size+1) 226 #[vP b.p.blk,vI b.s]:=by rw[bJ];exact Blk.new' (by simp)
 have ka:=na _ aO;have kb:=nb _ aO;have x0:=b1.cell 0;have x1:=b1.cell 1;have y0:=b2.cell 0;have y1:=b2.cell 1;simp only[xq0,xq1,xq2]at x0 x1 y0 y1;have ak:ltA a b=if a.s≠b.s then decide (a.s<b.s) else decide (a.p.x.num<b.p.x.num):=rfl
 unfold akv nptr
 go_enter func176,ntmps176
 rw[bJ]at ka kb x0 x1 y0 y1
 by_cases hs:a.s=b.s
 ·rw[ak,if_neg (by simp[hs])];have cv:(a.s == b.s)=true:=by simp[hs]
  clear ak hs
  go_upto_region 3 with fail
  go_region
  all_goals go_wp2_with fail
  all_goals go_ret
  all_goals exact⟨rfl,by exact bel2⟩
 ·rw[ak,if_pos hs];have cv:(a.s == b.s)=false:=by simp[hs]
  clear ak
  go_wp2_with fail
  go_ret
  exact⟨rfl,by exact bel2⟩
theorem wrap64_in{n:Int}(h0:0<=n)(h1:n<=2000000000):wrap64 n=n:=by unfold wrap64;omega
theorem Blk.new2(W:World)(o:Obj)(t:TypeId)(vs:Array Value):Blk ((W.alloc o).alloc (.cells vs t)) (W.heap.size+1) t vs:=by
 have:=Blk.new (W.alloc o) t vs
 rwa[xrt]at this
def qc0 (nodes:List Node)(l:List Pw)(x:Wk):Int:=max (abv (ws0 (pun l x.key)+x.d0) (pn0 nodes x.key)*max 1 (pn1 nodes [])) (abv (ws1 (pun l x.key)+x.d1) (pn1 nodes x.key)*max 1 (pn0 nodes []))
theorem qjh(T:Tree nodes)(hB:qa7 nodes)(h:Rd w nodes bt rr va l)(hr:r∈nodes)(bK:r.key=[])(JK:w.cell? (vA rr 0)=some (nptr r.blk))(hp:PwIn w nodes p):
  Cl 178 #[vP rr,nptr p.blk] w fun e w'=>e=.returned (akv ⟨p,qc0 nodes l p.x⟩)/\Bw w w':=by
 have kD:=fun W (hW:Bw w W)=>qjr T hB (h.below hW) (hp.below hW)
 have a7:=fun W (hW:Bw w W)=>qcz T hr W (h.below hW).ins
 have AU:rr<w.heap.size:=xrb _ _ h.bk;have AT:=fun W (hW:Bw w W)=>(hW.cell (p:=vA rr 0) AU).trans JK
 have ubd:=h.ubd p.x.key;have z_:=qna T p.x.key;have Oj:=qna T [];have Mr:=hp.num;rw[bK]at a7;unfold qc0;have Mc:(0<=abv (ws0 (pun l p.x.key)+p.x.d0) (pn0 nodes p.x.key)/\abv (ws0 (pun l p.x.key)+p.x.d0) (pn0 nodes p.x.key)<=100000)/\(0<=abv (ws1 (pun l p.x.key)+p.x.d1) (pn1 nodes p.x.key)/\abv (ws1 (pun l p.x.key)+p.x.d1) (pn1 nodes p.x.key)<=100000):=by unfold abv;omega
 generalize abv (ws0 (pun l p.x.key)+p.x.d0) (pn0 nodes p.x.key)=a0 at *;generalize abv (ws1 (pun l p.x.key)+p.x.d1) (pn1 nodes p.x.key)=a1 at *;generalize pn0 nodes []=n0 at *;generalize pn1 nodes []=n1 at *;unfold akv nptr at *
 go_enter func178,ntmps178
 go_upto_region 1 with fail
 obtain⟨W0,bJ⟩:∃W0,W0=w.alloc (.cells #[.pointer none,vI 0] 226):=⟨_,rfl⟩;have aO:Bw w W0:=by rw[bJ];exact bel2
 have b4:Blk W0 w.heap.size 226 #[.pointer none,vI 0]:=by rw[bJ];exact blk2
 have cZ:w.heap.size+1<=W0.heap.size:=by rw[bJ];simp
 rw[<-bJ];clear bJ;have r0:=AT _ aO;have Er:¬(rr=W0.heap.size):=(by omega);have zW:¬(W0.heap.size=rr):=(by omega);have Es:¬(rr=W0.heap.size+1):=(by omega);have zX:¬(W0.heap.size+1=rr):=(by omega)
 go_cut [5,6] from 8 to 15 (fun c5 c6 wx=>∃b5 b6,c5=vP b5/\c6=vP b6/\Bw W0 wx/\Blk wx b5 35 #[vI a0,vI a1]/\Blk wx b6 35 #[vI n0,vI n1]/\W0.heap.size<=b5/\W0.heap.size<=b6)
 case first =>
  go_region_held3 (fun w'=>w'.cell? (vA rr 0)=some (vP r.blk)) (go_keep)
   (first
   |(go_at_call 207;refine(kD _ (qac aO ?_)).mono ?_;(focus exact bel2);rintro e w1 ⟨rfl,aa⟩;have aj:Bw W0 w1:=qac (by exact bel2) aa;have r1:=AT _ (qac aO aj);have cJ:=aj.size;have K8:¬(rr=w1.heap.size):=(by omega);have G8:¬(w1.heap.size=rr):=(by omega);have K9:¬(rr=w1.heap.size+1):=(by omega);have KA:¬(w1.heap.size+1=rr):=(by omega);(try (have d1:Blk w1 W0.heap.size 35 #[vI 0,vI 0]:=Blk.below (by first|(with_reducible exact Blk.new _ _ _)|(with_reducible exact Blk.drew (Blk.new _ _ _))|(with_reducible exact Blk.alloc (Blk.new _ _ _) _)|(with_reducible exact Blk.drew (Blk.alloc (Blk.new _ _ _) _))|(with_reducible exact Blk.new2 _ _ _ _)|(with_reducible exact Blk.drew (Blk.new2 _ _ _ _))) aa (by first|omega|(simp<;>omega));have Kv:=d1.lt;have NQ:¬(W0.heap.size=w1.heap.size):=(by omega);have NR:¬(w1.heap.size=W0.heap.size):=(by omega);have KM:¬(W0.heap.size=w1.heap.size+1):=(by omega);have KN:¬(w1.heap.size+1=W0.heap.size):=(by omega)));(try (have Fk:Blk w1 (W0.heap.size+1) 35 #[vI 0,vI 0]:=Blk.below (by first|(with_reducible exact Blk.new _ _ _)|(with_reducible exact Blk.drew (Blk.new _ _ _))|(with_reducible exact Blk.alloc (Blk.new _ _ _) _)|(with_reducible exact Blk.drew (Blk.alloc (Blk.new _ _ _) _))|(with_reducible exact Blk.new2 _ _ _ _)|(with_reducible exact Blk.drew (Blk.new2 _ _ _ _))) aa (by first|omega|(simp<;>omega));have Ep:=Fk.lt;have NS:¬(W0.heap.size+1=w1.heap.size):=(by omega);have NT:¬(w1.heap.size=W0.heap.size+1):=(by omega);have KO:¬(W0.heap.size+1=w1.heap.size+1):=(by omega);have KQ:¬(w1.heap.size+1=W0.heap.size+1):=(by omega))))
   |(go_at_call 85;refine(a7 _ (qac aO ?_)).mono ?_;(focus exact bel2);rintro e w2 ⟨rfl,af⟩;have aw:Bw W0 w2:=qac (by exact bel2) af;have r2:=AT _ (qac aO aw);have dO:=aw.size;have KC:¬(rr=w2.heap.size):=(by omega);have G9:¬(w2.heap.size=rr):=(by omega);have KD:¬(rr=w2.heap.size+1):=(by omega);have KE:¬(w2.heap.size+1=rr):=(by omega);(try (have:=Kv;have d2:Blk w2 W0.heap.size 35 #[vI 0,vI 0]:=Blk.below (by first|(with_reducible exact d1)|(with_reducible exact d1.alloc _)) af (by first|omega|(simp<;>omega));have Ml:=d2.cell;have M0:=d2.frozen;have Nq:=d2.lt;have KV:¬(W0.heap.size=w2.heap.size):=(by omega);have KW:¬(w2.heap.size=W0.heap.size):=(by omega)));(try (have:=Ep;have BX:Blk w2 (W0.heap.size+1) 35 #[vI 0,vI 0]:=Blk.below (by with_reducible exact Fk) af (by first|omega|(simp<;>omega));have Mm:=BX.cell;have M4:=BX.frozen;have Nr:=BX.lt;have KX:¬(W0.heap.size+1=w2.heap.size):=(by omega);have KY:¬(w2.heap.size=W0.heap.size+1):=(by omega)));(try (have g2:Blk w2 w1.heap.size 35 #[vI 0,vI 0]:=Blk.below (by first|(with_reducible exact Blk.new _ _ _)|(with_reducible exact Blk.drew (Blk.new _ _ _))|(with_reducible exact Blk.alloc (Blk.new _ _ _) _)|(with_reducible exact Blk.drew (Blk.alloc (Blk.new _ _ _) _))|(with_reducible exact Blk.new2 _ _ _ _)|(with_reducible exact Blk.drew (Blk.new2 _ _ _ _))) af (by first|omega|(simp<;>omega));have Mn:=g2.cell;have M5:=g2.frozen;have Ns:=g2.lt;have KZ:¬(w1.heap.size=w2.heap.size):=(by omega);have K_:¬(w2.heap.size=w1.heap.size):=(by omega)));(try (have Ce:Blk w2 (w1.heap.size+1) 35 #[vI 0,vI 0]:=Blk.below (by first|(with_reducible exact Blk.new _ _ _)|(with_reducible exact Blk.drew (Blk.new _ _ _))|(with_reducible exact Blk.alloc (Blk.new _ _ _) _)|(with_reducible exact Blk.drew (Blk.alloc (Blk.new _ _ _) _))|(with_reducible exact Blk.new2 _ _ _ _)|(with_reducible exact Blk.drew (Blk.new2 _ _ _ _))) af (by first|omega|(simp<;>omega));have Mo:=Ce.cell;have M6:=Ce.frozen;have Nt:=Ce.lt;have NX:¬(w1.heap.size+1=w2.heap.size):=(by omega);have NY:¬(w2.heap.size=w1.heap.size+1):=(by omega))))
   )
  all_goals go_wp2_with fail
  all_goals go_meet
  all_goals refine⟨_,_,rfl,rfl,?_,?_,?_,?_,?_⟩
  all_goals first
   |(with_reducible omega)
   |((repeat (first|(with_reducible assumption)|(with_reducible refine qbk ?_ (by omega) ..)|((with_reducible refine Below.alloc ?_ ?_ _);rotate_left;(focus (first|omega|(simp<;>omega))))));done)
   |((repeat (first|(with_reducible assumption)|(with_reducible exact Blk.new _ _ _)|(with_reducible exact Blk.new2 _ _ _ _)|(with_reducible exact qc4 (by assumption) ..)|(with_reducible refine Blk.alloc ?_ _)|(with_reducible refine qff ?_ (by omega) ..)));done)
   |(with_reducible exact qc4 (qff (by assumption) (by omega) ..) ..)
   |exact Blk.new' (by simp)
 case rest =>
  obtain⟨b5,b6,rfl,rfl,cY,c5,c6,Du,MO⟩:=hcut;clear kD a7 AT r0 Er zW Es zX;have Aq:=b4.below cY b4.lt;have x0:=c5.cell 0;have x1:=c5.cell 1;have y0:=c6.cell 0;have y1:=c6.cell 1;simp only[xq0,xq1,xq2]at x0 x1 y0 y1;have bx:∀a n:Int,0<=a->a<=100000->0<=n->n<=20000->0<=a*max 1 n/\a*max 1 n<=2000000000:=fun a n h1 h2 h3 h4=>by
   have h5:1<=max 1 n:=by omega
   have h6:max 1 n<=20000:=by omega
   generalize max 1 n=m at h5 h6
   exact⟨Int.mul_nonneg h1 (by omega),by
    have:=Int.mul_le_mul h2 h6 (by omega) (by omega)
    omega⟩
  have b1:=bx a0 n1 (by omega) (by omega) (by omega) (by omega);have b2:=bx a1 n0 (by omega) (by omega) (by omega) (by omega);clear bx;have f4:=Aq.frozen;have g4:=Aq.cell;have e1:(max 1 n1=1/\n1<=1)\/(max 1 n1=n1/\1<n1):=by omega
  have e2:(max 1 n0=1/\n0<=1)\/(max 1 n0=n0/\1<n0):=by omega
  rcases e1 with ⟨e1,h1⟩|⟨e1,h1⟩<;>rcases e2 with ⟨e2,h2⟩|⟨e2,h2⟩
  all_goals rw[e1]at b1
  all_goals rw[e2]at b2
  all_goals try simp only[Int.mul_one]at b1
  all_goals try simp only[Int.mul_one]at b2
  all_goals have k1:=wrap64_in b1.1 b1.2
  all_goals have k2:=wrap64_in b2.1 b2.2
  all_goals have E1:Hid (max 1 n1=_):=e1
  all_goals have E2:Hid (max 1 n0=_):=e2
  all_goals clear e1 e2
  all_goals go_wp2_with fail
  all_goals refine xrn (v:=.agg #[vP p.blk,vI (max (a0*max 1 n1) (a1*max 1 n0))]) ?_ rfl ⟨rfl,?_⟩
  all_goals first
   |exact qbk (qac aO cY) (Nat.le_refl _) ..
   |skip
  all_goals rw[E1.out,E2.out]
  all_goals simp[results,results178,go_sem,g4]
  all_goals omega
end
end Go.Proofs.YtphclnolomgjoaaGreatDoor
