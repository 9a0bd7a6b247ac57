import Derived.Test.YtphclnolomgjoaaGreatDoorB15
set_option linter.unusedVariables false
set_option linter.unusedSimpArgs false
set_option maxRecDepth 100000
set_option maxHeartbeats 4000000
namespace Go.Proofs.YtphclnolomgjoaaGreatDoor
open Tryz
section
open Go.RowKit
variable {T T':Nat->Prop}{p:Pw}{w' w1 w2:World}{aI aO bC eU ei f fc fe ff gC v:Value}{aL an:List Pw}{kB:List (Int×Int)}{b hb i:Nat}{st:Int}{n:Node}
structure LdAt (W:World) (nodes:List Node) (rr bt:Nat) (r:Node) (ai vw va ev:Value) (ws as_:List Pw) (evs:List (Int×Int)):Prop where
 ins:∀n∈nodes,qag W n
 ld:qd6 W rr bt (nptr r.blk) (nptr r.blk) ai vw va ev ws as_ evs
 lf:∀p∈ws++as_,∃n∈nodes,n.blk=p.q/\n.key=p.x.key
 nm:∀p∈ws++as_,(0<=p.x.d0/\p.x.d0<=1000)/\(0<=p.x.d1/\p.x.d1<=1000)
structure qds (nodes:List Node) (rr bt:Nat) (vw va ev:Value) (ws as_:List Pw) (T:Nat->Prop):Prop where
 ns:∀n∈nodes,¬T n.blk/\∀g,n.sl.ownBlock=some g->¬T g
 rr:¬T rr
 bt:¬T bt
 vw:∀b,vw.ownBlock=some b->¬T b
 va:∀b,va.ownBlock=some b->¬T b
 ev:∀b,ev.ownBlock=some b->¬T b
 ws:∀p∈ws++as_,¬T p.blk
section
variable {W W':World}{nodes:List Node}{rr bt:Nat}{r:Node}{ai vw va ev:Value}{ws as_:List Pw}{evs:List (Int×Int)}
theorem LdAt.keep(h:LdAt W nodes rr bt r ai vw va ev ws as_ evs)(hk:Keep T W W')(ho:qds nodes rr bt vw va ev ws as_ T):LdAt W' nodes rr bt r ai vw va ev ws as_ evs :=
 ⟨qe2 ho.ns h.ins hk,⟨h.ld.bk.keep hk ho.bt ho.vw ho.va ho.ws,h.ld.rnd.keep hk ho.rr ho.ev⟩,h.lf,h.nm⟩
theorem LdAt.below(h:LdAt W nodes rr bt r ai vw va ev ws as_ evs)(hb:Below W.heap.size W W'):LdAt W' nodes rr bt r ai vw va ev ws as_ evs :=
 h.keep (T:=fun _=>False) (Keep.new hb) ⟨fun _ _=>⟨id,fun _ _=>id⟩,id,id,fun _ _=>id,fun _ _=>id,fun _ _=>id,fun _ _=>id⟩
theorem LdAt.cells(h:LdAt W nodes rr bt r ai vw va ev ws as_ evs):W.cell? ⟨rr,0,none⟩=some (nptr r.blk)/\W.cell? ⟨rr,1,none⟩=some (.pointer (some ⟨bt,1,none⟩))/\W.cell? ⟨rr,2,none⟩=some ev/\W.cell? ⟨bt,2,none⟩=some vw/\W.cell? ⟨bt,3,none⟩=some va :=
 ⟨h.ld.rnd.at_.cell 0,h.ld.rnd.at_.cell 1,h.ld.rnd.at_.cell 2,h.ld.bk.at_.cell 2,h.ld.bk.at_.cell 3⟩
theorem LdAt.rd(h:LdAt W nodes rr bt r ai vw va ev ws as_ evs):Rd W nodes bt rr va as_ :=
 ⟨h.ins,h.cells.2.1,h.cells.2.2.2.2,⟨h.ld.bk.arow,fun p hp=>h.ld.bk.works p (xra _ hp),fun p hp=>h.lf p (xra _ hp),fun p hp=>h.nm p (xra _ hp),by have:=h.ld.bk.len;omega⟩⟩
theorem LdAt.rw_(h:LdAt W nodes rr bt r ai vw va ev ws as_ evs):Rw W nodes bt rr r vw ws :=
 ⟨h.ins,h.cells.1,h.cells.2.1,h.cells.2.2.2.1,⟨h.ld.bk.wrow,fun p hp=>h.ld.bk.works p (xr9 _ hp)⟩,by have:=h.ld.bk.len;omega,fun p hp=>by obtain⟨n,h1,h2,_⟩:=h.lf p (xr9 _ hp);exact⟨n,h1,h2⟩⟩
theorem LdAt.pin(h:LdAt W nodes rr bt r ai vw va ev ws as_ evs)(hp:p∈ws++as_):PwIn W nodes p:=⟨h.ld.bk.works p hp,h.lf p hp,h.nm p hp⟩
theorem LdAt.lt(h:LdAt W nodes rr bt r ai vw va ev ws as_ evs)(hT:∀b,T b->W.heap.size<=b):qds nodes rr bt vw va ev ws as_ T :=
 ⟨fun n hn=>⟨fun e=>by have:=(h.ins n hn).lt;have:=hT _ e;omega,fun g hg e=>by have:=((h.ins n hn).row.lt g hg).2;have:=hT _ e;omega⟩,fun e=>by have:=h.ld.rnd.at_.lt;have:=hT _ e;omega,fun e=>by have:=h.ld.bk.at_.lt;have:=hT _ e;omega,fun b hb e=>by have:=qap h.ld.bk.wrow hb;have:=hT _ e;omega,fun b hb e=>by have:=qap h.ld.bk.arow hb;have:=hT _ e;omega,fun b hb e=>by have:=qap h.ld.rnd.row hb;have:=hT _ e;omega,fun p hp e=>by have:=(h.ld.bk.works p hp).lt;have:=hT _ e;omega⟩
theorem qds.or(h:qds nodes rr bt vw va ev ws as_ T)(h':qds nodes rr bt vw va ev ws as_ T'):qds nodes rr bt vw va ev ws as_ (fun b=>T b\/T' b) :=
 ⟨fun n hn=>⟨fun e=>e.elim (h.ns n hn).1 (h'.ns n hn).1,fun g hg e=>e.elim ((h.ns n hn).2 g hg) ((h'.ns n hn).2 g hg)⟩,fun e=>e.elim h.rr h'.rr,fun e=>e.elim h.bt h'.bt,fun b hb e=>e.elim (h.vw b hb) (h'.vw b hb),fun b hb e=>e.elim (h.va b hb) (h'.va b hb),fun b hb e=>e.elim (h.ev b hb) (h'.ev b hb),fun p hp e=>e.elim (h.ws p hp) (h'.ws p hp)⟩
theorem qds.mono(h:qds nodes rr bt vw va ev ws as_ T)(hm:∀b,T' b->T b):qds nodes rr bt vw va ev ws as_ T' :=
 ⟨fun n hn=>⟨fun e=>(h.ns n hn).1 (hm _ e),fun g hg e=>(h.ns n hn).2 g hg (hm _ e)⟩,fun e=>h.rr (hm _ e),fun e=>h.bt (hm _ e),fun b hb e=>h.vw b hb (hm _ e),fun b hb e=>h.va b hb (hm _ e),fun b hb e=>h.ev b hb (hm _ e),fun p hp e=>h.ws p hp (hm _ e)⟩
theorem qds.rw_(h:qds nodes rr bt vw va ev ws as_ T):qil nodes bt rr vw ws T:=⟨h.ns,h.rr,h.bt,h.vw,fun p hp=>h.ws p (xr9 _ hp)⟩
theorem LdAt.qja(h:LdAt W nodes rr bt r ai vw va ev ws as_ evs):∀n∈nodes,¬LdT rr bt vw va ev n.blk/\∀g,n.sl.ownBlock=some g->¬LdT rr bt vw va ev g:=fun n hn=>by
 have bJ:Blk W n.blk 136 n.cells:=(h.ins n hn).at_;have aS:=(h.ins n hn).row
 refine⟨?_,fun g hg=>?_⟩
 ·rintro(e|(e|e|e)|e)
  ·exact qaw bJ h.ld.rnd.at_ (by decide) e
  ·exact qaw bJ h.ld.bk.at_ (by decide) e
  ·exact qah h.ld.bk.wrow bJ (by decide) e
  ·exact qah h.ld.bk.arow bJ (by decide) e
  ·exact qah h.ld.rnd.row bJ (by decide) e
 ·rintro(e|(e|e|e)|e)
  ·subst e;exact qah aS h.ld.rnd.at_ (by decide) hg
  ·subst e;exact qah aS h.ld.bk.at_ (by decide) hg
  ·exact qd2 aS h.ld.bk.wrow (by decide) hg e
  ·exact qd2 aS h.ld.bk.arow (by decide) hg e
  ·exact qd2 aS h.ld.rnd.row (by decide) hg e
end
structure qcb (rr bt:Nat) (w w':World) (vw va ev aI aO bC:Value):Prop where
 keep:Keep (LdT rr bt vw va ev) w w'
 new:LdN w vw va ev aI aO bC
theorem qcb.refl(rr bt:Nat)(w:World)(vw va ev:Value):qcb rr bt w w vw va ev vw va ev:=⟨Keep.refl _ _,⟨fun b e=>e.elim (fun e=>.inl e) (fun e=>.inr (.inl e)),fun b e=>.inl e⟩⟩
theorem qcb.trans{rr bt:Nat}{w:World}{vw va ev:Value}(h:qcb rr bt w w1 vw va ev eU fc gC)(k:qcb rr bt w1 w2 eU fc gC ff fe ei):qcb rr bt w w2 vw va ev ff fe ei:=by
 refine⟨h.keep.qbm k.keep (fun b hb e=>?_),⟨fun b e=>?_,fun b e=>?_⟩⟩
 ·rcases e with e|(e|e|e)|e
  ·exact .inl e
  ·exact .inr (.inl (.inl e))
  ·rcases h.new.all b (.inl e) with e|e|e|e
   ·exact .inr (.inl (.inr (.inl e)))
   ·exact .inr (.inl (.inr (.inr e)))
   ·exact .inr (.inr e)
   ·omega
  ·rcases h.new.all b (.inr (.inl e)) with e|e|e|e
   ·exact .inr (.inl (.inr (.inl e)))
   ·exact .inr (.inl (.inr (.inr e)))
   ·exact .inr (.inr e)
   ·omega
  ·rcases h.new.all b (.inr (.inr e)) with e|e|e|e
   ·exact .inr (.inl (.inr (.inl e)))
   ·exact .inr (.inl (.inr (.inr e)))
   ·exact .inr (.inr e)
   ·omega
 ·rcases k.new.bk b e with e|e|e
  ·exact h.new.bk b (.inl e)
  ·exact h.new.bk b (.inr e)
  ·exact .inr (.inr (Nat.le_trans h.keep.size e))
 ·rcases k.new.ev b e with e|e
  ·exact h.new.ev b e
  ·exact .inr (Nat.le_trans h.keep.size e)
theorem qcb.below{rr bt:Nat}{w:World}{vw va ev:Value}(h:qcb rr bt w w1 vw va ev eU fc gC)(hb:Below w1.heap.size w1 w2):qcb rr bt w w2 vw va ev eU fc gC:=⟨h.keep.qj3 hb,h.new⟩
section
variable {w:World}{nodes:List Node}{rr bt:Nat}{r:Node}{ai vw va ev:Value}{ws as_:List Pw}{evs:List (Int×Int)}
theorem LdAt.next(h:LdAt w nodes rr bt r ai vw va ev ws as_ evs)(h2:qd6 w2 rr bt (nptr r.blk) (nptr r.blk) ai aI aO bC an aL kB)(hk:Keep (LdT rr bt vw va ev) w w2)(hn:LdN w vw va ev aI aO bC)(hm:∀p∈an++aL,p∈ws++as_):
  LdAt w2 nodes rr bt r ai aI aO bC an aL kB/\qcb rr bt w w2 vw va ev aI aO bC :=
 ⟨⟨qe2 h.qja h.ins hk,h2,fun p hp=>h.lf p (hm p hp),fun p hp=>h.nm p (hm p hp)⟩,⟨hk,hn⟩⟩
theorem LdAt.admit(h:LdAt w nodes rr bt r ai vw va ev ws as_ evs)(hl:evs.length<=10000)(hi:ws[i]?=some p):
  Calls prog 173 #[.pointer (some ⟨rr,0,none⟩),nptr p.blk] w fun e w'=>e=.returned (.tuple #[])/\∃aI aO bC,LdAt w' nodes rr bt r ai aI aO bC (ws.take i++ws.drop (i+1)) (as_++[p]) (evs++[(1,p.x.num)])/\qcb rr bt w w' vw va ev aI aO bC:=by
 refine(qp3 h.ld hl hi).mono ?_
 rintro e w' ⟨he,aI,aO,bC,h2,hk,hn⟩
 refine⟨he,aI,aO,bC,h.next h2 hk hn (fun q hq=>?_)⟩
 rcases xri.1 hq with h1|h1
 ·exact xr9 _ (qbl h1)
 ·rcases xri.1 h1 with h1|h1
  ·exact xra _ h1
  ·simp at h1;subst h1;exact xr9 _ (xr2 hi)
theorem qtw(T0:Tree nodes)(hB:qa1 nodes)(h:LdAt w nodes rr bt r ai vw va ev ws as_ evs){Ws:List Wk}(hp:p∈ws++as_)(hn:n∈nodes)(gv:n.blk=p.q)(bX:n.key=p.x.key)(R:Rel nodes Ws ws as_)(I:RInv (nodes.map Node.ent) p.x st Ws)(hl:evs.length+admN Ws<=10000):
  Calls prog 172 #[.pointer (some ⟨rr,0,none⟩),nptr p.blk] w fun e w'=>e=.returned (.tuple #[])/\∃aI aO bC an aL,LdAt w' nodes rr bt r ai aI aO bC an aL (room (nodes.map Node.ent) p.x (admN Ws) ⟨Ws,evs⟩).evs/\Rel nodes (room (nodes.map Node.ent) p.x (admN Ws) ⟨Ws,evs⟩).Ws an aL/\qcb rr bt w w' vw va ev aI aO bC/\an++aL ⊆ ws++as_/\ws++as_ ⊆ an++aL:=by
 have sw:∀(W:World) (vw va ev:Value) (ws as_:List Pw) (evs:List (Int×Int)),LdAt W nodes rr bt r ai vw va ev ws as_ evs->p∈ws++as_->Calls prog 210 #[.pointer (some ⟨rr,0,none⟩),.pointer (some ⟨p.blk,0,none⟩)] W fun e w'=>e=.returned (optP (vicP nodes as_ p.x n))/\Below W.heap.size W w':=fun W vw va ev ws as_ evs hW cI=>qot T0 hB hW.rd (hW.pin cI) hn gv
 have kr:=fun W (p:Pw)=>qhh (W:=W) (x:=p)
 have eZ:=fun W=>qet (W:=W)
 obtain⟨L,hL⟩:∃L,L=nodes.map Node.ent:=⟨_,rfl⟩;rw[<-hL]at I ⊢;obtain⟨aT,aF⟩:∃aT,aT=room L p.x (admN Ws) ⟨Ws,evs⟩:=⟨_,rfl⟩;rw[<-aF];have HL:Hid (L=nodes.map Node.ent):=hL;clear hL;unfold nptr
 go_enter func172,ntmps172
 go_wp2_with fail
 refine(sw _ _ _ _ _ _ _ h hp).mono ?_
 rintro e w1 ⟨rfl,aa⟩
 have h1:=h.below aa;generalize jw:optP (vicP nodes as_ p.x n)=v0;have Aj:Hid (optP (vicP nodes as_ p.x n)=v0):=jw;clear jw
 go_wp2_with fail
 go_loopg [4] (admN Ws) (fun q v wr=>∃(aI aO bC:Value) (an aL:List Pw) (s:MS),v=optP (vicP nodes aL p.x n)/\admN s.Ws<=q/\LdAt wr nodes rr bt r ai aI aO bC an aL s.evs/\Rel nodes s.Ws an aL/\RInv L p.x st s.Ws/\aT=room L p.x (admN s.Ws) s/\s.evs.length+admN s.Ws<=10000/\qcb rr bt w wr vw va ev aI aO bC/\an++aL ⊆ ws++as_/\ws++as_ ⊆ an++aL)
 case atStart=>exact⟨vw,va,ev,ws,as_,⟨Ws,evs⟩,Aj.out.symm,Nat.le_refl _,h1,R,I,aF,hl,(qcb.refl _ _ _ _ _ _).below aa,fun _ e=>e,fun _ e=>e⟩
 case round =>
  clear h1 aa aF hl R I;obtain⟨aI,aO,bC,an,aL,s,rfl,hq,hA,hR,hI,hf,a9,cJ,nZ,dW⟩:=hrel
  cases hv:vicP nodes aL p.x n with
  |none =>
   have ay:=hR.qwl T0 hI.wks hn bX hv;rw[<-HL.out]at ay;have aV:aT=s:=by rw[hf];exact room_end (qg5.2 ay) _
   have HF:Hid (aT=s):=aV;clear hf aV ay;simp only[optP]
   go_wp2_with fail
   go_end0
   refine⟨rfl,aI,aO,bC,an,aL,?_,?_,cJ,nZ,dW⟩
   ·rw[HF.out];exact hA
   ·rw[HF.out];exact hR
  |some q' =>
   obtain⟨i,v,iw,hi,cV,su,jw,tX⟩:=hR.qwm T0 hI.wks hn bX hv;rw[<-HL.out]at cV;have mu:=qji (s:=s) cV su;obtain⟨s',jW⟩:∃s':MS,s'=⟨v.adm 0::(s.Ws.take iw++s.Ws.drop (iw+1)),s.evs++[(2,v.num)]⟩:=⟨_,rfl⟩;rw[<-jW]at mu;have yH:=hI.step mu;have qL:=(qfp hI.wks mu).1;have iu:aT=room L p.x (admN s'.Ws) s':=by rw[hf,<- qL];exact qlu mu _
   have cX:Rel nodes s'.Ws (q'::an) (aL.take i++aL.drop (i+1)):=by rw[jW];exact hR.qjs hI.wks hi su jw tX
   have oE:s'.evs=s.evs++[(2,q'.x.num)]:=by rw[jW,tX];rfl
   have nR:s'.evs.length+admN s'.Ws<=10000:=by rw[oE];simp;omega
   have xf:=xr2 hi;have af:∀x∈(q'::an)++(aL.take i++aL.drop (i+1)),x∈an++aL:=fun x hx=>by
    rcases xri.1 hx with hx|hx
    ·rcases List.mem_cons.1 hx with rfl|hx
     ·exact xra _ xf
     ·exact xr9 _ hx
    ·exact xra _ (qbl hx)
   have nT:∀x∈an++aL,x∈(q'::an)++(aL.take i++aL.drop (i+1)):=fun x hx=>by
    rcases xri.1 hx with hx|hx
    ·exact xr9 _ (xru _ hx)
    ·have:=(qce hi).mem_iff.1 hx
     rcases List.mem_cons.1 this with rfl|this
     ·exact xr9 _ (List.mem_cons_self ..)
     ·exact xra _ this
   have oF:=qqg hA.ld.bk hi;have iD:∀w1 eU fc,BkAt w1 bt (nptr r.blk) ai eU fc (q'::an) (aL.take i++aL.drop (i+1))->Keep (BkT bt aI aO) wr w1->qd6 w1 rr bt (nptr r.blk) (nptr r.blk) ai eU fc bC (q'::an) (aL.take i++aL.drop (i+1)) s.evs:=fun w1 eU fc hb hk=>⟨hb,hA.ld.rnd.keep hk hA.ld.qg4.1 hA.ld.qg4.2⟩
   obtain⟨_,DP,_⟩:=hA.cells;have dH:=kr;clear eZ;have HX:Hid (RInv L p.x st s'.Ws/\aT=room L p.x (admN s'.Ws) s'/\Rel nodes s'.Ws (q'::an) (aL.take i++aL.drop (i+1))/\s'.evs=s.evs++[(2,q'.x.num)]/\s'.evs.length+admN s'.Ws<=10000/\admN s'.Ws+1=admN s.Ws):=⟨yH.1,iu,cX,oE,nR,qL⟩;clear yH iu cX oE nR qL mu cV su hf jW;simp only[optP];unfold nptr at oF ⊢
   go_wp2_with fail
   refine oF.mono ?_
   rintro e w2 ⟨rfl,eU,fc,aa,cf,dH⟩
   have h1:=iD w2 eU fc aa cf;have dy:=qnf h1.rnd (by omega) (h1.bk.works q' (by simp)) 2;clear oF iD;unfold nptr at dy
   go_wp2_with fail
   refine dy.mono ?_
   rintro e w3 ⟨rfl,gC,h2,aY,dR⟩
   obtain⟨t1,t2,t3⟩:=hA.ld.told h1 cf dH h2 aY dR;obtain⟨yC,xl⟩:=hA.next t1 t2 t3 af;have jf:=sw w3 _ _ _ _ _ _ yC (nT _ (dW hp));clear dy
   go_wp2_with fail
   refine jf.mono ?_
   rintro e w4 ⟨rfl,bf⟩
   obtain⟨y1,y2,y3,y4,y5,y6⟩:=HX.out;generalize hv4:optP (vicP nodes (aL.take i++aL.drop (i+1)) p.x n)=v4;have Al:Hid (optP (vicP nodes (aL.take i++aL.drop (i+1)) p.x n)=v4):=hv4;clear hv4
   go_wp2_with fail
   go_roundg (admN s'.Ws)
   case measure=>omega
   case rel=>exact⟨eU,fc,gC,_,_,s',Al.out.symm,Nat.le_refl _,by rw[y4];exact yC.below bf,y3,y1,y2,y5,(cJ.trans xl).below bf,fun x hx=>nZ (af x hx),fun x hx=>nT x (dW hx)⟩
end
def qel (nodes:List Node)(as_:List Pw):Option Pw->List Pw
 |some p=>if ownP nodes as_ p.x then [p] else []
 |none=>[]
section
variable {w:World}{nodes:List Node}{rr bt:Nat}{r:Node}{ai vw va ev:Value}{ws as_:List Pw}{evs:List (Int×Int)}
theorem LdAt.befs(h:LdAt w nodes rr bt r ai vw va ev ws as_ evs)(T0:Tree nodes)(ho:qds nodes rr bt vw va ev ws as_ T){ys:List Pw}(gz:∀p∈ys,p∈ws++as_):Befs w T ys ltP:=fun W hk a ha b hb=>by
 have hW:=h.keep hk ho
 exact qnm T0 hW.ins (hW.pin (gz a ha)) (hW.pin (gz b hb))
theorem HpAt.keep{W W':World}{ys:List Pw}(h:HpAt W hb f v ys)(hk:Keep T W W')(h1:¬T hb)(h2:∀b,v.ownBlock=some b->¬T b):HpAt W' hb f v ys:=⟨h.at_.keep hk h1,qaf h.row hk h2,h.ne⟩
theorem qh4(T0:Tree nodes)(hB:qa1 nodes)(h:LdAt w nodes rr bt r ai vw va ev ws as_ evs){ys:List Pw}(hH:HpAt w hb (.func (.func 168) #[] #[]) v ys)(hU:qb2 ltP ys)(hl:ys.length<=50)(gz:∀p∈ys,p∈ws++as_)(ho:qds nodes rr bt vw va ev ws as_ (fun y=>y=hb\/v.ownBlock=some y))(o:Option Pw)(rR:∀p,o=some p->p∈ws++as_):
  Calls prog 170 #[.pointer (some ⟨rr,0,none⟩),.pointer (some ⟨hb,0,none⟩),optP o] w fun e w'=>e=.returned (.tuple #[])/\∃v' zs,zs.Perm (ys++qel nodes as_ o)/\qb2 ltP zs/\HpAt w' hb (.func (.func 168) #[] #[]) v' zs/\Keep (fun y=>y=hb\/v.ownBlock=some y) w w'/\(v'.ownBlock=v.ownBlock\/∃g,v'.ownBlock=some g/\w.heap.size<=g):=by
 have eZ:=fun W=>qet (W:=W)
 have kr:=fun W (p:Pw)=>qhh (W:=W) (x:=p)
 cases o with
 |none =>
  simp only[optP,qel,List.append_nil]
  go_enter func170,ntmps170
  go_wp2_with fail
  go_end0
  exact⟨rfl,v,ys,List.Perm.refl _,hU,hH,Keep.refl _ _,.inl rfl⟩
 |some p =>
  have cI:=rR p rfl;have g_:=qjz T0 hB h.rd (h.pin cI);have fH:=fun W (hW:Below w.heap.size w W)=>qxz qn9 (hH.below hW) hl hU p ((h.below hW).befs T0 ho (fun q hq=>by
   rcases xri.1 hq with e|e
   ·exact gz q e
   ·simp at e;subst e;exact cI))
  have aG:ownP nodes as_ p.x=((abv (ws0 (pun as_ p.x.key)+p.x.d0) (pn0 nodes p.x.key) == 0)&&(abv (ws1 (pun as_ p.x.key)+p.x.d1) (pn1 nodes p.x.key) == 0)):=rfl;simp only[optP];obtain⟨M,hM⟩:∃M,M=qel nodes as_ (some p):=⟨_,rfl⟩;rw[<-hM];have HM:Hid (M=if ownP nodes as_ p.x then [p] else []):=hM;clear hM;generalize abv (ws0 (pun as_ p.x.key)+p.x.d0) (pn0 nodes p.x.key)=a0 at *;generalize abv (ws1 (pun as_ p.x.key)+p.x.d1) (pn1 nodes p.x.key)=a1 at *;unfold nptr at g_ fH ⊢;have gm:∀W,(Op.equalIn 10000 35 (.agg #[.int .i64 a0,.int .i64 a1]) (.agg #[.int .i64 0,.int .i64 0])).run prog W=.ok (a0 == 0&&a1 == 0) W:=fun W=>eq35 9998 a0 a1 0 0 W
  generalize cN:(a0 == 0&&a1 == 0)=b0 at gm aG;have qj:Hid (ownP nodes as_ p.x=b0):=aG;clear aG cN
  go_enter func170,ntmps170
  go_wp2_with fail
  refine g_.mono ?_
  rintro e w1 ⟨rfl,aa⟩
  have lA:=fH w1 aa;have pK:=gm w1;clear g_ fH gm
  cases b0
  ·go_wp2_with fail
   go_end0
   refine⟨rfl,v,ys,?_,hU,hH.below aa,Keep.new aa,.inl rfl⟩
   rw[HM.out,qj.out];simp
  ·go_wp2_with fail
   refine lA.mono ?_
   rintro e w2 ⟨rfl,v',zs,y1,y2,y3,y4,y5⟩
   go_wp2_with fail
   go_end0
   refine⟨rfl,v',zs,?_,y2,y3,(Keep.new aa).trans y4,y5.imp id (fun ⟨g,g1,g2⟩=>⟨g,g1,Nat.le_trans aa.size g2⟩)⟩
   rw[HM.out,qj.out];exact y1
end
section
variable {nodes:List Node}{Ws:List Wk}{ws as_:List Pw}
theorem qme(Ws:List Wk)(h:∀x∈Ws,0<=x.st):(Ws.filter (fun x=>x.st == 0)++Ws.filter (fun x=>decide (0<x.st))).Perm Ws:=by
 have h1:=List.filter_append_perm (fun x:Wk=>x.st == 0) Ws
 refine List.Perm.trans (List.Perm.append_left _ (List.Perm.of_eq (List.filter_congr fun x hx=>?_))) h1
 have:=h x hx
 by_cases e:x.st=0
 ·simp[e]
 ·rw[beq_eq_false_iff_ne.2 e,decide_eq_true (by omega)];rfl
theorem Rel.nums(R:Rel nodes Ws ws as_)(h:∀x∈Ws,0<=x.st):((ws++as_).map (·.x.num)).Perm (Ws.map (·.num)):=by
 obtain⟨az,h1,h2,_⟩:=R.a;have e1:(ws++as_).map (·.x.num)=(ws.map (·.x)).map (·.num)++(as_.map (·.x)).map (·.num):=by rw[List.map_append,List.map_map,List.map_map];rfl
 have e2:(az.map (·.adm 0)).map (·.num)=az.map (·.num):=by rw[List.map_map];rfl
 rw[e1,h1,e2,R.w]
 have:=(qme Ws h).map (·.num)
 rw[List.map_append]at this
 exact List.Perm.trans (List.Perm.append_left _ (h2.map _)) this
theorem Rel.uniq(R:Rel nodes Ws ws as_)(hS:WkS Ws st){q:Pw}(hp:p∈ws++as_)(hq:q∈ws++as_)(e:p.x.num=q.x.num):p=q:=by
 have bT:((ws++as_).map (·.x.num)).Nodup:=(R.nums (fun x hx=>(hS.st x hx).1)).nodup_iff.2 hS.nums;obtain⟨i,hi⟩:=xre hp;obtain⟨j,hj⟩:=xre hq
 have:i=j:=qfy (f:=fun p:Pw=>p.x.num) bT hi hj e
 subst this;rw[hi]at hj;injection hj
theorem Rel.idx(R:Rel nodes Ws ws as_)(hS:WkS Ws st){a:Pw}(ha:a∈ws++as_)(hh:qaz Ws a.x.key=some a.x):∃i:Nat,ws[i]?=some a:=by
 obtain⟨h1,h2,_⟩:=qaj hh;have hm:a.x∈ws.map (·.x):=by rw[R.w];exact xrr.2 ⟨h1,by simp[h2]⟩
 obtain⟨p,hp,he⟩:=xrq.1 hm
 have:p=a:=R.uniq hS (xr9 _ hp) ha (by rw[he])
 subst this
 exact xre hp
theorem qff(h:qbw ws b=some p):p∈ws:=List.mem_of_find?_eq_some h
theorem qkc{l:List Node}(h:p∈qas ws l):p∈ws:=by
 obtain⟨n,_,hn⟩:=List.mem_filterMap.1 h
 exact qff hn
theorem Rel.qc7(R:Rel nodes Ws ws as_)(T:Tree nodes)(hB:qa1 nodes)(hn:n∈nodes)(h:qbw ws n.blk=some p):qaz Ws n.key=some p.x/\p.x.key=n.key:=by
 have:=R.head T hB hn
 unfold qbw at h;rw[h]at this;have h1:qaz Ws n.key=some p.x:=this.symm
 exact⟨h1,(qaj h1).2.2⟩
theorem Rel.more(R:Rel nodes Ws ws as_)(T:Tree nodes)(hB:qa1 nodes)(hW:Wks Ws)(hn:n∈nodes):(qel nodes as_ (qbw ws n.blk)).map (·.x)=qdx (nodes.map Node.ent) Ws n.key:=by
 have hh:=R.head T hB hn;unfold qdx qel
 cases hp:qbw ws n.blk with
 |none =>
  unfold qbw at hp;rw[hp]at hh;rw[<-hh];rfl
 |some p =>
  obtain⟨h1,h2⟩:=R.qc7 T hB hn hp;rw[h1]
  simp only
  rw[R.own T hW (by rw[h2];exact(T.ok n hn).1)]
  split<;>rfl
theorem Rel.q0t(R:Rel nodes Ws ws as_)(T:Tree nodes)(hB:qa1 nodes)(hS:WkS Ws st){l:List Node}(hl:l.Perm nodes){ys:List Pw}(gz:ys.Perm ((qas ws l).filter fun p=>ownP nodes as_ p.x)):qcf (nodes.map Node.ent) Ws (ys.map (·.x)):=by
 have af:∀p,p∈qas ws l↔∃n∈nodes,qbw ws n.blk=some p:=fun p=>by
  unfold qas;rw[List.mem_filterMap]
  constructor
  ·rintro⟨n,h1,h2⟩;exact⟨n,hl.mem_iff.1 h1,h2⟩
  ·rintro⟨n,h1,h2⟩;exact⟨n,hl.mem_iff.2 h1,h2⟩
 have bT:((qas ws l).map (·.x.key)).Nodup:=by
  have hk:(l.map (·.key)).Nodup:=(hl.map _).nodup_iff.2 T.nodup;have aD:((qas ws l).map (·.x.key)).Sublist (l.map (·.key)):=by
   have jK:∀n∈l,n∈nodes:=fun n h=>hl.mem_iff.1 h
   clear af gz hk hl
   induction l with
   |nil=>exact List.Sublist.slnil
   |cons n l ih =>
    have sO:=ih (fun m hm=>jK m (xru _ hm));have e:qas ws (n::l)=(qbw ws n.blk).toList++qas ws l:=by
     unfold qas
     cases h:qbw ws n.blk<;>simp[List.filterMap_cons,h]
    rw[e]
    cases h:qbw ws n.blk with
    |none=>simpa using sO.cons n.key
    |some p =>
     have:=(R.qc7 T hB (jK n (List.mem_cons_self ..)) h).2
     simp only[Option.toList_some,List.singleton_append,List.map_cons];rw[this]
     exact sO.cons_cons _
  exact aD.nodup hk
 refine⟨?_,fun y=>?_⟩
 ·have h1:((ys.map (·.x)).map (·.key)).Nodup:=by
   rw[List.map_map]
   refine((gz.map _).nodup_iff).2 ?_
   exact bT.sublist ((List.filter_sublist ..).map _)
  exact qb1 h1
 ·rw[xrq]
  constructor
  ·rintro⟨p,hp,rfl⟩
   obtain⟨h1,h2⟩:=xrr.1 (gz.mem_iff.1 hp);obtain⟨n,hn,h3⟩:=(af p).1 h1;obtain⟨g1,g2⟩:=R.qc7 T hB hn h3;rw[R.own T hS.wks (by rw[g2];exact(T.ok n hn).1)]at h2
   exact⟨by rw[g2];exact g1,h2⟩
  ·rintro⟨h1,h2⟩
   obtain⟨g1,g2,_⟩:=qaj h1;have hm:y∈ws.map (·.x):=by rw[R.w];exact xrr.2 ⟨g1,by simp[g2]⟩
   obtain⟨p0,gd,oD⟩:=xrq.1 hm;obtain⟨n,hn,_,bX⟩:=R.leaf p0 (xr9 _ gd);rw[oD]at bX;have hh:=R.head T hB hn;rw[bX,h1]at hh
   cases hq:qbw ws n.blk with
   |none=>unfold qbw at hq;rw[hq]at hh;cases hh
   |some p =>
    unfold qbw at hq;rw[hq]at hh;have hx:p.x=y:=by simpa using hh
    refine⟨p,gz.mem_iff.2 (xrr.2 ⟨(af p).2 ⟨n,hn,hq⟩,?_⟩),hx⟩
    rw[hx,R.own T hS.wks (hS.wks.ok y g1).1]
    exact h2
end
theorem qds.ldt{nodes:List Node}{rr bt:Nat}{vw va ev:Value}{ws as_:List Pw}(h:qds nodes rr bt vw va ev ws as_ T)(hb:T b):¬LdT rr bt vw va ev b:=by
 rintro(e|(e|e|e)|e)
 ·subst e;exact h.rr hb
 ·subst e;exact h.bt hb
 ·exact h.vw b e hb
 ·exact h.va b e hb
 ·exact h.ev b e hb
theorem qds.step{nodes:List Node}{rr bt:Nat}{w:World}{vw va ev:Value}{ws as_:List Pw}(h:qds nodes rr bt vw va ev ws as_ T)(hs:qcb rr bt w w' vw va ev aI aO bC)(hT:∀b,T b->b<w.heap.size)(hm:∀p∈an++aL,p∈ws++as_):qds nodes rr bt aI aO bC an aL T:=by
 have key:∀b,aI.ownBlock=some b\/aO.ownBlock=some b\/bC.ownBlock=some b->¬T b:=fun b e hb=>by
  rcases hs.new.all b e with e|e|e|e
  ·exact h.vw b e hb
  ·exact h.va b e hb
  ·exact h.ev b e hb
  ·have:=hT b hb;omega
 exact⟨h.ns,h.rr,h.bt,fun b hb=>key b (.inl hb),fun b hb=>key b (.inr (.inl hb)),fun b hb=>key b (.inr (.inr hb)),fun p hp=>h.ws p (hm p hp)⟩
end
section
open Go.RowKit Go.Shelf
variable {e t:TypeId}{xs:List Value}{b hb:Nat}{T:Nat->Prop}{aI aO bC f v':Value}{vs:Array Value}{aL an zs:List Pw}{s':SS}{L:List Ent}{hs:List Wk}{n:Node}
def isCells(W:World)(b:Nat):Prop:=∃vs t f,W.heap[b]?=some (.cells vs t f)
theorem qc4{W:World}{size n:Nat}{v:Value}(h:W.ownsRow 0 e size v n xs)(hb:v.ownBlock=some b):isCells W b:=by
 rcases h.2 with ⟨rfl,_⟩|⟨g,cap,aH,rfl,_,hg,_⟩
 ·cases hb
 ·simp[Value.ownBlock]at hb;subst hb;exact⟨_,_,_,hg⟩
theorem qgw{A A':World}(hk:Keep T A A'){D:Nat}{x:Option (List Deferred)}(hD:A.heap[D]?=some (.deferred x))(hT:∀b,T b->isCells A b):A'.heap[D]?=some (.deferred x):=by
 refine(hk.block D (xrc.1 hD).1 (fun e=>?_)).trans hD
 obtain⟨vs,t,f,h⟩:=hT D e;rw[hD]at h
 cases h
theorem HpAt.isC{W:World}{v:Value}{ys:List Pw}(h:HpAt W hb f v ys):∀b,(b=hb\/v.ownBlock=some b)->isCells W b:=fun b e=>by
 rcases e with rfl|e
 ·exact⟨_,_,_,h.at_⟩
 ·exact qc4 h.row e
theorem HpAt.qed{W:World}{v:Value}{ys:List Pw}(h:HpAt W hb f v ys)(hx:Blk W b t vs)(h1:t≠247)(h2:t≠95):¬(b=hb\/v.ownBlock=some b):=by
 rintro(e|e)
 ·exact qaw hx h.at_ h1 e
 ·exact qah h.row hx (fun e=>h2 e.symm) e
section
variable {W:World}{nodes:List Node}{rr bt:Nat}{r:Node}{ai vw va ev:Value}{ws as_:List Pw}{evs:List (Int×Int)}
theorem LdAt.isC(h:LdAt W nodes rr bt r ai vw va ev ws as_ evs):∀b,LdT rr bt vw va ev b->isCells W b:=fun b e=>by
 rcases e with rfl|(rfl|e|e)|e
 ·exact⟨_,_,_,h.ld.rnd.at_⟩
 ·exact⟨_,_,_,h.ld.bk.at_⟩
 ·exact qc4 h.ld.bk.wrow e
 ·exact qc4 h.ld.bk.arow e
 ·exact qc4 h.ld.rnd.row e
theorem LdAt.qed(h:LdAt W nodes rr bt r ai vw va ev ws as_ evs)(hx:Blk W b t vs)(h1:t≠188)(h2:t≠102)(h3:t≠95)(h4:t≠60):¬LdT rr bt vw va ev b:=by
 rintro(e|(e|e|e)|e)
 ·exact qaw hx h.ld.rnd.at_ h1 e
 ·exact qaw hx h.ld.bk.at_ h2 e
 ·exact qah h.ld.bk.wrow hx (fun e=>h3 e.symm) e
 ·exact qah h.ld.bk.arow hx (fun e=>h3 e.symm) e
 ·exact qah h.ld.rnd.row hx (fun e=>h4 e.symm) e
end
structure GC (nodes:List Node) (rr bt:Nat) (r:Node) (ai:Value) (w:World) (D:Nat) (cL cK cH:Value) (ws0 cG:List Pw) (aT:SS) (k:Nat) (A:World) (v:Value) (ys:List Pw) (vw va ev:Value) (ws as_:List Pw) (s:SS):Prop where
 hp:HpAt A (w.heap.size+1) (.func (.func 168) #[] #[]) v ys
 heap:qb2 ltP ys
 mem:∀p∈ys,p∈ws++as_
 ld:LdAt A nodes rr bt r ai vw va ev ws as_ s.evs
 rel:Rel nodes s.Ws ws as_
 inv:SInv s
 it:aT=qbf (qbc (nodes.map Node.ent)) k s
 ms:mOwn (nodes.map Node.ent) s.Ws<=k
 bd:s.evs.length+25*k<=1000
 st:qcb rr bt w A cL cK cH vw va ev
 out:qds nodes rr bt vw va ev ws as_ (fun y=>y=w.heap.size+1\/v.ownBlock=some y)
 low:∀b,v.ownBlock=some b->w.heap.size<=b
 sub:∀p∈ws++as_,p∈ws0++cG
 b1:Box A w.heap.size 186 (.pointer (some ⟨rr,0,none⟩))
 b3:Box A (w.heap.size+1+1) 216 (.pointer (some ⟨w.heap.size+1,0,none⟩))
 d:A.heap[D]?=some (.deferred (some []))
section
variable {nodes:List Node}{rr bt:Nat}{r:Node}{ai:Value}{w:World}{D:Nat}{cL cK cH:Value}{ws0 cG:List Pw}{aT:SS}{k:Nat}{A A':World}{v:Value}{ys:List Pw}{vw va ev:Value}{ws as_:List Pw}{s:SS}
theorem GC.below(h:GC nodes rr bt r ai w D cL cK cH ws0 cG aT k A v ys vw va ev ws as_ s)(hb:Below A.heap.size A A'):GC nodes rr bt r ai w D cL cK cH ws0 cG aT k A' v ys vw va ev ws as_ s :=
 ⟨h.hp.below hb,h.heap,h.mem,h.ld.below hb,h.rel,h.inv,h.it,h.ms,h.bd,h.st.below hb,h.out,h.low,h.sub,h.b1.below hb h.b1.lt,h.b3.below hb h.b3.lt,(hb.block D (xrc.1 h.d).1).trans h.d⟩
theorem GC.qml(h:GC nodes rr bt r ai w D cL cK cH ws0 cG aT k A v ys vw va ev ws as_ s)(hp:HpAt A' (w.heap.size+1) (.func (.func 168) #[] #[]) v' zs)(hh:qb2 ltP zs)(hm:∀p∈zs,p∈ws++as_)(hk:Keep (fun y=>y=w.heap.size+1\/v.ownBlock=some y) A A')(hn:v'.ownBlock=v.ownBlock\/∃g,v'.ownBlock=some g/\A.heap.size<=g):GC nodes rr bt r ai w D cL cK cH ws0 cG aT k A' v' zs vw va ev ws as_ s:=by
 have oS:∀b,(b=w.heap.size+1\/v.ownBlock=some b)->w.heap.size<=b:=fun b e=>e.elim (fun e=>by omega) (h.low b)
 have uf:=h.st.keep.size
 refine⟨hp,hh,hm,h.ld.keep hk h.out,h.rel,h.inv,h.it,h.ms,h.bd,⟨h.st.keep.qbm hk (fun b hb e=>by have:=oS b e;omega),h.st.new⟩,?_,?_,h.sub,h.b1.keep hk (h.hp.qed h.b1 (by decide) (by decide)),h.b3.keep hk (h.hp.qed h.b3 (by decide) (by decide)),qgw hk h.d h.hp.isC⟩
 ·rcases hn with e|⟨g,e,hg⟩
  ·rw[e];exact h.out
  ·have h1:=h.out.mono (T':=fun y=>y=w.heap.size+1) (fun b e=>.inl e);have h2:=h.ld.lt (T:=fun y=>v'.ownBlock=some y) (fun b e'=>by rw[e]at e';cases e';exact hg)
   exact h1.or h2
 ·intro b hb
  rcases hn with e|⟨g,e,hg⟩
  ·rw[e]at hb;exact h.low b hb
  ·rw[e]at hb;cases hb;omega
theorem GC.qoo(h:GC nodes rr bt r ai w D cL cK cH ws0 cG aT k A v ys vw va ev ws as_ s){k':Nat}(hl:LdAt A' nodes rr bt r ai aI aO bC an aL s'.evs)(cJ:qcb rr bt A A' vw va ev aI aO bC)(eE:∀p∈an++aL,p∈ws++as_)(jb:∀p∈ws++as_,p∈an++aL)(hr:Rel nodes s'.Ws an aL)(hi:SInv s')(wB:aT=qbf (qbc (nodes.map Node.ent)) k' s')(pS:mOwn (nodes.map Node.ent) s'.Ws<=k')(kO:s'.evs.length+25*k'<=1000):GC nodes rr bt r ai w D cL cK cH ws0 cG aT k' A' v ys aI aO bC an aL s':=by
 have hk:=cJ.keep;have oT:∀b,(b=w.heap.size+1\/v.ownBlock=some b)->b<A.heap.size:=fun b e=>e.elim (fun e=>by have:=h.hp.at_.lt;omega) (fun e=>qap h.hp.row e)
 refine⟨h.hp.keep hk (h.out.ldt (.inl rfl)) (fun b hb=>h.out.ldt (.inr hb)),h.heap,fun p hp=>jb p (h.mem p hp),hl,hr,hi,wB,pS,kO,h.st.trans cJ,h.out.step cJ oT eE,h.low,fun p hp=>h.sub p (eE p hp),h.b1.keep hk (h.ld.qed h.b1 (by decide) (by decide) (by decide) (by decide)),h.b3.keep hk (h.ld.qed h.b3 (by decide) (by decide) (by decide) (by decide)),qgw hk h.d h.ld.isC⟩
def G1 (nodes:List Node)(rr bt:Nat)(r:Node)(ai:Value)(w:World)(D:Nat)(cL cK cH:Value)(ws0 cG:List Pw)(aT:SS)(k:Nat)(hv sv:Value)(A:World):Prop :=
 ∃v ys vw va ev ws as_ s,GC nodes rr bt r ai w D cL cK cH ws0 cG aT k A v ys vw va ev ws as_ s /\
  ((sv=.bool false/\hv=.pointer none/\aT=s)\/(sv=.bool true/\∃a,hv=.pointer (some ⟨a.blk,0,none⟩)/\a∈ws++as_/\qcf (nodes.map Node.ent) s.Ws (a.x::ys.map (·.x))/\∀b∈ys,ltP b a=false))
theorem GC.len(h:GC nodes rr bt r ai w D cL cK cH ws0 cG aT k A v ys vw va ev ws as_ s)(hO:qcf (nodes.map Node.ent) s.Ws (ys.map (·.x))):ys.length<=24:=by
 have h1:(ys.map (·.x)).length<=s.Ws.length:=by
  have aD:∀y∈ys.map (·.x),y∈s.Ws:=fun y hy=>(qaj ((hO.all y).1 hy).1).1
  have bT:=hO.nd;have eZ:((ys.map (·.x)).map (·.num)).Nodup:=by
   rw[List.nodup_iff_pairwise_ne,List.pairwise_map];rw[List.nodup_iff_pairwise_ne]at bT
   exact bT.imp_of_mem (fun ha hb aW e=>aW (qlo h.inv.wks.nums (aD _ ha) (aD _ hb) e))
  have:=qdf eZ (l':=s.Ws.map (·.num)) (fun x hx=>by
   obtain⟨y,hy,rfl⟩:=xrq.1 hx
   exact xrq.2 ⟨y,aD y hy,rfl⟩)
  simpa using this
 have h2:=h.inv.wks.wks.len
 simp at h1
 omega
theorem GC.pop(T0:Tree nodes)(h:GC nodes rr bt r ai w D cL cK cH ws0 cG aT k A v ys vw va ev ws as_ s)(hO:qcf (nodes.map Node.ent) s.Ws (ys.map (·.x))):
  Calls prog 171 #[.pointer (some ⟨w.heap.size+1,0,none⟩)] A fun e A'=>∃hv sv,e=.returned (.tuple #[hv,sv])/\G1 nodes rr bt r ai w D cL cK cH ws0 cG aT k hv sv A':=by
 have hl:=h.len hO
 refine(qzm qn9 h.hp (by omega) h.heap (h.ld.befs T0 h.out h.mem)).mono ?_
 rintro e A' (⟨h0,rfl,rfl⟩|⟨a,v',zs,h1,rfl,h2,h3,h4,h5,h6⟩)
 ·subst h0
  refine⟨_,_,rfl,v,[],vw,va,ev,ws,as_,s,h,.inl ⟨rfl,rfl,?_⟩⟩
  rw[h.it]
  exact qkj (hO.ends h.inv) k
 ·have cP:=h.heap.min qn9 h1 (qcu _)
  refine⟨_,_,rfl,v',zs,vw,va,ev,ws,as_,s,h.qml h4 h3 (fun p hp=>h.mem p (h2.mem_iff.1 (xru _ hp))) h5 (.inl h6),.inr ⟨rfl,a,rfl,h.mem a (h2.mem_iff.1 (List.mem_cons_self ..)),?_,fun b hb=>?_⟩⟩
  ·exact hO.perm (h2.symm.map (·.x))
  ·obtain⟨j,hj⟩:=xre (h2.mem_iff.1 (xru a hb))
   exact cP j b hj
end
theorem qtm{s:SS}(I:SInv s)(hO:qcf L s.Ws hs):hs.length<=24:=by
 have h1:hs.length<=s.Ws.length:=by
  have aD:∀y∈hs,y∈s.Ws:=fun y hy=>(qaj ((hO.all y).1 hy).1).1
  have bT:=hO.nd;have eZ:(hs.map (·.num)).Nodup:=by
   rw[List.nodup_iff_pairwise_ne,List.pairwise_map];rw[List.nodup_iff_pairwise_ne]at bT
   exact bT.imp_of_mem (fun ha hb aW e=>aW (qlo I.wks.nums (aD _ ha) (aD _ hb) e))
  have:=qdf eZ (l':=s.Ws.map (·.num)) (fun x hx=>by
   obtain⟨y,hy,rfl⟩:=xrq.1 hx
   exact xrq.2 ⟨y,aD y hy,rfl⟩)
  simpa using this
 have h2:=I.wks.wks.len
 omega
section
variable {nodes:List Node}{rr bt:Nat}{r:Node}{ai:Value}{w:World}{D:Nat}{cL cK cH:Value}{ws0 cG:List Pw}{aT:SS}{k:Nat}{A A':World}{v:Value}{ys:List Pw}{vw va ev:Value}{ws as_:List Pw}{s:SS}
theorem GC.owned(h:GC nodes rr bt r ai w D cL cK cH ws0 cG aT k A v ys vw va ev ws as_ s){a:Pw}(ha:a∈ws++as_)(hO:qcf (nodes.map Node.ent) s.Ws (a.x::ys.map (·.x)))(cP:∀b∈ys,ltP b a=false):
  RInv (nodes.map Node.ent) a.x s.st s.Ws/\s.evs.length+admN s.Ws<=10000/\(room (nodes.map Node.ent) a.x (admN s.Ws) ⟨s.Ws,s.evs⟩).evs.length<=10000 /\
  (∀ws1 fh,Rel nodes (room (nodes.map Node.ent) a.x (admN s.Ws) ⟨s.Ws,s.evs⟩).Ws ws1 fh->a∈ws1++fh->∃i:Nat,ws1[i]?=some a/\Rel nodes (qdz (nodes.map Node.ent) a.x s).Ws (ws1.take i++ws1.drop (i+1)) (fh++[a])) /\
  SInv (qdz (nodes.map Node.ent) a.x s)/\qcf (nodes.map Node.ent) (qdz (nodes.map Node.ent) a.x s).Ws (qdx (nodes.map Node.ent) (qdz (nodes.map Node.ent) a.x s).Ws a.x.key++ys.map (·.x)) /\
  ∃k',k=k'+1/\aT=qbf (qbc (nodes.map Node.ent)) k' (qdz (nodes.map Node.ent) a.x s)/\mOwn (nodes.map Node.ent) (qdz (nodes.map Node.ent) a.x s).Ws<=k'/\(qdz (nodes.map Node.ent) a.x s).evs.length+25*k'<=1000:=by
 obtain⟨d1,d2,d3⟩:=hO.does h.inv (fun y hy=>by
  obtain⟨b,hb,rfl⟩:=xrq.1 hy
  exact cP b hb)
 obtain⟨i1,i2,i3,i4,i5⟩:=h.inv.own d1;have ec:admN s.Ws<=24:=Nat.le_trans (xrh _ _) h.inv.wks.wks.len;have kO:=h.bd;have pS:=h.ms;obtain⟨g1,g2,g3,g4⟩:=RInv.room (admN s.Ws) ⟨s.Ws,s.evs⟩ d2
 simp only at g3
 refine⟨d2,by omega,by omega,fun ws1 fh eI ik=>?_,i1,d3,?_⟩
 ·obtain⟨i,hi⟩:=eI.idx g1.wks ik g1.head;obtain⟨x1,x2,_⟩:=qaj g1.head;obtain⟨ix,mh⟩:=xre x1
  refine⟨i,hi,?_⟩
  have e:(qdz (nodes.map Node.ent) a.x s).Ws=(room (nodes.map Node.ent) a.x (admN s.Ws) ⟨s.Ws,s.evs⟩).Ws.set ix (a.x.adm (s.st+1)):=qcg g1.wks.nums mh _;rw[e]
  exact eI.admit g1.wks h.inv.st0 hi mh x2 rfl
 ·obtain⟨k',rfl⟩:∃k',k=k'+1:=⟨k-1,by omega⟩
  exact⟨k',rfl,by rw[h.it];exact qki d1 k',by omega,by omega⟩
theorem GC.qtr(T0:Tree nodes)(hB:qa1 nodes)(h:GC nodes rr bt r ai w D cL cK cH ws0 cG aT k A v ys vw va ev ws as_ s)(hn:n∈nodes)(hO:qcf (nodes.map Node.ent) s.Ws (qdx (nodes.map Node.ent) s.Ws n.key++ys.map (·.x))):
  Calls prog 170 #[.pointer (some ⟨rr,0,none⟩),.pointer (some ⟨w.heap.size+1,0,none⟩),optP (qbw ws n.blk)] A fun e A'=>e=.returned (.tuple #[])/\∃v' zs,GC nodes rr bt r ai w D cL cK cH ws0 cG aT k A' v' zs vw va ev ws as_ s/\qcf (nodes.map Node.ent) s.Ws (zs.map (·.x)):=by
 have hl:=qtm h.inv hO
 simp at hl
 refine(qh4 T0 hB h.ld h.hp h.heap (by omega) h.mem h.out (qbw ws n.blk) (fun p e=>xr9 _ (qff e))).mono ?_
 rintro e A' ⟨he,v',zs,y1,y2,y3,y4,y5⟩
 have af:∀p∈qel nodes as_ (qbw ws n.blk),p∈ws:=fun p hp=>by
  unfold qel at hp
  cases hh:qbw ws n.blk with
  |none=>rw[hh]at hp;cases hp
  |some q =>
   rw[hh]at hp
   simp only at hp
   split at hp
   ·simp at hp;subst hp;exact qff hh
   ·cases hp
 refine⟨he,v',zs,h.qml y3 y2 (fun p hp=>?_) y4 y5,?_⟩
 ·rcases xri.1 (y1.mem_iff.1 hp) with e|e
  ·exact h.mem p e
  ·exact xr9 _ (af p e)
 ·refine hO.perm ?_
  rw[<-h.rel.more T0 hB h.inv.wks.wks hn]
  have:=y1.map (·.x)
  rw[List.map_append]at this
  exact List.perm_append_comm.trans this.symm
end
end
section
open Go.RowKit
variable {w:World}{nodes:List Node}{bt rr:Nat}{va:Value}{l:List Pw}{r:Node}{p:Pw}
def ltA (a b:Ak):Bool:=before (a.p.x,a.s) (b.p.x,b.s)
theorem qi3:Ord ltA:=⟨fun a b h=>ql3 _ _ h,fun a b c h1 h2=>qk2 _ _ _ h1 h2⟩
theorem qp8{a b:Ak}(ha:Blk w a.p.blk 105 a.p.cells)(hb:Blk w b.p.blk 105 b.p.cells):
  Calls prog 176 #[akv a,akv b] w fun e w'=>e=.returned (.bool (ltA a b))/\Below w.heap.size w w':=by
 have la:=ha.lt;have lb:=hb.lt;have na:∀W,Below w.heap.size w W->W.cell? ⟨a.p.blk,0,none⟩=some (.int .i64 a.p.x.num):=fun W hW=>(ha.below hW la).cell 0
 have nb:∀W,Below w.heap.size w W->W.cell? ⟨b.p.blk,0,none⟩=some (.int .i64 b.p.x.num):=fun W hW=>(hb.below hW lb).cell 0
 obtain⟨W0,bg⟩:∃W0,W0=(w.alloc (.cells #[.pointer (some ⟨a.p.blk,0,none⟩),.int .i64 a.s] 226)).alloc (.cells #[.pointer (some ⟨b.p.blk,0,none⟩),.int .i64 b.s] 226):=⟨_,rfl⟩;have bj:Below w.heap.size w W0:=by rw[bg];exact bel2
 have b1:Blk W0 w.heap.size 226 #[.pointer (some ⟨a.p.blk,0,none⟩),.int .i64 a.s]:=by rw[bg];exact blk2
 have b2:Blk W0 (w.heap.size+1) 226 #[.pointer (some ⟨b.p.blk,0,none⟩),.int .i64 b.s]:=by rw[bg];exact Blk.new' (by simp)
 have ka:=na _ bj;have kb:=nb _ bj;have x0:=b1.cell 0;have x1:=b1.cell 1;have y0:=b2.cell 0;have y1:=b2.cell 1;simp only[xq0,xq1,xq2]at x0 x1 y0 y1;have ak:ltA a b=if a.s≠b.s then decide (a.s<b.s) else decide (a.p.x.num<b.p.x.num):=rfl
 unfold akv nptr
 go_enter func176,ntmps176
 rw[bg]at ka kb x0 x1 y0 y1
 by_cases hs:a.s=b.s
 ·rw[ak,if_neg (by simp[hs])];have dW:(a.s == b.s)=true:=by simp[hs]
  clear ak hs
  go_upto_region 3 with fail
  go_region
  all_goals go_wp2_with fail
  all_goals go_ret
  all_goals exact⟨rfl,by exact bel2⟩
 ·rw[ak,if_pos hs];have dW:(a.s == b.s)=false:=by simp[hs]
  clear ak
  go_wp2_with fail
  go_ret
  exact⟨rfl,by exact bel2⟩
theorem wrap64_in{n:Int}(h0:0<=n)(h1:n<=2000000000):wrap64 n=n:=by unfold wrap64;omega
theorem Blk.new2(W:World)(o:Obj)(t:TypeId)(vs:Array Value):Blk ((W.alloc o).alloc (.cells vs t)) (W.heap.size+1) t vs:=by
 have:=Blk.new (W.alloc o) t vs
 rwa[xrt]at this
def qdg (nodes:List Node)(l:List Pw)(x:Wk):Int:=max (abv (ws0 (pun l x.key)+x.d0) (pn0 nodes x.key)*max 1 (pn1 nodes [])) (abv (ws1 (pun l x.key)+x.d1) (pn1 nodes x.key)*max 1 (pn0 nodes []))
theorem qj2(T:Tree nodes)(hB:qa1 nodes)(h:Rd w nodes bt rr va l)(hr:r∈nodes)(a_:r.key=[])(Ct:w.cell? ⟨rr,0,none⟩=some (nptr r.blk))(hp:PwIn w nodes p):
  Calls prog 178 #[.pointer (some ⟨rr,0,none⟩),nptr p.blk] w fun e w'=>e=.returned (akv ⟨p,qdg nodes l p.x⟩)/\Below w.heap.size w w':=by
 have g_:=fun W (hW:Below w.heap.size w W)=>qjz T hB (h.below hW) (hp.below hW)
 have ay:=fun W (hW:Below w.heap.size w W)=>qcx T hr W (h.below hW).ins
 have tZ:rr<w.heap.size:=xrb _ _ h.bk;have tY:=fun W (hW:Below w.heap.size w W)=>(hW.cell (p:=⟨rr,0,none⟩) tZ).trans Ct
 have ubd:=h.ubd p.x.key;have tb:=qm6 T p.x.key;have Fw:=qm6 T [];have DV:=hp.num;rw[a_]at ay;unfold qdg;have DN:(0<=abv (ws0 (pun l p.x.key)+p.x.d0) (pn0 nodes p.x.key)/\abv (ws0 (pun l p.x.key)+p.x.d0) (pn0 nodes p.x.key)<=100000)/\(0<=abv (ws1 (pun l p.x.key)+p.x.d1) (pn1 nodes p.x.key)/\abv (ws1 (pun l p.x.key)+p.x.d1) (pn1 nodes p.x.key)<=100000):=by unfold abv;omega
 generalize abv (ws0 (pun l p.x.key)+p.x.d0) (pn0 nodes p.x.key)=a0 at *;generalize abv (ws1 (pun l p.x.key)+p.x.d1) (pn1 nodes p.x.key)=a1 at *;generalize pn0 nodes []=n0 at *;generalize pn1 nodes []=n1 at *;unfold akv nptr at *
 go_enter func178,ntmps178
 go_upto_region 1 with fail
 obtain⟨W0,bg⟩:∃W0,W0=w.alloc (.cells #[.pointer none,.int .i64 0] 226):=⟨_,rfl⟩;have bj:Below w.heap.size w W0:=by rw[bg];exact bel2
 have b4:Blk W0 w.heap.size 226 #[.pointer none,.int .i64 0]:=by rw[bg];exact blk2
 have dw:w.heap.size+1<=W0.heap.size:=by rw[bg];simp
 rw[<-bg];clear bg;have r0:=tY _ bj;have xF:¬(rr=W0.heap.size):=(by omega);have sW:¬(W0.heap.size=rr):=(by omega);have xG:¬(rr=W0.heap.size+1):=(by omega);have sX:¬(W0.heap.size+1=rr):=(by omega)
 go_cut [5,6] from 8 to 15 (fun c5 c6 wx=>∃b5 b6,c5=.pointer (some ⟨b5,0,none⟩)/\c6=.pointer (some ⟨b6,0,none⟩)/\Below W0.heap.size W0 wx/\Blk wx b5 35 #[.int .i64 a0,.int .i64 a1]/\Blk wx b6 35 #[.int .i64 n0,.int .i64 n1]/\W0.heap.size<=b5/\W0.heap.size<=b6)
 case first =>
  go_region_held3 (fun w'=>w'.cell? ⟨rr,0,none⟩=some (.pointer (some ⟨r.blk,0,none⟩))) (go_keep)
   (first
   |(go_at_call 207;refine(g_ _ (qab bj ?_)).mono ?_;(focus exact bel2);rintro e w1 ⟨rfl,aa⟩;have au:Below W0.heap.size W0 w1:=qab (by exact bel2) aa;have r1:=tY _ (qab bj au);have dz:=au.size;have CS:¬(rr=w1.heap.size):=(by omega);have zM:¬(w1.heap.size=rr):=(by omega);have CT:¬(rr=w1.heap.size+1):=(by omega);have CU:¬(w1.heap.size+1=rr):=(by omega);(try (have d1:Blk w1 W0.heap.size 35 #[.int .i64 0,.int .i64 0]:=Blk.below (by first|(with_reducible exact Blk.new _ _ _)|(with_reducible exact Blk.drew (Blk.new _ _ _))|(with_reducible exact Blk.alloc (Blk.new _ _ _) _)|(with_reducible exact Blk.drew (Blk.alloc (Blk.new _ _ _) _))|(with_reducible exact Blk.new2 _ _ _ _)|(with_reducible exact Blk.drew (Blk.new2 _ _ _ _))) aa (by first|omega|(simp<;>omega));have CO:=d1.lt;have Fe:¬(W0.heap.size=w1.heap.size):=(by omega);have Ff:¬(w1.heap.size=W0.heap.size):=(by omega);have Dd:¬(W0.heap.size=w1.heap.size+1):=(by omega);have De:¬(w1.heap.size+1=W0.heap.size):=(by omega)));(try (have yu:Blk w1 (W0.heap.size+1) 35 #[.int .i64 0,.int .i64 0]:=Blk.below (by first|(with_reducible exact Blk.new _ _ _)|(with_reducible exact Blk.drew (Blk.new _ _ _))|(with_reducible exact Blk.alloc (Blk.new _ _ _) _)|(with_reducible exact Blk.drew (Blk.alloc (Blk.new _ _ _) _))|(with_reducible exact Blk.new2 _ _ _ _)|(with_reducible exact Blk.drew (Blk.new2 _ _ _ _))) aa (by first|omega|(simp<;>omega));have xE:=yu.lt;have Fg:¬(W0.heap.size+1=w1.heap.size):=(by omega);have Fh:¬(w1.heap.size=W0.heap.size+1):=(by omega);have Df:¬(W0.heap.size+1=w1.heap.size+1):=(by omega);have Dg:¬(w1.heap.size+1=W0.heap.size+1):=(by omega))))
   |(go_at_call 85;refine(ay _ (qab bj ?_)).mono ?_;(focus exact bel2);rintro e w2 ⟨rfl,ag⟩;have aP:Below W0.heap.size W0 w2:=qab (by exact bel2) ag;have r2:=tY _ (qab bj aP);have fq:=aP.size;have CV:¬(rr=w2.heap.size):=(by omega);have zN:¬(w2.heap.size=rr):=(by omega);have CW:¬(rr=w2.heap.size+1):=(by omega);have CX:¬(w2.heap.size+1=rr):=(by omega);(try (have:=CO;have d2:Blk w2 W0.heap.size 35 #[.int .i64 0,.int .i64 0]:=Blk.below (by first|(with_reducible exact d1)|(with_reducible exact d1.alloc _)) ag (by first|omega|(simp<;>omega));have DQ:=d2.cell;have Eb:=d2.frozen;have EF:=d2.lt;have Di:¬(W0.heap.size=w2.heap.size):=(by omega);have Dj:¬(w2.heap.size=W0.heap.size):=(by omega)));(try (have:=xE;have uN:Blk w2 (W0.heap.size+1) 35 #[.int .i64 0,.int .i64 0]:=Blk.below (by with_reducible exact yu) ag (by first|omega|(simp<;>omega));have DR:=uN.cell;have Ec:=uN.frozen;have EG:=uN.lt;have Dk:¬(W0.heap.size+1=w2.heap.size):=(by omega);have Dl:¬(w2.heap.size=W0.heap.size+1):=(by omega)));(try (have g2:Blk w2 w1.heap.size 35 #[.int .i64 0,.int .i64 0]:=Blk.below (by first|(with_reducible exact Blk.new _ _ _)|(with_reducible exact Blk.drew (Blk.new _ _ _))|(with_reducible exact Blk.alloc (Blk.new _ _ _) _)|(with_reducible exact Blk.drew (Blk.alloc (Blk.new _ _ _) _))|(with_reducible exact Blk.new2 _ _ _ _)|(with_reducible exact Blk.drew (Blk.new2 _ _ _ _))) ag (by first|omega|(simp<;>omega));have DS:=g2.cell;have Ed:=g2.frozen;have EH:=g2.lt;have Dm:¬(w1.heap.size=w2.heap.size):=(by omega);have Dn:¬(w2.heap.size=w1.heap.size):=(by omega)));(try (have uQ:Blk w2 (w1.heap.size+1) 35 #[.int .i64 0,.int .i64 0]:=Blk.below (by first|(with_reducible exact Blk.new _ _ _)|(with_reducible exact Blk.drew (Blk.new _ _ _))|(with_reducible exact Blk.alloc (Blk.new _ _ _) _)|(with_reducible exact Blk.drew (Blk.alloc (Blk.new _ _ _) _))|(with_reducible exact Blk.new2 _ _ _ _)|(with_reducible exact Blk.drew (Blk.new2 _ _ _ _))) ag (by first|omega|(simp<;>omega));have DT:=uQ.cell;have Ee:=uQ.frozen;have EI:=uQ.lt;have Fk:¬(w1.heap.size+1=w2.heap.size):=(by omega);have Fl:¬(w2.heap.size=w1.heap.size+1):=(by omega))))
   )
  all_goals go_wp2_with fail
  all_goals go_meet
  all_goals refine⟨_,_,rfl,rfl,?_,?_,?_,?_,?_⟩
  all_goals first
   |(with_reducible omega)
   |((repeat (first|(with_reducible assumption)|(with_reducible refine qbu ?_ (by omega) ..)|((with_reducible refine Below.alloc ?_ ?_ _);rotate_left;(focus (first|omega|(simp<;>omega))))));done)
   |((repeat (first|(with_reducible assumption)|(with_reducible exact Blk.new _ _ _)|(with_reducible exact Blk.new2 _ _ _ _)|(with_reducible exact qdi (by assumption) ..)|(with_reducible refine Blk.alloc ?_ _)|(with_reducible refine qfv ?_ (by omega) ..)));done)
   |(with_reducible exact qdi (qfv (by assumption) (by omega) ..) ..)
   |exact Blk.new' (by simp)
 case rest =>
  obtain⟨b5,b6,rfl,rfl,dF,c5,c6,Ew,zm⟩:=hcut;clear g_ ay tY r0 xF sW xG sX;have yh:=b4.below dF b4.lt;have x0:=c5.cell 0;have x1:=c5.cell 1;have y0:=c6.cell 0;have y1:=c6.cell 1;simp only[xq0,xq1,xq2]at x0 x1 y0 y1;have bx:∀a n:Int,0<=a->a<=100000->0<=n->n<=20000->0<=a*max 1 n/\a*max 1 n<=2000000000:=fun a n h1 h2 h3 h4=>by
   have h5:1<=max 1 n:=by omega
   have h6:max 1 n<=20000:=by omega
   generalize max 1 n=m at h5 h6
   exact⟨Int.mul_nonneg h1 (by omega),by
    have:=Int.mul_le_mul h2 h6 (by omega) (by omega)
    omega⟩
  have b1:=bx a0 n1 (by omega) (by omega) (by omega) (by omega);have b2:=bx a1 n0 (by omega) (by omega) (by omega) (by omega);clear bx;have f4:=yh.frozen;have g4:=yh.cell;have e1:(max 1 n1=1/\n1<=1)\/(max 1 n1=n1/\1<n1):=by omega
  have e2:(max 1 n0=1/\n0<=1)\/(max 1 n0=n0/\1<n0):=by omega
  rcases e1 with ⟨e1,h1⟩|⟨e1,h1⟩<;>rcases e2 with ⟨e2,h2⟩|⟨e2,h2⟩
  all_goals rw[e1]at b1
  all_goals rw[e2]at b2
  all_goals try simp only[Int.mul_one]at b1
  all_goals try simp only[Int.mul_one]at b2
  all_goals have k1:=wrap64_in b1.1 b1.2
  all_goals have k2:=wrap64_in b2.1 b2.2
  all_goals have E1:Hid (max 1 n1=_):=e1
  all_goals have E2:Hid (max 1 n0=_):=e2
  all_goals clear e1 e2
  all_goals go_wp2_with fail
  all_goals refine xrn (v:=.agg #[.pointer (some ⟨p.blk,0,none⟩),.int .i64 (max (a0*max 1 n1) (a1*max 1 n0))]) ?_ rfl ⟨rfl,?_⟩
  all_goals first
   |exact qbu (qab bj dF) (Nat.le_refl _) ..
   |skip
  all_goals rw[E1.out,E2.out]
  all_goals simp[results,results178,go_sem,g4]
  all_goals omega
end
end Go.Proofs.YtphclnolomgjoaaGreatDoor
