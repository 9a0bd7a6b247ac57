import Derived.Test.YtphclnolomgjoaaGreatDoorC15
set_option linter.unusedVariables false
set_option linter.unusedSimpArgs false
set_option maxRecDepth 100000
set_option maxHeartbeats 4000000
namespace Go.Proofs.YtphclnolomgjoaaGreatDoor
open Tryz
open Go.RowKit
variable {W w:World}{B br cW cap size:Nat}{e:TypeId}{sl:Value}{xs:List Value}{L:List Ent}{s s' s0:SS}{ao:Option Addr}{Ws:List Wk}{cnt st:Int}
theorem quf{n:Nat}(h:W.ownsRow B e size sl n xs):W.ownsRow 0 e size sl n xs:=by
 obtain⟨hl,hr⟩:=h
 refine⟨hl,?_⟩
 rcases hr with hr|⟨g',cap',aD,rfl,eO,hg,rest⟩
 ·exact .inl hr
 ·exact .inr ⟨g',cap',aD,rfl,Nat.zero_le _,hg,rest⟩
theorem qn5{l:List Nat}(h:W.ownsRow B 3 1 sl l.length (nats l)):∃ah ch,sl=.slice ah l.length ch/\∀(k i:Nat),l[k]?=some i->∃b,ah=some (vA b 0)/\b<W.heap.size/\l.length<=ch/\ch<=maxLen/\W.cell? (vA b k)=some (vI i):=by
 have h0:=quf h
 by_cases hl:0<l.length
 ·obtain⟨g,cap,rfl,h1,h2⟩:=qat h0 hl
  refine⟨some (vA g 0),cap,rfl,fun k i hk=>⟨g,rfl,qal h0 rfl,h1,h2,?_⟩⟩
  have:=h0.cells (g:=g) rfl k (vI i) (by unfold nats;rw[xrs,hk];rfl)
  rwa[Addr.add_lit,Nat.zero_add]at this
 ·have hn:l=[]:=List.eq_nil_of_length_eq_zero (by omega);subst hn
  rcases h0.2 with ⟨rfl,_⟩|⟨g,cap,aD,rfl,_⟩
  ·exact⟨none,0,rfl,fun k i hk=>by simp at hk⟩
  ·exact⟨_,_,rfl,fun k i hk=>by simp at hk⟩
structure qdu (L:List Ent) (s0 s:SS):Prop where
 inv:SInv s
 fin:iterS (ownStep L) (mOwn L s.Ws) s=qa2 L s0
 st:s.st+mOwn L s.Ws<=s0.st+24
 ev:s.evs.length+25*mOwn L s.Ws<=600
theorem SInv.ownI(s s':SS)(h:SInv s)(he:ownStep L s=some s'):SInv s'/\mOwn L s'.Ws<mOwn L s.Ws:=⟨(h.own he).1,(h.own he).2.1⟩
theorem qdu.start(h:SInv s0)(he:s0.evs=[]):qdu L s0 s0:=by
 have h1:=qq8 L s0.Ws;have h2:=h.wks.wks.len
 refine⟨h,qc1 (m:=fun s=>mOwn L s.Ws) SInv.ownI _ _ s0 h (Nat.le_refl _) h1,by omega,by rw[he];simp;omega⟩
theorem qdu.next(h:qdu L s0 s)(he:ownStep L s=some s'):qdu L s0 s'/\mOwn L s'.Ws<mOwn L s.Ws:=by
 obtain⟨h1,h2,h3,h4,h5⟩:=h.inv.own he
 refine⟨⟨h1,?_,?_,?_⟩,h2⟩
 ·rw[<-h.fin];obtain⟨m,hm⟩:∃m,mOwn L s.Ws=m+1:=⟨mOwn L s.Ws-1,by omega⟩;rw[hm,qfb he]
  exact qc1 (m:=fun s=>mOwn L s.Ws) SInv.ownI _ _ s' h1 (Nat.le_refl _) (by show mOwn L s'.Ws<=m;omega)
 ·have:=h.st;omega
 ·have:=h.ev;omega
theorem qdu.done(h:qdu L s0 s)(he:ownStep L s=none):s=qa2 L s0:=by
 rw[<-h.fin,qb9 he]
theorem owners_ref{g:Nat}(h:GRef w br g cap L ao cW Ws cnt st)(E:Ents L)(EB:Bors L)(I:SInv ⟨Ws,st,[]⟩)(bW:st<=900000000):
  Cl 157 #[vP br] w fun e w'=>∃sl fy hZ,e=.returned sl/\qck w br g cap L (Value.slice ao Ws.length cW).ownBlock cnt Ws.length w' fy hZ (qa2 L ⟨Ws,st,[]⟩).Ws (qa2 L ⟨Ws,st,[]⟩).st sl (qa2 L ⟨Ws,st,[]⟩).evs:=by
 have bR:=h.qii;have ct:g<w.heap.size:=(h.ref.row.lt g rfl).2;have sF:=qck.start h;have xX:=qdu.start (L:=L) I rfl;have iR:=I.wks.wks.len
 simp only at iR
 obtain⟨n,hn⟩:∃n,n=Ws.length:=⟨_,rfl⟩;rw[<-hn]at sF iR ⊢;generalize cZ:(⟨Ws,st,[]⟩:SS)=s0 at *;have mN:s0.st<=900000000:=by rw[<-cZ];exact bW
 have bJ:Ws=s0.Ws:=by rw[<-cZ]
 have rU:st=s0.st:=by rw[<-cZ]
 have rG:([]:List (Int×Int))=s0.evs:=by rw[<-cZ]
 rw[bJ,rU,rG]at sF;generalize (Value.slice ao n cW).ownBlock=o0 at *;clear cZ rU bJ rG h bW hn I
 go_enter func157,ntmps157
 go_wp2
 go_loopg [3] (mOwn L s0.Ws) (fun k sl wr=>∃(s:SS) (a:Option Addr) (c:Nat),mOwn L s.Ws<=k/\qdu L s0 s/\qck w br g cap L o0 cnt n wr a c s.Ws s.st sl s.evs)
 case atStart=>exact⟨s0,ao,cW,Nat.le_refl _,xX,sF⟩
 case round =>
  clear xX sF;obtain⟨s,a,c,hk,hR,hS⟩:=hrel;obtain⟨Cf,uF⟩:∃k,k=gk:=⟨_,rfl⟩;subst uF;have EW:=hR.inv.wks.wks;have an:=hS.len
  go_wp2_with fail
  refine(qlm hS.ref EW).mono ?_
  rintro e w1 ⟨hl,rfl,au,aa⟩
  obtain⟨ah,ch,rfl,bZ⟩:=qn5 au;have nf:=hS.below aa;have cJ:br<w1.heap.size:=nf.ref.qii;have oR:Hid (∀i∈qcn s.Ws,i<n/\headAt s.Ws i=true):=fun i hi=>by rw[<-an];exact qfg hi
  have pM:(qcn s.Ws).length<=24:=Nat.le_trans (qgr _ _) (by omega);obtain⟨hs,uG⟩:∃hs,hs=qcn s.Ws:=⟨_,rfl⟩;have xc:Hid (hs=qcn s.Ws):=uG;rw[<-uG]at bZ oR pM ⊢;clear uG au;obtain⟨m,hm⟩:∃m,m=hs.length:=⟨_,rfl⟩;rw[<-hm]at bZ pM ⊢;have HM:Hid (m=hs.length):=hm;clear hm;have iG:w1.cell? (vA br 1)=some (.slice a n c):=by have:=nf.ref.ref.at_.cell 1;rw[<-an];simpa using this
  have iX:Hid (∀W,Bw w1 W->∀(i:Nat) x,s.Ws[i]?=some x->∃b,a=some (vA b 0)/\b<w1.heap.size/\n<=c/\c<=maxLen/\W.cell? (vA b (i*5))=some (vI x.num)/\W.cell? (vA b (i*5+1))=some (.string (sb (joinB x.key)))/\W.cell? (vA b (i*5+2))=some (vI x.d0)/\W.cell? (vA b (i*5+3))=some (vI x.d1)/\W.cell? (vA b (i*5+4))=some (vI x.st)):=by
   show ∀W,Bw w1 W->∀(i:Nat) x,s.Ws[i]?=some x->∃b,a=some (vA b 0)/\b<w1.heap.size/\n<=c/\c<=maxLen/\W.cell? (vA b (i*5))=some (vI x.num)/\W.cell? (vA b (i*5+1))=some (.string (sb (joinB x.key)))/\W.cell? (vA b (i*5+2))=some (vI x.d0)/\W.cell? (vA b (i*5+3))=some (vI x.d1)/\W.cell? (vA b (i*5+4))=some (vI x.st)
   intro W hW i x hx;obtain⟨b,h1,h2,h3,h4,p0,p1,p2,p3,p4⟩:=(nf.ref.below hW).wk hx;have hb:b<w1.heap.size:=qal nf.ref.wrow (by rw[h1];rfl)
   exact⟨b,h1,hb,by rw[<-an];exact h3,h4,p0,p1,p2,p3,p4⟩
  go_wp2_with fail
  go_loopw [4,6] (fun eC i w2=>∃k:Nat,k<=m/\i=vI k/\eC=vI (optI (qc6 L s.Ws (hs.take k)))/\Bw w1 w2) (fun _ i _=>m-(intOf i).toNat)
  case atStart=>exact⟨0,Nat.zero_le _,rfl,rfl,Below.refl _ _⟩
  case round =>
   obtain⟨k,Ds,rfl,rfl,ae⟩:=hrel;have de:=(ae.cell (p:=vA br 1) cJ).trans iG
   by_cases ak:k<m
   ·obtain⟨i,hi⟩:∃i,hs[k]?=some i:=⟨_,xr1 (by rw[<-HM.out];exact ak)⟩;obtain⟨cH,Df⟩:=oR.out i (xr2 hi);obtain⟨x,hx⟩:∃x,s.Ws[i]?=some x:=⟨_,xr1 (by omega)⟩;obtain⟨gh,AF,iJ,CO,CP,qy⟩:=bZ k i hi;subst AF;have uq:=(ae.cell (p:=vA gh k) iJ).trans qy;obtain⟨b,eT,dw,eQ,jq,p0,p1,p2,p3,p4⟩:=iX.out _ ae i x hx;obtain⟨b',dB,_,_,_,q0,q1,q2,q3,q4⟩:=iX.out _ (Below.refl _ _) i x hx;subst eT;injection dB with dB;injection dB with dB;subst dB;have nr:(k:Int)<m:=by omega
    have f_:(0:Int)<=k:=by omega
    have mB:(i:Int)<n:=by omega
    have uI:(0:Int)<=i:=by omega
    have av:=fun W (hW:Bw w1 W)=>qvg (nf.ref.below hW) E EW x (EW.at_ (xr2 hx))
    have HX:Hid (s.Ws[i]?=some x):=hx;have HP:Hid (qc6 L s.Ws (hs.take (k+1))=(if ownW L s.Ws x&&(match qc6 L s.Ws (hs.take k) with|none=>true|some b=>Op.bytesLess (joinB x.key) (qdq s.Ws b)) then some i else qc6 L s.Ws (hs.take k))):=by
     show _=_
     rw[show hs.take (k+1)=hs.take k++[i] from by
      rw[xrf (by rw[<-HM.out];exact ak)];rw[xr1 (by rw[<-HM.out];exact ak)]at hi;cases hi;rfl]
     rw[qj6];unfold pickStep;rw[hx]
     rfl
    have fU:Hid (∀b0,qc6 L s.Ws (hs.take k)=some b0->∃y,s.Ws[b0]?=some y):=fun b0 cx=>by
     obtain⟨_,y,hy,_⟩:=qij cx
     exact⟨y,hy⟩
    generalize qc6 L s.Ws (hs.take k)=pk at HP fU ⊢;generalize hOW:ownW L s.Ws x=ow at av HP;clear bZ hS hi hx Df hOW;have GV:=oR;clear oR;obtain⟨B,hB⟩:∃B,B=optI pk:=⟨_,rfl⟩;rw[<-hB];have HB:Hid (B=optI pk):=hB;clear hB
    go_upto_region 7 with fail
    go_cut [7] from 15 to 63 (fun q wx=>q=.bool ow/\Bw w1 wx)
    case first =>
     go_region_held3 (fun w'=>w'.cell? (vA br 1)=some (vS b n c)/\w'.cell? (vA gh k)=some (vI i)/\w'.cell? (vA b (i*5))=some (vI x.num)/\w'.cell? (vA b (i*5+1))=some (.string (sb (joinB x.key)))/\w'.cell? (vA b (i*5+2))=some (vI x.d0)/\w'.cell? (vA b (i*5+3))=some (vI x.d1)/\w'.cell? (vA b (i*5+4))=some (vI x.st)) (go_keep)
      (first
      |(go_at_call 199;refine(av _ ?_).mono ?_;(focus exact bel2);rintro e w2 ⟨rfl,af⟩;have aw:Bw w1 w2:=qac (by exact bel2) af;have r0:=(aw.cell (p:=vA br 1) cJ).trans iG;have r1:=(aw.cell (p:=vA gh k) iJ).trans qy;have r2:=(aw.cell (p:=vA b (i*5)) dw).trans q0;have r3:=(aw.cell (p:=vA b (i*5+1)) dw).trans q1;have r4:=(aw.cell (p:=vA b (i*5+2)) dw).trans q2;have r5:=(aw.cell (p:=vA b (i*5+3)) dw).trans q3;have r6:=(aw.cell (p:=vA b (i*5+4)) dw).trans q4))
     all_goals go_wp2_with fail
     go_meet
     exact⟨rfl,aw⟩
    case rest =>
     obtain⟨rfl,cY⟩:=hcut;have d1:=(cY.cell (p:=vA br 1) cJ).trans iG;have d2:=(cY.cell (p:=vA gh k) iJ).trans qy;have d3:=(cY.cell (p:=vA b (i*5+1)) dw).trans q1;have bU:Hid (∀(bb:Int) (W:World),Bw w1 W->bb=optI (qc6 L s.Ws (hs.take (k+1)))->(∃eA:Nat,eA<=m/\vI ((k:Int)+1)=vI eA/\vI bb=vI (optI (qc6 L s.Ws (hs.take eA)))/\Bw w1 W)/\m-(intOf (vI ((k:Int)+1))).toNat<m-(intOf (vI (k:Int))).toNat) :=
      fun bb W h1 h2=>⟨⟨k+1,by omega,by go_num,by rw[h2],h1⟩,by simp[intOf];omega⟩
     clear av de uq p0 p1 p2 p3 p4 iG qy q0 q1 q2 q3 q4 ae
     cases ow
     ·go_wp2_with fail
      go_quiet (fail)
      go_wp2_with fail
      exact bU.out _ _ (xrm cY _) (by rw[HP.out,HB.out];simp)
     ·cases eF:pk with
      |none =>
       have aj:B = -1:=by rw[HB.out,eF];rfl
       have kr:Hid (qc6 L s.Ws (hs.take (k+1))=some i):=by
        show _=_
        rw[HP.out,eF];rfl
       subst aj;clear HP HB eF fU
       go_wp2_with fail
       go_quiet (fail)
       go_wp2_with fail
       exact bU.out _ _ (xrm cY _) (by rw[kr.out];rfl)
      |some b0 =>
       have aj:B=(b0:Int):=by rw[HB.out,eF];rfl
       obtain⟨y,hy⟩:=fU.out b0 eF;have pc:b0<n:=by rw[<-an];exact(xr0.1 hy).1
       obtain⟨b',dB,_,_,_,_,t1,_,_,_⟩:=iX.out _ cY b0 y hy;injection dB with dB;injection dB with dB;subst dB;have kr:Hid (qc6 L s.Ws (hs.take (k+1))=if Op.bytesLess (joinB x.key) (joinB y.key) then some i else some b0):=by
        show _=_
        rw[HP.out,eF,Bool.true_and];simp only[qfv hy]
       have pG:Op.bytesLess (sb (joinB x.key)).toList (sb (joinB y.key)).toList=Op.bytesLess (joinB x.key) (joinB y.key):=by rw[qaz,qaz,qbi,qbi]
       have HH:Hid (optI (some b0)=(b0:Int)/\optI (some i)=(i:Int)):=⟨rfl,rfl⟩;subst aj;clear HP HB eF fU hy;generalize Op.bytesLess (joinB x.key) (joinB y.key)=lt at kr pG;generalize sb (joinB y.key)=py at t1 pG;generalize sb (joinB x.key)=px at d3 pG;have rn:(b0:Int)<n:=by omega
       have pj:(0:Int)<=b0:=by omega
       have rp:¬((b0:Int)<0):=by omega
       cases lt
       ·go_wp2_with fail
        go_quiet (fail)
        go_wp2_with fail
        exact bU.out _ _ (xrm cY _) (by rw[kr.out];rfl)
       ·go_wp2_with fail
        go_quiet (fail)
        go_wp2_with fail
        exact bU.out _ _ (xrm cY _) (by rw[kr.out];rfl)
   ·have Dt:k=m:=by omega
    have xg:Hid (qc6 L s.Ws (hs.take k)=qlq L s.Ws):=by
     show _=_
     rw[xrd (by rw[<-HM.out];omega),xc.out];rfl
    rw[xg.out];have ja:=nf.below ae;clear bZ oR iX iG de hS nf xg xc HM
    cases nZ:qlq L s.Ws with
    |none =>
     have fZ:=hR.done (show ownStep L s=none from by unfold ownStep;rw[nZ]);have HD:Hid (s=qa2 L s0):=fZ;clear fZ nZ;have aj:optI none=(-1:Int):=rfl;rw[aj]
     go_wp2_with fail
     go_ret
     rw[<-HD.out]
     exact⟨_,_,_,rfl,ja⟩
    |some b0 =>
     obtain⟨x,hx,Bb,rX⟩:=qfc nZ;have lI:ownStep L s=some (qcs L x s):=by unfold ownStep;rw[nZ];simp only;rw[hx]
     have EI:Hid (ownStep L s=some (qcs L x s)):=lI;have FE:=hR.inv.rinv hx Bb rX;have pc:b0<n:=by rw[<-an];exact(xr0.1 hx).1
     obtain⟨b,eT,dw,eQ,jq,p0,p1,p2,p3,p4⟩:=ja.ref.wk hx;rw[an]at eQ;subst eT;have de:wr.cell? (vA br 1)=some (vS b n c):=by have:=ja.ref.ref.at_.cell 1;rw[<-an];simpa using this
     have yj:br<wr.heap.size:=ja.ref.qii;have rn:(b0:Int)<n:=by omega
     have pj:(0:Int)<=b0:=by omega
     have rp:¬((b0:Int)<0):=by omega
     have aj:optI (some b0)=(b0:Int):=rfl;rw[aj];have bx:Blk (wr.alloc (.cells #[vI x.num,.string (sb (joinB x.key)),vI x.d0,vI x.d1,vI x.st] 178)) wr.heap.size 178 #[vI x.num,.string (sb (joinB x.key)),vI x.d0,vI x.d1,vI x.st]:=Blk.new wr 178 _;have tO:Bw wr (wr.alloc (.cells #[vI x.num,.string (sb (joinB x.key)),vI x.d0,vI x.d1,vI x.st] 178)):=by exact bel2
     have Cx:=ja.below tO;have rT:u3.ownBlock≠some wr.heap.size:=fun e=>by have:=(ja.row.lt _ e).2;omega
     clear nZ lI hx Bb rX
     go_wp2_with fail
     generalize (wr.alloc (.cells #[vI x.num,.string (sb (joinB x.key)),vI x.d0,vI x.d1,vI x.st] 178))=W3 at bx tO Cx ⊢;have CG:w.heap.size<=wr.heap.size:=ja.keep.size;have rG:s.evs.length+admN s.Ws<=624:=by
      have h1:=hR.ev;have h2:admN s.Ws<=24:=Nat.le_trans (xrh _ _) EW.len
      omega
     clear ja tO p0 p1 p2 p3 p4 de ae dw yj rn pj rp aj;generalize wr.heap.size=b8 at bx rT CG ⊢
     go_loopg [3] (admN s.Ws) (fun q sl wv=>∃(ms:MS) (a':Option Addr) (c':Nat),admN ms.Ws<=q/\qck w br g cap L o0 cnt n wv a' c' ms.Ws s.st sl ms.evs/\RInv L x s.st ms.Ws/\room L x (admN ms.Ws) ms=room L x (admN s.Ws) ⟨s.Ws,s.evs⟩/\Blk wv b8 178 #[vI x.num,.string (sb (joinB x.key)),vI x.d0,vI x.d1,vI x.st]/\sl.ownBlock≠some b8/\ms.evs.length+admN ms.Ws<=624)
     case atStart=>exact⟨⟨s.Ws,s.evs⟩,_,_,Nat.le_refl _,Cx,FE,rfl,bx,rT,rG⟩
     case round =>
      clear Cx bx rT;obtain⟨ms,a',c',hq,AB,wo,bE,mZ,zp,CX⟩:=hrel;have B8:Hid (room L x (admN ms.Ws) ms=room L x (admN s.Ws) ⟨s.Ws,s.evs⟩):=bE;clear bE;have tv:=wo.wks.wks;have cg:=(qak wo.head).1;have mQ:=tv.at_ cg;have y0:=mZ.cell 0;have y1:=mZ.cell 1;have y2:=mZ.cell 2;have y3:=mZ.cell 3;have y4:=mZ.cell 4;simp only[xq0,xq1,xq2]at y0 y1 y2 y3 y4
      go_wp2_with fail
      refine(qoj AB.ref E EB tv x mQ).mono ?_
      rintro e w4 ⟨rfl,a_⟩
      have eN:=AB.below a_;have kx:=mZ.below a_ mZ.lt;clear y0 y1 y2 y3 y4;have y0:=kx.cell 0;have y1:=kx.cell 1;have y2:=kx.cell 2;have y3:=kx.cell 3;have y4:=kx.cell 4;simp only[xq0,xq1,xq2]at y0 y1 y2 y3 y4
      go_wp2_with fail
      refine(qp9 eN.ref E EB tv x mQ).mono ?_
      rintro e w5 ⟨rfl,aG⟩
      have lQ:=eN.below aG;have qs:=kx.below aG kx.lt;clear y0 y1 y2 y3 y4
      cases hv:qch L ms.Ws x with
      |none =>
       have aj:optI none=(-1:Int):=rfl;rw[aj];have cG:ms=room L x (admN s.Ws) ⟨s.Ws,s.evs⟩:=by rw[<-B8.out,room_end (qfu.2 hv)]
       have lY:Hid (ms=room L x (admN s.Ws) ⟨s.Ws,s.evs⟩):=cG;clear cG B8 hv aj;have y0:=qs.cell 0;simp only[xq0,xq1,xq2]at y0;generalize qbm L ms.Ws x=ff;have cR:=qh6 lQ.ref tv x.num;have vr:0<=s.st/\s.st<=1000000000:=⟨hR.inv.st0,by have:=hR.st;omega⟩;have dY:=fun (i:Nat) (hi:ms.Ws[i]?=some x)=>qld lQ.ref tv hi vr
       have cu:∀W:World,W.ownsRow 0 60 2 u3 ms.evs.length (qai ms.evs)->∃v' w',(∀ty,(Builtin.append_ #[48,48] ty #[u3,vS (W.heap.size+1) 1 1]).run prog ((W.alloc (.cells #[vI 1,vI x.num] 60)).alloc (.cells #[vI 1,vI x.num] 60))=.ok v' w')/\∃g cap,v'=vS g (ms.evs.length+1) cap/\AppR ((W.alloc (.cells #[vI 1,vI x.num] 60)).alloc (.cells #[vI 1,vI x.num] 60)) u3.ownBlock 60 2 (ms.evs.length+1) (qai ms.evs++qai [(1,x.num)]) g cap w' :=
        fun W au=>qby un48 qm7 (by omega) _ u3 ms.evs.length (qai ms.evs) ((au.alloc _).alloc _) (W.heap.size+1) 1 1 (by omega) (qai [(1,x.num)]) rfl (Blk.new' (by simp)) (qq4 _ _) (by unfold maxLen;omega) (by omega)
       have aM:∀(i:Nat) (W W':World) (g' q':Nat),ms.Ws[i]?=some x->AdmR w5 br g cap L a' c' (ms.Ws.set i (x.adm (s.st+1))) cnt (s.st+1) W->AppR ((W.alloc (.cells #[vI 1,vI x.num] 60)).alloc (.cells #[vI 1,vI x.num] 60)) u3.ownBlock 60 2 (ms.evs.length+1) (qai ms.evs++qai [(1,x.num)]) g' q' W'->∃(s':SS) (a2:Option Addr) (c2:Nat),mOwn L s'.Ws<Cf/\mOwn L s'.Ws<=mOwn L s'.Ws/\qdu L s0 s'/\qck w br g cap L o0 cnt n W' a2 c2 s'.Ws s'.st (vS g' (ms.evs.length+1) q') s'.evs:=by
        intro i W W' g' q' hi hA hP;have hO:qcs L x s=⟨ms.Ws.set i (x.adm (s.st+1)),s.st+1,ms.evs++[(1,x.num)]⟩:=by
         unfold qcs;rw[<-lY.out,qfa wo.wks.nums hi]
        have hN:=hR.next EI.out;have h7:=lQ.admit bR (by rw[List.length_set]) hA;have h8:=h7.below (((Below.refl _ _).alloc (Nat.le_refl _) _).alloc (by simp) _:Bw W ((W.alloc (.cells #[vI 1,vI x.num] 60)).alloc (.cells #[vI 1,vI x.num] 60)));have h9:=h8.tell bR ct hP
        refine⟨qcs L x s,a',c',by omega,Nat.le_refl _,hN.1,?_⟩
        rw[hO]
        exact h9
       have bU:Hid (∀(i:Nat) (W W':World) (g' q':Nat),ms.Ws[i]?=some x->AdmR w5 br g cap L a' c' (ms.Ws.set i (x.adm (s.st+1))) cnt (s.st+1) W->AppR ((W.alloc (.cells #[vI 1,vI x.num] 60)).alloc (.cells #[vI 1,vI x.num] 60)) u3.ownBlock 60 2 (ms.evs.length+1) (qai ms.evs++qai [(1,x.num)]) g' q' W'->∃(s':SS) (a2:Option Addr) (c2:Nat),mOwn L s'.Ws<Cf/\mOwn L s'.Ws<=mOwn L s'.Ws/\qdu L s0 s'/\qck w br g cap L o0 cnt n W' a2 c2 s'.Ws s'.st (vS g' (ms.evs.length+1) q') s'.evs):=aM;have BA:Hid (∀i W,ms.Ws[i]?=some x->AdmR w5 br g cap L a' c' (ms.Ws.set i (x.adm (s.st+1))) cnt (s.st+1) W->W.ownsRow 0 60 2 u3 ms.evs.length (qai ms.evs)):=fun i W hi hA=>(lQ.admit bR (by rw[List.length_set]) hA).row
       have Bv:Hid (∀y∈ms.Ws,y.num=x.num->y=x):=fun y hy e=>qrw wo.wks.nums hy cg e
       have dr:=qs.lt;clear aM lY lQ eN AB wo hR FE EI kx qs mZ EW tv a_ aG mQ E EB hq CX
       cases ff
       all_goals go_wp2_with fail
       all_goals refine cR.mono ?_
       all_goals rintro e w6 ⟨fN,vF⟩
       all_goals subst vF
       all_goals rcases fN with ⟨i,y,rfl,hi,hy⟩|⟨a7,_⟩
       all_goals first|exact absurd rfl (a7 x cg)|skip
       all_goals rw[Bv.out y (xr2 hi) hy]at hi
       all_goals clear hy cR
       all_goals go_wp2_with fail
       all_goals refine(dY i hi).mono ?_
       all_goals rintro e w7 ⟨rfl,hA⟩
       all_goals have ue:=cu w7 (BA.out i w7 hi hA)
       all_goals clear cu dY
       all_goals go_wp2_with (at_builtin;refine qah (by rfl) _ _ _ _ rfl _ _ rfl (by rfl) ue ?_;rintro v1 w8 ⟨g8,q8,rfl,R8⟩)
       all_goals obtain⟨s',a2,c2,h1,h2,h3,h4⟩:=bU.out i w7 w8 g8 q8 hi hA R8
       ·go_roundg (mOwn L s'.Ws)
        case measure=>exact h1
        case rel=>exact⟨s',a2,c2,h2,h3,h4⟩
       ·go_roundg (mOwn L s'.Ws)
        case measure=>exact h1
        case rel=>exact⟨s',a2,c2,h2,h3,h4⟩
      |some i =>
       obtain⟨v,rW,n9,ox⟩:=qa5 L ms.Ws x _ i hv;have qG:=qe1 (s:=ms) hv rW;have uC:qbm L ms.Ws x=false:=by
        cases hf:qbm L ms.Ws x with
        |false=>rfl
        |true=>rw[qfr hf]at hv;cases hv
       rw[uC];have aj:optI (some i)=(i:Int):=rfl;rw[aj];have oq:¬((i:Int)<0):=by omega
       have mw:=qsc lQ.ref tv rW;have dr:=qs.lt;obtain⟨eh,ir,po,gx⟩:=wo.step qG
       simp only at eh ir po gx
       have ej:admN (v.adm 0::(ms.Ws.take i++ms.Ws.drop (i+1)))<admN ms.Ws:=by simp at po;omega
       have B9:Hid (room L x (admN (v.adm 0::(ms.Ws.take i++ms.Ws.drop (i+1)))) ⟨v.adm 0::(ms.Ws.take i++ms.Ws.drop (i+1)),ms.evs++[(2,v.num)]⟩=room L x (admN s.Ws) ⟨s.Ws,s.evs⟩):=by
        show _=_
        rw[<-B8.out];obtain⟨q,ie⟩:∃q,admN ms.Ws=q+1:=⟨admN ms.Ws-1,by omega⟩;rw[ie,qqx qG]
        have:admN (v.adm 0::(ms.Ws.take i++ms.Ws.drop (i+1)))=q:=by simp at po;omega
        rw[this]
       have cu:∀W:World,W.ownsRow 0 60 2 u3 ms.evs.length (qai ms.evs)->∃v' w',(∀ty,(Builtin.append_ #[48,48] ty #[u3,vS (W.heap.size+1) 1 1]).run prog ((W.alloc (.cells #[vI 2,vI v.num] 60)).alloc (.cells #[vI 2,vI v.num] 60))=.ok v' w')/\∃g cap,v'=vS g (ms.evs.length+1) cap/\AppR ((W.alloc (.cells #[vI 2,vI v.num] 60)).alloc (.cells #[vI 2,vI v.num] 60)) u3.ownBlock 60 2 (ms.evs.length+1) (qai ms.evs++qai [(2,v.num)]) g cap w' :=
        fun W au=>qby un48 qm7 (by omega) _ u3 ms.evs.length (qai ms.evs) ((au.alloc _).alloc _) (W.heap.size+1) 1 1 (by omega) (qai [(2,v.num)]) rfl (Blk.new' (by simp)) (qq4 _ _) (by unfold maxLen;omega) (by omega)
       clear hv rW n9 ox qG uC aj a_ aG kx mZ eN AB
       go_wp2_with fail
       refine mw.mono ?_
       rintro e w6 ⟨rfl,b6,c6,gW,sC,Cr⟩
       have wu:=lQ.qis bR gx gW sC Cr;have xt:=qs.keep Cr (by omega);have CB:=cu w6 wu.row;have rh:=wu.below (((Below.refl _ _).alloc (Nat.le_refl _) _).alloc (by simp) _:Bw w6 ((w6.alloc (.cells #[vI 2,vI v.num] 60)).alloc (.cells #[vI 2,vI v.num] 60)));have xu:=(xt.alloc (.cells #[vI 2,vI v.num] 60)).alloc (.cells #[vI 2,vI v.num] 60);clear mw cu wu lQ sC Cr qs
       go_wp2_with (at_builtin;refine qah (by rfl) _ _ _ _ rfl _ _ rfl (by rfl) CB ?_;rintro v1 w8 ⟨g8,q8,rfl,R8⟩)
       have Cy:=rh.tell bR ct R8;have Ht:=xu.keep R8.keep zp;have J9:¬(g8=b8):=fun e=>by
        rcases R8.new with e2|e2
        ·rw[e]at e2;exact zp e2
        ·have:=xu.lt;omega
       go_roundg (admN (v.adm 0::(ms.Ws.take i++ms.Ws.drop (i+1))))
       case measure=>omega
       case rel=>exact⟨⟨v.adm 0::(ms.Ws.take i++ms.Ws.drop (i+1)),ms.evs++[(2,v.num)]⟩,_,_,Nat.le_refl _,Cy,eh,B9.out,Ht,by simp[Value.ownBlock];exact J9,by simp at po ⊢;omega⟩
end Go.Proofs.YtphclnolomgjoaaGreatDoor
