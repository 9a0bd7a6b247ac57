import Derived.Test.YtphclnolomgjoaaGreatDoorC08
set_option linter.unusedVariables false
set_option linter.unusedSimpArgs false
set_option maxRecDepth 100000
set_option maxHeartbeats 4000000
namespace Go.Proofs.YtphclnolomgjoaaGreatDoor
open Tryz
open Go.RowKit
variable {w:World}{b br cW cap i j:Nat}{L:List Ent}{ao:Option Addr}{Ws:List Wk}{cnt d st u:Int}{x:Wk}{k:List Bs}
theorem qp9{g:Nat}(h:GRef w br g cap L ao cW Ws cnt st)(E:Ents L)(EB:Bors L)(EW:Wks Ws)(x:Wk)(hx:WkOK x):
  Cl 200 #[vP br,.agg #[vI x.num,.string (sb (joinB x.key)),vI x.d0,vI x.d1,vI x.st]] w fun e w'=>e=.returned (vI (optI (qch L Ws x)))/\Bw w w':=by
 have bR:=h.ref.at_.lt;have ct:=(h.ref.row.lt g rfl).2;have cP:=E.len;have jm:=EW.len;have cr:=h.ref.qjv;obtain⟨n,hn⟩:∃n,n=Ws.length:=⟨_,rfl⟩;obtain⟨nL,mJ⟩:∃nL,nL=L.length:=⟨_,rfl⟩;have dL:w.cell? (vA br 0)=some (vS g nL cap):=by have:=h.ref.at_.cell 0;rw[mJ];simpa using this
 have de:w.cell? (vA br 1)=some (.slice ao n cW):=by have:=h.ref.at_.cell 1;rw[hn];simpa using this
 rw[<-hn]at jm;rw[<-mJ]at cP cr;have HN:Hid (n=Ws.length):=hn;have HL:Hid (nL=L.length):=mJ;clear hn mJ;have Ax:=hx.n0;have tH:=hx.n1;unfold qch;rw[<-HN.out]
 go_enter func200,ntmps200
 go_wp2
 go_loopw [5,6] (fun eC j wr=>∃k:Nat,k<=n/\j=vI k/\eC=vI (optI (qaq L Ws x k))/\Bw w wr/\Blk wr w.heap.size 178 #[vI x.num,.string (sb (joinB x.key)),vI x.d0,vI x.d1,vI x.st]) (fun _ j _=>n-(intOf j).toNat)
 case atStart=>exact⟨0,Nat.zero_le _,rfl,rfl,by exact bel2,by exact blk2⟩
 case round =>
  obtain⟨k,hk,rfl,rfl,ae,ax⟩:=hrel;have uw:=(ae.cell (p:=vA br 0) bR).trans dL;have nQ:=(ae.cell (p:=vA br 1) bR).trans de
  by_cases ak:k<n
  ·have aV:k<Ws.length:=by rw[<-HN.out];exact ak
   obtain⟨v,hv⟩:∃v,Ws[k]?=some v:=⟨_,xr1 aV⟩;have HV:Hid (Ws[k]?=some v):=hv;have vC:=xr2 hv;have vD:=EW.at_ vC;obtain⟨b,eT,dw,eQ,jq,p0,p1,p2,p3,p4⟩:=(h.below ae).wk hv;have yh:b<w.heap.size:=qal h.wrow (by rw[eT];rfl);subst eT;rw[<-HN.out]at eQ;have HS:Hid (qaq L Ws x (k+1)=(if skips Ws (qaq L Ws x k) v then qaq L Ws x k else if way L Ws x v then some k else qaq L Ws x k)):=by
    show _=_
    rw[qda];unfold qpe;rw[HV.out]
   have nr:(k:Int)<n:=by omega
   have f_:(0:Int)<=k:=by omega
   have cn:b<wr.heap.size:=by have:=ae.size;omega
   have rq:br<wr.heap.size:=by have:=ae.size;omega
   have l3:=ax.lt;have e1:¬(b=wr.heap.size):=by omega
   have e2:¬(br=wr.heap.size):=by omega
   have e3:¬(w.heap.size=wr.heap.size):=by omega
   clear hv vC;obtain⟨B,hB⟩:∃B,B=optI (qaq L Ws x k):=⟨_,rfl⟩;rw[<-hB];have HB:Hid (B=optI (qaq L Ws x k)):=hB;clear hB;have kS:Hid (∀b0,qaq L Ws x k=some b0->b0<n/\wr.cell? (vA b (b0*5+4))=some (vI (stAt Ws b0))):=by
    show ∀b0,qaq L Ws x k=some b0->b0<n/\wr.cell? (vA b (b0*5+4))=some (vI (stAt Ws b0))
    intro b0 cx;have jt:=(qen L Ws x k b0 cx).2;obtain⟨y,hy⟩:∃y,Ws[b0]?=some y:=⟨_,xr1 jt⟩;obtain⟨b',dB,_,_,_,_,_,_,_,q4⟩:=(h.below ae).wk hy;injection dB with dB;injection dB with dB;subst dB
    refine⟨by rw[HN.out];exact jt,?_⟩
    rw[q4];unfold stAt;rw[hy]
   by_cases hskip:skips Ws (qaq L Ws x k) v=true
   ·have zr:Hid (qaq L Ws x (k+1)=qaq L Ws x k):=by
     show _=_
     rw[HS.out,if_pos hskip]
    clear HS;have bW:(v.st == 0)=true\/((v.st == 0)=false/\∃b0,qaq L Ws x k=some b0/\v.st<stAt Ws b0):=by
     unfold skips at hskip
     cases h0:(v.st == 0)
     ·right
      refine⟨rfl,?_⟩
      rw[h0,Bool.false_or]at hskip
      split at hskip
      ·rename_i b0 cx;exact⟨b0,cx,by simpa using hskip⟩
      ·cases hskip
     ·left;rfl
    clear hskip
    rcases bW with h0|⟨h0,b0,cx,ej⟩
    ·go_wp2_with fail
     go_quiet (fail)
     go_wp2_with fail
     exact⟨⟨k+1,by omega,by go_num,by rw[zr.out,HB.out],by exact bel2,by exact blk2⟩,by simp[intOf];omega⟩
    ·obtain⟨pc,r4⟩:=kS.out b0 cx;have xK:B=(b0:Int):=by rw[HB.out,cx];rfl
     subst xK;have rn:(b0:Int)<n:=by omega
     have pj:(0:Int)<=b0:=by omega
     clear cx
     go_wp2_with fail
     go_quiet (fail)
     go_wp2_with fail
     exact⟨⟨k+1,by omega,by go_num,by rw[zr.out,HB.out],by exact bel2,by exact blk2⟩,by simp[intOf];omega⟩
   ·have zr:Hid (qaq L Ws x (k+1)=(if way L Ws x v then some k else qaq L Ws x k)):=by
     show _=_
     rw[HS.out,if_neg hskip]
    have bW:(v.st == 0)=false/\∀b0,qaq L Ws x k=some b0->¬(v.st<stAt Ws b0):=by
     unfold skips at hskip;simp only[Bool.not_eq_true,Bool.or_eq_false_iff]at hskip
     refine⟨hskip.1,fun b0 cx hl=>?_⟩
     have h2:=hskip.2;rw[cx]at h2
     simp at h2
     omega
    obtain⟨h0,wL⟩:=bW;have Am:Hid (∀b0,qaq L Ws x k=some b0->¬(v.st<stAt Ws b0)):=wL;clear hskip HS wL;have Aw:Blk (wr.alloc (.cells #[vI v.num,.string (sb (joinB v.key)),vI v.d0,vI v.d1,vI v.st] 178)) wr.heap.size 178 #[vI v.num,.string (sb (joinB v.key)),vI v.d0,vI v.d1,vI v.st]:=Blk.new wr 178 _;have kv:Blk (wr.alloc (.cells #[vI v.num,.string (sb (joinB v.key)),vI v.d0,vI v.d1,vI v.st] 178)) w.heap.size 178 #[vI x.num,.string (sb (joinB x.key)),vI x.d0,vI x.d1,vI x.st]:=by exact blk2
    have aO:Bw wr (wr.alloc (.cells #[vI v.num,.string (sb (joinB v.key)),vI v.d0,vI v.d1,vI v.st] 178)):=by exact bel2
    go_upto_region 6 with fail
    generalize (wr.alloc (.cells #[vI v.num,.string (sb (joinB v.key)),vI v.d0,vI v.d1,vI v.st] 178))=W0 at Aw kv aO ⊢;have fE:=aO.size;have lv:=Aw.lt;have y1:=(aO.cell (p:=vA br 1) rq).trans nQ;have y4:=Aw.cell 4;simp only[xq0,xq1,xq2]at y4
    go_cut [50] from 31 to 50 (fun q wx=>q=.bool false/\∃m,wx=W0.drewN m)
    case first =>
     cases hvt:qaq L Ws x k with
     |none =>
      have xK:B = -1:=by rw[HB.out,hvt];rfl
      subst xK
      go_quiet (fail)
      go_wp2_with fail
      go_meet
      exact⟨rfl,_,rfl⟩
     |some b0 =>
      have xK:B=(b0:Int):=by rw[HB.out,hvt];rfl
      subst xK;obtain⟨pc,r4⟩:=kS.out b0 hvt;have Lj:=(aO.cell (p:=vA b (b0*5+4)) cn).trans r4;have D7:¬(v.st<stAt Ws b0):=Am.out b0 hvt;have rn:(b0:Int)<n:=by omega
      have pj:(0:Int)<=b0:=by omega
      generalize stAt Ws b0=Ok at r4 Lj D7;clear hvt
      go_quiet (fail)
      go_wp2_with fail
      go_meet
      exact⟨rfl,_,rfl⟩
    case rest =>
     obtain⟨rfl,m,rfl⟩:=hcut;have DZ:=fun W (hW:Bw w W)=>qcr (h.ref.below hW) E (sb (joinB v.key)) vD.small
     have D_:=fun W (hW:Bw w W)=>qe7 (h.below hW) EW (sb (joinB v.key)) vD.small
     rw[qbi]at DZ D_;have qV:Bw w (W0.drewN m):=xrm (ae.trans (aO.mono ae.size)) _;have xr:Blk (W0.drewN m) wr.heap.size 178 #[vI v.num,.string (sb (joinB v.key)),vI v.d0,vI v.d1,vI v.st]:=by exact blk2
     have mZ:Blk (W0.drewN m) w.heap.size 178 #[vI x.num,.string (sb (joinB x.key)),vI x.d0,vI x.d1,vI x.st]:=by exact blk2
     have G2:W0.heap.size=(W0.drewN m).heap.size:=by simp
     generalize W0.drewN m=W1 at qV xr mZ G2 ⊢;have E5:=xr.cell 1;simp only[xq0,xq1,xq2]at E5;clear Aw kv y1 y4 uw nQ p0 p1 p2 p3 p4
     go_wp2_with fail
     refine(DZ _ qV).mono ?_
     rintro e w1 ⟨rfl,aa⟩
     have aj:Bw w w1:=qV.trans (aa.mono (by omega));have BT:Blk w1 wr.heap.size 178 #[vI v.num,.string (sb (joinB v.key)),vI v.d0,vI v.d1,vI v.st]:=xr.below aa xr.lt;have tH:Blk w1 w.heap.size 178 #[vI x.num,.string (sb (joinB x.key)),vI x.d0,vI x.d1,vI x.st]:=mZ.below aa mZ.lt;have cJ:=aa.size;clear aa DZ xr mZ E5;have GP:=BT.cell 1;have Kn:=BT.lt;have Ko:=tH.lt;simp only[xq0,xq1,xq2]at GP;have ne1:¬(wr.heap.size=w1.heap.size):=by omega
     go_wp2_with fail
     refine(D_ _ (by exact bel2)).mono ?_
     rintro e w2 ⟨rfl,af⟩
     have aw:Bw w w2:=qac (by exact bel2) af;have Ff:Blk w2 wr.heap.size 178 #[vI v.num,.string (sb (joinB v.key)),vI v.d0,vI v.d1,vI v.st]:=Blk.below (by exact blk2) af (by first|omega|(simp;done)|(simp;omega));have ef:Blk w2 w.heap.size 178 #[vI x.num,.string (sb (joinB x.key)),vI x.d0,vI x.d1,vI x.st]:=Blk.below (by exact blk2) af (by first|omega|(simp;done)|(simp;omega));have EY:Blk w2 w1.heap.size 35 #[vI (es0 (qaf L (joinB v.key))),vI (es1 (qaf L (joinB v.key)))]:=Blk.below (Blk.new' rfl) af (by first|omega|(simp;done)|(simp;omega));have dO:=af.size;clear D_ BT tH GP;have Kq:=Ff.lt;have Kr:=ef.lt;have Kp:=EY.lt
     go_wp2_with fail
     have qq:Blk (w2.alloc (.cells #[vI (ws0 (qae Ws (joinB v.key))),vI (ws1 (qae Ws (joinB v.key)))] 35)) w.heap.size 178 #[vI x.num,.string (sb (joinB x.key)),vI x.d0,vI x.d1,vI x.st]:=by exact blk2
     have eS:Blk (w2.alloc (.cells #[vI (ws0 (qae Ws (joinB v.key))),vI (ws1 (qae Ws (joinB v.key)))] 35)) wr.heap.size 178 #[vI v.num,.string (sb (joinB v.key)),vI v.d0,vI v.d1,vI v.st]:=by exact blk2
     have oK:Blk (w2.alloc (.cells #[vI (ws0 (qae Ws (joinB v.key))),vI (ws1 (qae Ws (joinB v.key)))] 35)) w1.heap.size 35 #[vI (es0 (qaf L (joinB v.key))),vI (es1 (qaf L (joinB v.key)))]:=by exact blk2
     have nF:Blk (w2.alloc (.cells #[vI (ws0 (qae Ws (joinB v.key))),vI (ws1 (qae Ws (joinB v.key)))] 35)) w2.heap.size 35 #[vI (ws0 (qae Ws (joinB v.key))),vI (ws1 (qae Ws (joinB v.key)))]:=by exact blk2
     have aK:Bw w (w2.alloc (.cells #[vI (ws0 (qae Ws (joinB v.key))),vI (ws1 (qae Ws (joinB v.key)))] 35)):=by exact bel2
     generalize (w2.alloc (.cells #[vI (ws0 (qae Ws (joinB v.key))),vI (ws1 (qae Ws (joinB v.key)))] 35))=W3 at qq eS oK nF aK ⊢;have MW:wr.heap.size<=w1.heap.size/\w1.heap.size<=w2.heap.size:=by
      refine⟨by omega,?_⟩
      simp at dO;omega
     have wU:=ae.size;have Mf:¬(w.heap.size=wr.heap.size):=by omega
     clear af dO aw aj Ff ef EY qV G2 cJ fE Kq Kr Kp Kn Ko ne1 lv ax;have Hc:Hid (∀e,way0 L Ws x v e=(inB (joinB x.key) (joinB e.key)&&(inB (joinB v.key) (joinB e.key)&&(sh0 L Ws e x.d0&&(decide (ws0 (qae Ws (joinB v.key))>es0 (qaf L (joinB v.key)))&&decide (v.d0>0)))))):=fun e=>rfl
     have BC:Hid (∀e,way1 L Ws x v e=(inB (joinB x.key) (joinB e.key)&&(inB (joinB v.key) (joinB e.key)&&(sh1 L Ws e x.d1&&(decide (ws1 (qae Ws (joinB v.key))>es1 (qaf L (joinB v.key)))&&decide (v.d1>0)))))):=fun e=>rfl
     generalize es0 (qaf L (joinB v.key))=Ad at *;generalize es1 (qaf L (joinB v.key))=Ae at *;generalize ws0 (qae Ws (joinB v.key))=Af at *;generalize ws1 (qae Ws (joinB v.key))=Ag at *;have HK:Hid (∀(eC:Int) (w':World),Bw w w'->Blk w' w.heap.size 178 #[vI x.num,.string (sb (joinB x.key)),vI x.d0,vI x.d1,vI x.st]->eC=(if way L Ws x v then(k:Int) else B)->(∃eA:Nat,eA<=n/\vI ((k:Int)+1)=vI eA/\vI eC=vI (optI (qaq L Ws x eA))/\Bw w w'/\Blk w' w.heap.size 178 #[vI x.num,.string (sb (joinB x.key)),vI x.d0,vI x.d1,vI x.st])/\n-(intOf (vI ((k:Int)+1))).toNat<n-(intOf (vI (k:Int))).toNat):=by
      show ∀(eC:Int) (w':World),_
      intro eC w' q1 q2 q3
      refine⟨⟨k+1,by omega,by go_num,?_,q1,q2⟩,by simp[intOf];omega⟩
      rw[q3,zr.out,HB.out]
      split<;>rfl
     clear zr HB Am kS;generalize wr.heap.size=gv at *;generalize w1.heap.size=gn at *;generalize w2.heap.size=gu at *;clear ae aO cn rq l3 e1 e2 e3
     go_loopw [5,10] (fun eC i w'=>∃q:Nat,q<=nL/\i=vI q/\eC=vI (if (L.take q).any (fun e=>way0 L Ws x v e||way1 L Ws x v e) then(k:Int) else B)/\Bw W3 w') (fun _ i _=>nL-(intOf i).toNat)
     case atStart=>exact⟨0,Nat.zero_le _,rfl,by simp,Below.refl _ _⟩
     case round =>
      obtain⟨q,hq,rfl,rfl,iF⟩:=hrel;have dU:=aK.trans (iF.mono aK.size);have f3:=qq.below iF qq.lt;have f7:=eS.below iF eS.lt;have f8:=oK.below iF oK.lt;have f9:=nF.below iF nF.lt;have uw:=(dU.cell (p:=vA br 0) bR).trans dL
      by_cases mL:q<nL
      ·have vf:q<L.length:=by rw[<-HL.out];exact mL
       obtain⟨y,hy⟩:∃y,L[q]?=some y:=⟨_,xr1 vf⟩;have eU:=xr2 hy;have HT:Hid ((L.take (q+1)).any (fun e=>way0 L Ws x v e||way1 L Ws x v e)=((L.take q).any (fun e=>way0 L Ws x v e||way1 L Ws x v e)||(way0 L Ws x v y||way1 L Ws x v y))):=by
        show _=_
        rw[xrf vf,List.any_append];rw[xr1 vf]at hy;cases hy
        simp
       have Bk:=(h.ref.below dU).ent hy (j:=0) (v:=.string (sb (joinB y.key))) rfl;simp only[Nat.add_zero]at Bk;have p9:=fun W=>qk9 (sb (joinB x.key)) (sb (joinB y.key)) W hx.small (E.small eU)
       have lr:=fun W=>qk9 (sb (joinB v.key)) (sb (joinB y.key)) W vD.small (E.small eU)
       rw[qbi,qbi]at p9 lr;have fO:=fun W (hW:Bw w W)=>qlt (h.below hW) E EW hy (EB y eU) x.d0 x.d1 hx.n0 hx.n1
       have qc:Hid (way0 L Ws x v y=(inB (joinB x.key) (joinB y.key)&&(inB (joinB v.key) (joinB y.key)&&(sh0 L Ws y x.d0&&(decide (Af>Ad)&&decide (v.d0>0)))))):=Hc.out y;have bX:Hid (way1 L Ws x v y=(inB (joinB x.key) (joinB y.key)&&(inB (joinB v.key) (joinB y.key)&&(sh1 L Ws y x.d1&&(decide (Ag>Ae)&&decide (v.d1>0)))))):=BC.out y;have HQ:Hid (∀(eC:Int) (w':World),Bw W3 w'->eC=(if way1 L Ws x v y then(k:Int) else if way0 L Ws x v y then(k:Int) else(if (L.take q).any (fun e=>way0 L Ws x v e||way1 L Ws x v e) then(k:Int) else B))->(∃Ex:Nat,Ex<=nL/\vI ((q:Int)+1)=vI Ex/\vI eC=vI (if (L.take Ex).any (fun e=>way0 L Ws x v e||way1 L Ws x v e) then(k:Int) else B)/\Bw W3 w')/\nL-(intOf (vI ((q:Int)+1))).toNat<nL-(intOf (vI (q:Int))).toNat):=by
        show ∀(eC:Int) (w':World),_
        intro eC w' h1 h2
        refine⟨⟨q+1,by omega,by go_num,?_,h1⟩,by simp[intOf];omega⟩
        rw[h2,HT.out]
        cases way1 L Ws x v y<;>cases way0 L Ws x v y<;>cases (L.take q).any (fun e=>way0 L Ws x v e||way1 L Ws x v e)<;>rfl
       clear hy eU HT;generalize (if (L.take q).any (fun e=>way0 L Ws x v e||way1 L Ws x v e) then(k:Int) else B)=B2 at HQ ⊢;generalize way0 L Ws x v y=k0 at qc HQ;generalize way1 L Ws x v y=k1 at bX HQ;generalize sh0 L Ws y x.d0=s0 at fO qc;generalize sh1 L Ws y x.d1=s1 at fO bX;generalize inB (joinB x.key) (joinB y.key)=ab at p9 qc bX;generalize inB (joinB v.key) (joinB y.key)=bo at lr qc bX;generalize sb (joinB y.key)=py at Bk p9 lr;have z1:=f3.cell 1;have z2:=f3.cell 2;have z3:=f3.cell 3;have z4:=f7.cell 1;have m3:=f3.lt;have m7:=f7.lt;have m8:=f8.lt;have m9:=f9.lt;simp only[xq0,xq1,xq2]at z1 z2 z3 z4;have MY:(q:Int)<nL:=by omega
       have JH:(0:Int)<=q:=by omega
       go_wp2_with fail
       go_quiet ((go_at_call 121;exact Calls.quiet_of_same (p9 _)))
       have kQ:Bw W3 (wr.drewN nq):=xrm iF _;generalize wr.drewN nq=wq at kQ ⊢;have eM:=aK.trans (kQ.mono aK.size);have g3:=qq.below kQ qq.lt;have g7:=eS.below kQ eS.lt;have g8:=oK.below kQ oK.lt;have g9:=nF.below kQ nF.lt;have Ip:=(eM.cell (p:=vA br 0) bR).trans dL;have Iq:wq.cell? (vA g (q*6))=some (.string py):=(eM.cell (p:=vA g (q*6)) ct).trans ((dU.cell (p:=vA g (q*6)) ct).symm.trans Bk);clear f3 f7 f8 f9 uw Bk z1 z2 z3 z4 m3 m7 m8 m9 iF;have z1:=g3.cell 1;have z2:=g3.cell 2;have z3:=g3.cell 3;have z4:=g7.cell 1;have m3:=g3.lt;have m7:=g7.lt;have m8:=g8.lt;have m9:=g9.lt;simp only[xq0,xq1,xq2]at z1 z2 z3 z4
       go_wp2_with fail
       go_quiet ((go_at_call 121;exact Calls.quiet_of_same (lr _)))
       go_wp2_with fail
       refine(fO _ (xrm eM _)).mono ?_
       rintro e w5 ⟨rfl,aG⟩
       have j7:Bw W3 w5:=qac (xrm kQ _) aG;have Bd:=j7.size;clear aG fO p9 lr g3 g7 g8 g9 Ip Iq z1 z2 z3 z4 m3 m7 m8 m9 eM kQ
       go_wp2_with fail
       have c5:Blk (w5.alloc (.cells #[.bool s0,.bool s1] 242)) w5.heap.size 242 #[.bool s0,.bool s1]:=Blk.new w5 242 _;have qu:Bw W3 (w5.alloc (.cells #[.bool s0,.bool s1] 242)):=by exact bel2
       generalize (w5.alloc (.cells #[.bool s0,.bool s1] 242))=W5 at c5 qu ⊢;have c3:=qq.below qu qq.lt;have c7:=eS.below qu eS.lt;have c8:=oK.below qu oK.lt;have c9:=nF.below qu nF.lt;obtain⟨bb,rl⟩:∃bb:Nat->Int,bb=fun r=>if r=0 then B2 else if r=1 then(if k0 then(k:Int) else B2) else(if k1 then(k:Int) else if k0 then(k:Int) else B2):=⟨_,rfl⟩
       have ET:bb 0=B2:=by rw[rl];rfl
       have EU:bb 1=(if k0 then(k:Int) else B2):=by rw[rl];rfl
       have EV:bb 2=(if k1 then(k:Int) else if k0 then(k:Int) else B2):=by rw[rl];rfl
       clear rl;generalize w5.heap.size=gs at *;rw[show(vI B2)=vI (bb 0) by rw[ET]]
       go_loopw [5,14] (fun eC j w'=>∃r:Nat,r<=2/\j=vI r/\eC=vI (bb r)/\Bw W5 w') (fun _ j _=>2-(intOf j).toNat)
       case atStart=>exact⟨0,by omega,rfl,rfl,Below.refl _ _⟩
       case round =>
        obtain⟨r,hr,rfl,rfl,dm⟩:=hrel;have u5:=c5.below dm c5.lt;have u7:=c7.below dm c7.lt;have u8:=c8.below dm c8.lt;have u9:=c9.below dm c9.lt;have qm:Hid (∀(eC:Int) (w':World),Bw W5 w'->eC=bb 1->(∃vW:Nat,vW<=2/\vI 1=vI vW/\vI eC=vI (bb vW)/\Bw W5 w')/\2-(intOf (vI 1)).toNat<2-(intOf (vI 0)).toNat):=by
         show ∀(eC:Int) (w':World),_
         intro eC w' h1 h2
         exact⟨⟨1,by omega,rfl,by rw[h2],h1⟩,by simp[intOf]⟩
        have qo:Hid (∀(eC:Int) (w':World),Bw W5 w'->eC=bb 2->(∃vW:Nat,vW<=2/\vI 2=vI vW/\vI eC=vI (bb vW)/\Bw W5 w')/\2-(intOf (vI 2)).toNat<2-(intOf (vI 1)).toNat):=by
         show ∀(eC:Int) (w':World),_
         intro eC w' h1 h2
         exact⟨⟨2,by omega,rfl,by rw[h2],h1⟩,by simp[intOf]⟩
        have A6:=qu.trans (dm.mono qu.size)
        rcases(show r=0\/r=1\/r=2 by omega) with rfl|rfl|rfl
        ·have y1:=u5.cell 0;have y2:=u8.cell 0;have y3:=u9.cell 0;have y4:=u7.cell 2;have o5:=u5.lt;have o7:=u7.lt;have o8:=u8.lt;have o9:=u9.lt;simp only[xq0,xq1,xq2]at y1 y2 y3 y4;have qN:Hid (bb 1=(if k0 then(k:Int) else bb 0)):=by
          show _=_
          rw[EU,ET]
         generalize bb 0=Bc at qN ⊢
         cases ab
         ·go_wp2_with fail
          go_quiet (fail)
          go_wp2_with fail
          exact qm.out _ _ (xrm dm _) (by rw[qN.out,show k0=false by rw[qc.out];first|rfl|(simp;omega)];rfl)
         ·cases bo
          ·go_wp2_with fail
           go_quiet (fail)
           go_wp2_with fail
           exact qm.out _ _ (xrm dm _) (by rw[qN.out,show k0=false by rw[qc.out];first|rfl|(simp;omega)];rfl)
          ·cases s0
           ·go_wp2_with fail
            go_quiet (fail)
            go_wp2_with fail
            exact qm.out _ _ (xrm dm _) (by rw[qN.out,show k0=false by rw[qc.out];first|rfl|(simp;omega)];rfl)
           ·by_cases t1:Af>Ad
            ·by_cases t2:v.d0>0
             ·go_wp2_with fail
              go_quiet (fail)
              go_wp2_with fail
              exact qm.out _ _ (xrm dm _) (by rw[qN.out,show k0=true by rw[qc.out];first|rfl|(simp;omega)];rfl)
             ·go_wp2_with fail
              go_quiet (fail)
              go_wp2_with fail
              exact qm.out _ _ (xrm dm _) (by rw[qN.out,show k0=false by rw[qc.out];first|rfl|(simp;omega)];rfl)
            ·have t3:¬(Ad<Af):=t1;have t4:decide (Ad<Af)=false:=decide_eq_false t3;have t5:Af<=Ad:=by omega
             go_wp2_with fail
             go_quiet (fail)
             go_wp2_with fail
             exact qm.out _ _ (xrm dm _) (by rw[qN.out,show k0=false by rw[qc.out];first|rfl|(simp;omega)];rfl)
        ·have y1:=u5.cell 1;have y2:=u8.cell 1;have y3:=u9.cell 1;have y4:=u7.cell 3;have o5:=u5.lt;have o7:=u7.lt;have o8:=u8.lt;have o9:=u9.lt;simp only[xq0,xq1,xq2]at y1 y2 y3 y4;have tD:Hid (bb 2=(if k1 then(k:Int) else bb 1)):=by
          show _=_
          rw[EV,EU]
         generalize bb 1=Bc at tD ⊢
         cases ab
         ·go_wp2_with fail
          go_quiet (fail)
          go_wp2_with fail
          exact qo.out _ _ (xrm dm _) (by rw[tD.out,show k1=false by rw[bX.out];first|rfl|(simp;omega)];rfl)
         ·cases bo
          ·go_wp2_with fail
           go_quiet (fail)
           go_wp2_with fail
           exact qo.out _ _ (xrm dm _) (by rw[tD.out,show k1=false by rw[bX.out];first|rfl|(simp;omega)];rfl)
          ·cases s1
           ·go_wp2_with fail
            go_quiet (fail)
            go_wp2_with fail
            exact qo.out _ _ (xrm dm _) (by rw[tD.out,show k1=false by rw[bX.out];first|rfl|(simp;omega)];rfl)
           ·by_cases t1:Ag>Ae
            ·by_cases t2:v.d1>0
             ·go_wp2_with fail
              go_quiet (fail)
              go_wp2_with fail
              exact qo.out _ _ (xrm dm _) (by rw[tD.out,show k1=true by rw[bX.out];first|rfl|(simp;omega)];rfl)
             ·go_wp2_with fail
              go_quiet (fail)
              go_wp2_with fail
              exact qo.out _ _ (xrm dm _) (by rw[tD.out,show k1=false by rw[bX.out];first|rfl|(simp;omega)];rfl)
            ·have t3:¬(Ae<Ag):=t1;have t4:decide (Ae<Ag)=false:=decide_eq_false t3;have t5:Ag<=Ae:=by omega
             go_wp2_with fail
             go_quiet (fail)
             go_wp2_with fail
             exact qo.out _ _ (xrm dm _) (by rw[tD.out,show k1=false by rw[bX.out];first|rfl|(simp;omega)];rfl)
        ·go_wp2_with fail
         exact HQ.out _ _ A6 EV
      ·have tb:q=nL:=by omega
       have HQ:Hid ((L.take q).any (fun e=>way0 L Ws x v e||way1 L Ws x v e)=way L Ws x v):=by
        show _=_
        rw[xrd (by have:=HL.out;omega)];rfl
       go_wp2_with fail
       exact HK.out _ _ dU f3 (by rw[HQ.out])
  ·have je:k=n:=by omega
   subst je
   go_wp2
   go_ret
   exact⟨rfl,ae⟩
structure WkS (Ws:List Wk) (st:Int):Prop where
 wks:Wks Ws
 nums:(Ws.map (·.num)).Nodup
 st:∀x∈Ws,0<=x.st/\x.st<=st
 sts:((Ws.filter fun x=>decide (0<x.st)).map (·.st)).Nodup
theorem qsw(x:Wk)(t:Int):(x.adm t).key=x.key:=rfl
theorem Wks.set(h:Wks Ws)(hi:Ws[i]?=some x)(t:Int):Wks (Ws.set i (x.adm t)):=by
 have hx:=xr2 hi
 refine⟨fun y hy=>?_,fun y hy=>?_,by rw[List.length_set];exact h.len⟩
 ·rcases List.mem_or_eq_of_mem_set hy with hy|rfl
  ·exact h.ok y hy
  ·exact h.ok x hx
 ·rcases List.mem_or_eq_of_mem_set hy with hy|rfl
  ·exact h.num y hy
  ·exact h.num x hx
theorem qbg(hi:Ws[i]?=some x):Ws.Perm (x::(Ws.take i++Ws.drop (i+1))):=by
 have ak:=(xr0.1 hi).1;have h1:Ws=Ws.take i++x::Ws.drop (i+1):=by
  conv=>lhs;rw[<-List.take_append_drop i Ws]
  rw[List.drop_eq_getElem_cons ak];rw[xr1 ak]at hi;cases hi;rfl
 conv=>lhs;rw[h1]
 exact List.perm_middle
theorem Wks.qis(h:Wks Ws)(hi:Ws[i]?=some x)(t:Int):Wks (x.adm t::(Ws.take i++Ws.drop (i+1))):=by
 have hp:=qbg hi;have hx:=xr2 hi;have aF:∀y∈Ws.take i++Ws.drop (i+1),y∈Ws:=fun y hy=>hp.mem_iff.2 (xru _ hy)
 have an:=hp.length_eq
 refine⟨fun y hy=>?_,fun y hy=>?_,by have:=h.len;simp at an ⊢;omega⟩
 ·rcases List.mem_cons.1 hy with rfl|hy
  ·exact h.ok x hx
  ·exact h.ok y (aF y hy)
 ·rcases List.mem_cons.1 hy with rfl|hy
  ·exact h.num x hx
  ·exact h.num y (aF y hy)
def admN (Ws:List Wk):Nat:=(Ws.filter fun x=>decide (0<x.st)).length
theorem qje(hi:Ws[i]?=some x)(hx:0<x.st):admN (x.adm 0::(Ws.take i++Ws.drop (i+1)))+1=admN Ws:=by
 have hp:=(qbg hi).filter fun x=>decide (0<x.st)
 have h1:=hp.length_eq;unfold admN;rw[h1,xrz,xrz]
 simp[Wk.adm,hx]
theorem WkS.qis(h:WkS Ws st)(hi:Ws[i]?=some x):WkS (x.adm 0::(Ws.take i++Ws.drop (i+1))) st:=by
 have hp:=qbg hi;have hx:=xr2 hi;have aF:∀y∈Ws.take i++Ws.drop (i+1),y∈Ws:=fun y hy=>hp.mem_iff.2 (xru _ hy)
 refine⟨h.wks.qis hi 0,?_,fun y hy=>?_,?_⟩
 ·have h1:=((hp.map (·.num)).nodup_iff).1 h.nums
  exact h1
 ·rcases List.mem_cons.1 hy with rfl|hy
  ·exact⟨Int.le_refl 0,Int.le_trans (h.st x hx).1 (h.st x hx).2⟩
  ·exact h.st y (aF y hy)
 ·have h1:=(((hp.filter fun x=>decide (0<x.st)).map (·.st)).nodup_iff).1 h.sts;rw[xrz]at h1 ⊢;simp only[show decide (0<(x.adm 0).st)=false from rfl,Bool.false_eq_true,if_false]
  split at h1
  ·simp only[List.map_cons,List.nodup_cons]at h1;exact h1.2
  ·exact h1
theorem WkS.admit(h:WkS Ws st)(h0:0<=st)(hi:Ws[i]?=some x)(wV:x.st=0):WkS (Ws.set i (x.adm (st+1))) (st+1):=by
 have ak:=(xr0.1 hi).1;have cX:Ws.set i (x.adm (st+1))=Ws.take i++x.adm (st+1)::Ws.drop (i+1):=List.set_eq_take_append_cons_drop .. |>.trans (by rw[if_pos ak]);have hp:=qbg hi;have hx:=xr2 hi
 refine⟨h.wks.set hi _,?_,fun y hy=>?_,?_⟩
 ·have h1:((Ws.set i (x.adm (st+1))).map (·.num))=Ws.map (·.num):=by
   rw[List.map_set]
   apply List.ext_getElem?
   intro j;rw[List.getElem?_set]
   split
   ·rename_i e;subst e
    rw[if_pos (by simpa using ak),xrs,hi];rfl
   ·rfl
  rw[h1];exact h.nums
 ·rcases List.mem_or_eq_of_mem_set hy with hy|rfl
  ·have:=h.st y hy;omega
  ·simp[Wk.adm];omega
 ·have hq:(Ws.set i (x.adm (st+1))).Perm (x.adm (st+1)::(Ws.take i++Ws.drop (i+1))):=by rw[cX];exact List.perm_middle
  refine(((hq.filter fun x=>decide (0<x.st)).map (·.st)).nodup_iff).2 ?_
  have h1:=(((hp.filter fun x=>decide (0<x.st)).map (·.st)).nodup_iff).1 h.sts;rw[xrz]at h1 ⊢;rw[if_neg (by simp[wV])]at h1;rw[if_pos (show decide (0<(x.adm (st+1)).st)=true from decide_eq_true (show(0:Int)<st+1 by omega))];simp only[List.map_cons,List.nodup_cons]
  refine⟨fun hm=>?_,h1⟩
  obtain⟨y,hy,he⟩:=xrq.1 hm;have od:=hp.mem_iff.2 (xru _ (xrr.1 hy).1)
  have:=(h.st y od).2
  simp[Wk.adm]at he
  omega
theorem qa5(L:List Ent)(Ws:List Wk)(x:Wk):∀n b,qaq L Ws x n=some b->∃v,Ws[b]?=some v/\v.st≠0/\way L Ws x v=true
 |0,b,h=>by simp[qaq]at h
 |n+1,b,h=>by
  rw[qda]at h;unfold qpe at h
  split at h
  ·rename_i v hv
   split at h
   ·exact qa5 L Ws x n b h
   ·rename_i hs
    split at h
    ·rename_i hw
     simp at h;subst h
     refine⟨v,hv,fun e=>hs ?_,hw⟩
     unfold skips;simp[e]
    ·exact qa5 L Ws x n b h
  ·exact qa5 L Ws x n b h
structure MS where
 Ws:List Wk
 evs:List (Int×Int)
def roomStep(L:List Ent)(x:Wk)(s:MS):Option MS :=
 if qbm L s.Ws x then none else match qch L s.Ws x with
  |none=>none
  |some i=>match s.Ws[i]? with
   |some v=>some ⟨v.adm 0::(s.Ws.take i++s.Ws.drop (i+1)),s.evs++[(2,v.num)]⟩
   |none=>none
def room (L:List Ent)(x:Wk):Nat->MS->MS
 |0,s=>s
 |n+1,s=>match roomStep L x s with
  |none=>s
  |some s'=>room L x n s'
theorem qmc{s s':MS}(hS:WkS s.Ws st)(h:roomStep L x s=some s'):admN s'.Ws+1=admN s.Ws/\WkS s'.Ws st/\s'.Ws.length=s.Ws.length:=by
 unfold roomStep at h
 split at h
 ·cases h
 ·split at h
  ·cases h
  ·rename_i i hi
   obtain⟨v,hv,h0,_⟩:=qa5 L s.Ws x _ i hi;rw[hv]at h
   simp at h
   subst h
   have:=(hS.st v (xr2 hv)).1
   have hl:=(qbg hv).length_eq
   exact⟨qje hv (by omega),hS.qis hv,by simp at hl ⊢;omega⟩
def shr (u d n al:Int):Int×Int:=if al=0\/u+d-n<0 then(0,1) else(u+d-n,al)
def better(a b:Int×Int):Int×Int:=if a.1*b.2<b.1*a.2 then b else a
def qav (L:List Ent)(Ws:List Wk)(x:Wk):Int×Int :=
 better (better (0,1) (shr (ws0 (qae Ws (joinB x.key))) x.d0 (es0 (qaf L (joinB x.key))) (es0 (qaf L [])))) (shr (ws1 (qae Ws (joinB x.key))) x.d1 (es1 (qaf L (joinB x.key))) (es1 (qaf L [])))
theorem qof{n al:Int}(h1:0<=u/\u<=24000)(h2:0<=d/\d<=1000)(h3:0<=n/\n<=20000)(h4:0<=al/\al<=20000):(0<=(shr u d n al).1/\(shr u d n al).1<=25000)/\(0<=(shr u d n al).2/\(shr u d n al).2<=25000):=by
 unfold shr
 split<;>simp<;>omega
theorem qf4{a b:Int×Int}(ha:(0<=a.1/\a.1<=25000)/\(0<=a.2/\a.2<=25000))(hb:(0<=b.1/\b.1<=25000)/\(0<=b.2/\b.2<=25000)):(0<=(better a b).1/\(better a b).1<=25000)/\(0<=(better a b).2/\(better a b).2<=25000):=by
 unfold better
 split<;>assumption
structure SS where
 Ws:List Wk
 st:Int
 evs:List (Int×Int)
variable {s s':SS}
def qdq (Ws:List Wk)(b:Nat):Bs:=match Ws[b]? with|some y=>joinB y.key|none=>[]
def qub (Ws:List Wk)(b:Nat):Int:=match Ws[b]? with|some y=>y.num|none=>0
def pickStep(L:List Ent)(Ws:List Wk)(jk:Option Nat)(i:Nat):Option Nat :=
 match Ws[i]? with
 |some x=>if ownW L Ws x&&(match jk with|none=>true|some b=>Op.bytesLess (joinB x.key) (qdq Ws b)) then some i else jk
 |none=>jk
def qc6 (L:List Ent)(Ws:List Wk)(l:List Nat):Option Nat:=l.foldl (pickStep L Ws) none
def qlq (L:List Ent)(Ws:List Wk):Option Nat:=qc6 L Ws (qcn Ws)
def qlh (Ws:List Wk)(n t:Int):List Wk:=Ws.map fun y=>if y.num=n then y.adm t else y
def qcs (L:List Ent)(x:Wk)(s:SS):SS :=
 ⟨qlh (room L x (admN s.Ws) ⟨s.Ws,s.evs⟩).Ws x.num (s.st+1),s.st+1,(room L x (admN s.Ws) ⟨s.Ws,s.evs⟩).evs++[(1,x.num)]⟩
def ownStep(L:List Ent)(s:SS):Option SS :=
 match qlq L s.Ws with
 |none=>none
 |some b=>match s.Ws[b]? with
  |none=>none
  |some x=>some (qcs L x s)
def qc2 (a b:Int×Int):Bool:=decide (a.1*b.2<b.1*a.2)
def qa3 (L:List Ent)(Ws:List Wk)(og:Option Nat×(Int×Int))(i:Nat):Option Nat×(Int×Int) :=
 match Ws[i]? with
 |none=>og
 |some x=>if qbm L Ws x then
   (if (match og.1 with|none=>true|some b=>qc2 (qav L Ws x) og.2||(!qc2 og.2 (qav L Ws x)&&decide (x.num<qub Ws b))) then(some i,qav L Ws x) else og)
  else og
def qaw (L:List Ent)(Ws:List Wk)(l:List Nat):Option Nat×(Int×Int):=l.foldl (qa3 L Ws) (none,(0,0))
def qd1 (L:List Ent)(Ws:List Wk):Option Nat:=(qaw L Ws (qcn Ws)).1
def qds (b:Nat)(x:Wk)(s:SS):SS:=⟨s.Ws.set b (x.adm (s.st+1)),s.st+1,s.evs++[(1,x.num)]⟩
def qas (L:List Ent)(s:SS):Option SS :=
 match qd1 L s.Ws with
 |none=>none
 |some b=>match s.Ws[b]? with
  |none=>none
  |some x=>some (qds b x s)
def iterS(f:SS->Option SS):Nat->SS->SS
 |0,s=>s
 |n+1,s=>match f s with
  |none=>s
  |some s'=>iterS f n s'
def qa2 (L:List Ent)(s:SS):SS:=iterS (ownStep L) s.Ws.length s
def qaj (L:List Ent)(s:SS):SS:=iterS (qas L) s.Ws.length (qa2 L s)
theorem qb9{f:SS->Option SS}(h:f s=none):∀n,iterS f n s=s
 |0=>rfl
 |n+1=>by simp only[iterS,h]
theorem qfb{f:SS->Option SS}(h:f s=some s')(n:Nat):iterS f (n+1) s=iterS f n s':=by simp only[iterS,h]
theorem qe6{f:SS->Option SS}{I:SS->Prop}(hI:∀s s',I s->f s=some s'->I s'):∀(n:Nat) (s:SS),I s->I (iterS f n s)
 |0,s,h=>h
 |n+1,s,h=>by
  simp only[iterS]
  cases he:f s with
  |none=>exact h
  |some s'=>exact qe6 hI n s' (hI s s' h he)
theorem qc1{f:SS->Option SS}{I:SS->Prop}{m:SS->Nat}(hI:∀s s',I s->f s=some s'->I s'/\m s'<m s):∀(n k:Nat) (s:SS),I s->m s<=n->m s<=k->iterS f n s=iterS f k s
 |0,k,s,h,hn,hk=>by
  have:f s=none:=by
   cases he:f s with
   |none=>rfl
   |some s'=>have:=(hI s s' h he).2;omega
  rw[qb9 this,qb9 this]
 |n+1,0,s,h,hn,hk=>by
  have:f s=none:=by
   cases he:f s with
   |none=>rfl
   |some s'=>have:=(hI s s' h he).2;omega
  rw[qb9 this,qb9 this]
 |n+1,k+1,s,h,hn,hk=>by
  simp only[iterS]
  cases he:f s with
  |none=>rfl
  |some s' =>
   have:=hI s s' h he
   exact qc1 hI n k s' this.1 (by omega) (by omega)
def Anti (Ws:List Wk):Prop:=∀x∈Ws,∀y∈Ws,inB (joinB x.key) (joinB y.key)=true->x.key=y.key
theorem qhn{a b:List Wk}(h:a.Perm b):ws0 a=ws0 b:=by
 unfold ws0
 induction h with
 |nil=>rfl
 |cons x _ ih=>simp[ih]
 |swap x y l=>simp;omega
 |trans _ _ h1 h2=>exact h1.trans h2
theorem qhl{a b:List Wk}(h:a.Perm b):ws1 a=ws1 b:=by
 unfold ws1
 induction h with
 |nil=>rfl
 |cons x _ ih=>simp[ih]
 |swap x y l=>simp;omega
 |trans _ _ h1 h2=>exact h1.trans h2
theorem qmb{v:Wk}(hi:Ws[i]?=some v)(hv:0<v.st)(k:Bs):
  ws0 (qae Ws k)=ws0 (qae (v.adm 0::(Ws.take i++Ws.drop (i+1))) k)+(if inB (joinB v.key) k then v.d0 else 0)/\ws1 (qae Ws k)=ws1 (qae (v.adm 0::(Ws.take i++Ws.drop (i+1))) k)+(if inB (joinB v.key) k then v.d1 else 0):=by
 have hp:=(qbg hi).filter fun x=>decide (0<x.st)&&inB (joinB x.key) k
 have h0:=qhn hp;have h1:=qhl hp;unfold qae;rw[h0,h1,xrz,xrz];rw[show(decide (0<(v.adm 0).st)&&inB (joinB (v.adm 0).key) k)=false from by simp[Wk.adm]];rw[show(decide (0<v.st)&&inB (joinB v.key) k)=inB (joinB v.key) k from by simp[hv]]
 cases inB (joinB v.key) k<;>simp[ws0,ws1]<;>omega
theorem qie(hi:Ws[i]?=some x)(hx:x.st=0){t:Int}(ht:0<t)(k:Bs):
  ws0 (qae (Ws.set i (x.adm t)) k)=ws0 (qae Ws k)+(if inB (joinB x.key) k then x.d0 else 0)/\ws1 (qae (Ws.set i (x.adm t)) k)=ws1 (qae Ws k)+(if inB (joinB x.key) k then x.d1 else 0):=by
 have ak:=(xr0.1 hi).1;have cX:Ws.set i (x.adm t)=Ws.take i++x.adm t::Ws.drop (i+1):=List.set_eq_take_append_cons_drop .. |>.trans (by rw[if_pos ak]);have hq:(Ws.set i (x.adm t)).Perm (x.adm t::(Ws.take i++Ws.drop (i+1))):=by rw[cX];exact List.perm_middle
 have hp:=(qbg hi).filter fun x=>decide (0<x.st)&&inB (joinB x.key) k
 have qF:=hq.filter fun x=>decide (0<x.st)&&inB (joinB x.key) k
 unfold qae;rw[qhn hp,qhl hp,qhn qF,qhl qF,xrz,xrz];rw[show(decide (0<(x.adm t).st)&&inB (joinB (x.adm t).key) k)=inB (joinB x.key) k from by simp[Wk.adm,ht]];rw[show(decide (0<x.st)&&inB (joinB x.key) k)=false from by simp[hx]]
 cases inB (joinB x.key) k<;>simp[ws0,ws1,Wk.adm]<;>omega
def qa0 (Ws:List Wk)(k:List Bs):Option Wk:=Ws.find? fun y=>(y.st == 0)&&decide (y.key=k)
def qd2 (L:List Ent)(Ws:List Wk)(k:List Bs):Bool:=match qa0 Ws k with|some h=>ownW L Ws h|none=>false
def mOwn (L:List Ent)(Ws:List Wk):Nat:=(Ws.filter fun x=>(x.st == 0)&&qd2 L Ws x.key).length
def qcm (Ws:List Wk):Nat:=(Ws.filter fun x=>x.st == 0).length
theorem qq8(L:List Ent)(Ws:List Wk):mOwn L Ws<=Ws.length:=xrh _ _
theorem qom(Ws:List Wk):qcm Ws<=Ws.length:=xrh _ _
theorem qak(h:qa0 Ws k=some x):x∈Ws/\x.st=0/\x.key=k:=by
 have h1:=List.find?_some h;have h2:=List.mem_of_find?_eq_some h
 simp at h1
 exact⟨h2,h1.1,h1.2⟩
theorem qcj(hS:∀x∈Ws,0<=x.st)(hi:Ws[i]?=some x)(h:qd7 Ws i x=true):qa0 Ws x.key=some x:=by
 have ak:=(xr0.1 hi).1;have h1:Ws=Ws.take i++x::Ws.drop (i+1):=by
  conv=>lhs;rw[<-List.take_append_drop i Ws]
  rw[List.drop_eq_getElem_cons ak];rw[xr1 ak]at hi;cases hi;rfl
 unfold qd7 at h;simp only[Bool.and_eq_true,beq_iff_eq,List.all_eq_true,Bool.or_eq_true,decide_eq_true_eq]at h;unfold qa0;rw[h1,List.find?_append];rw[List.find?_eq_none.2 (fun y hy=>by
  have:=h.2 y hy
  have h0:=hS y (List.mem_of_mem_take hy)
  simp;intro h3
  rcases this with h4|h4
  ·omega
  ·exact h4)]
 simp[h.1]
theorem qhj{α β : Type}{f : α -> β}{l:List α}(hn:(l.map f).Nodup){x y : α}(hi:l[i]?=some x)(hj:l[j]?=some y)(e:f x=f y):i=j:=by
 obtain⟨h1,h2⟩:=xr0.1 hi
 refine(List.getElem?_inj (l:=l.map f) (by simpa using h1) hn).1 ?_
 rw[xrs,xrs,hi,hj]
 simp[e]
theorem qil(h:headAt Ws i=true):∃x,Ws[i]?=some x/\qd7 Ws i x=true:=by
 unfold headAt at h
 split at h
 ·rename_i x hx;exact⟨x,hx,h⟩
 ·cases h
theorem qfg(h:i∈qcn Ws):i<Ws.length/\headAt Ws i=true:=by
 unfold qcn qcw at h;rw[xrr,List.mem_range]at h
 exact h
theorem qj6(L:List Ent)(Ws:List Wk)(l:List Nat)(i:Nat):qc6 L Ws (l++[i])=pickStep L Ws (qc6 L Ws l) i:=by
 unfold qc6;rw[List.foldl_append];rfl
theorem qiv(L:List Ent)(Ws:List Wk)(a:Option Nat)(i:Nat):pickStep L Ws a i=a\/(pickStep L Ws a i=some i/\∃x,Ws[i]?=some x/\ownW L Ws x=true):=by
 unfold pickStep
 cases hx:Ws[i]? with
 |none=>exact .inl rfl
 |some x =>
  simp only
  generalize (match a with|none=>true|some b=>Op.bytesLess (joinB x.key) (qdq Ws b))=c
  cases ho:ownW L Ws x<;>cases c
  ·exact .inl rfl
  ·exact .inl rfl
  ·exact .inl rfl
  ·exact .inr ⟨rfl,x,rfl,ho⟩
theorem qi6(L:List Ent)(Ws:List Wk):∀(l:List Nat) (a:Option Nat) (b:Nat),l.foldl (pickStep L Ws) a=some b->a=some b\/(b∈l/\∃x,Ws[b]?=some x/\ownW L Ws x=true)
 | [],a,b,h=>.inl h
 |i::l,a,b,h=>by
  rw[List.foldl_cons]at h
  rcases qi6 L Ws l _ b h with h1|⟨h1,h2⟩
  ·rcases qiv L Ws a i with h3|⟨h3,h4⟩
   ·rw[h3]at h1;exact .inl h1
   ·rw[h3]at h1;cases h1;exact .inr ⟨List.mem_cons_self ..,h4⟩
  ·exact .inr ⟨xru _ h1,h2⟩
theorem qij{l:List Nat}(h:qc6 L Ws l=some b):b∈l/\∃x,Ws[b]?=some x/\ownW L Ws x=true:=by
 rcases qi6 L Ws l none b h with h1|h1
 ·cases h1
 ·exact h1
theorem qfc(h:qlq L Ws=some b):∃x,Ws[b]?=some x/\qd7 Ws b x=true/\ownW L Ws x=true:=by
 obtain⟨h1,x,hx,ho⟩:=qij h;obtain⟨y,hy,hh⟩:=qil (qfg h1).2;rw[hx]at hy;cases hy
 exact⟨x,hx,hh,ho⟩
def qq0 (L:List Ent)(Ws:List Wk)(k:List Bs):Prop:=ws0 (qae Ws (joinB k))>es0 (qaf L (joinB k))\/ws1 (qae Ws (joinB k))>es1 (qaf L (joinB k))
theorem qoh{v:Wk}(h:way L Ws x v=true):qq0 L Ws v.key:=by
 unfold way at h;rw[xs0]at h;obtain⟨e,_,he⟩:=h;rw[Bool.or_eq_true]at he;unfold way0 way1 at he;simp only[Bool.and_eq_true,decide_eq_true_eq]at he
 rcases he with ⟨_,_,_,h1,_⟩|⟨_,_,_,h1,_⟩
 ·exact .inl h1
 ·exact .inr h1
theorem qg7(hx:0<=x.d0/\0<=x.d1)(h:ownW L Ws x=true):¬qq0 L Ws x.key:=by
 unfold ownW at h;simp only[Bool.and_eq_true,decide_eq_true_eq]at h
 rintro(h1|h1)<;>omega
end Go.Proofs.YtphclnolomgjoaaGreatDoor
