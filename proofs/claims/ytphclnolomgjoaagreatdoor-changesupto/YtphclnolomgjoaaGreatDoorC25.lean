import Derived.Test.YtphclnolomgjoaaGreatDoorC23
import Derived.Test.YtphclnolomgjoaaGreatDoorC24
set_option linter.unusedVariables false
set_option linter.unusedSimpArgs false
set_option maxRecDepth 100000
set_option maxHeartbeats 4000000
namespace Go.Proofs.YtphclnolomgjoaaGreatDoor
open Tryz
open Go.RowKit
variable {W W' w w3:World}{br c cW cap g3:Nat}{L:List Ent}{o0 o3:Option Nat}{cnt st:Int}{ao:Option Addr}{Ws Ws':List Wk}{sl:Value}{evs:List (Int×Int)}{T:Nat->Prop}{s s' s0:SS}{x:Wk}
theorem qck.other{g:Nat}{n:Nat}(h:qck w br g cap L o0 cnt n W ao cW Ws st sl evs)(bR:br<w.heap.size)(hg:g<w.heap.size)(hk:Keep T W W')(hT:∀b,T b->w.heap.size<=b/\sl.ownBlock≠some b/\(Value.slice ao Ws.length cW).ownBlock≠some b):qck w br g cap L o0 cnt n W' ao cW Ws st sl evs:=by
 have cU:¬T br:=fun e=>by have:=(hT br e).1;omega
 have wK:¬T g:=fun e=>by have:=(hT g e).1;omega
 refine⟨⟨h.ref.ref.keep hk cU wK,qab h.ref.wrow hk (fun b hb e=>(hT b e).2.2 hb),h.ref.ne1⟩,h.len,h.keep.step hk (fun b hb e=>?_),h.old,qab h.row hk (fun b hb e=>(hT b e).2.1 hb),h.new,h.sep⟩
 have:=(hT b e).1;omega
theorem qnc(h:SInv s0)(he:s0.evs=[]):qdu L s0 (qa2 L s0) :=
 qe6 (I:=qdu L s0) (fun s s' h he=>(h.next he).1) _ s0 (qdu.start h he)
structure qd5 (L:List Ent) (s0 s:SS):Prop where
 inv:SInv s
 fin:iterS (qas L) (qcm s.Ws) s=qaj L s0
 st:s.st+qcm s.Ws<=s0.st+48
 ev:s.evs.length+qcm s.Ws<=624
theorem SInv.qwq(s s':SS)(h:SInv s)(he:qas L s=some s'):SInv s'/\qcm s'.Ws<qcm s.Ws:=⟨(h.idle he).1,(h.idle he).2.1⟩
theorem qd5.start(h:SInv s0)(he:s0.evs=[])(hl:(qa2 L s0).Ws.length=s0.Ws.length):qd5 L s0 (qa2 L s0):=by
 have hR:=qnc (L:=L) h he;have h1:=qom (qa2 L s0).Ws;have h2:=hR.inv.wks.wks.len;have h3:=hR.st;have h4:=hR.ev
 exact⟨hR.inv,qc1 (m:=fun s=>qcm s.Ws) SInv.qwq _ _ _ hR.inv (Nat.le_refl _) (by show qcm (qa2 L s0).Ws<=s0.Ws.length;omega),by omega,by omega⟩
theorem qd5.next(h:qd5 L s0 s)(he:qas L s=some s'):qd5 L s0 s'/\qcm s'.Ws<qcm s.Ws:=by
 obtain⟨h1,h2,h3,h4,h5⟩:=h.inv.idle he
 refine⟨⟨h1,?_,?_,?_⟩,h2⟩
 ·rw[<-h.fin];obtain⟨m,hm⟩:∃m,qcm s.Ws=m+1:=⟨qcm s.Ws-1,by omega⟩;rw[hm,qfb he]
  exact qc1 (m:=fun s=>qcm s.Ws) SInv.qwq _ _ s' h1 (Nat.le_refl _) (by show qcm s'.Ws<=m;omega)
 ·have:=h.st;omega
 ·have:=h.ev;omega
theorem qd5.done(h:qd5 L s0 s)(he:qas L s=none):s=qaj L s0:=by
 rw[<-h.fin,qb9 he]
theorem qln(E:Ents L)(EW:Wks Ws)(hx:WkOK x):(0<=(qav L Ws x).1/\(qav L Ws x).1<=25000)/\(0<=(qav L Ws x).2/\(qav L Ws x).2<=25000):=by
 have u:=qke EW (joinB x.key);have e:=qeo E (joinB x.key);have r:=qeo E []
 exact qf4 (qf4 ⟨⟨by decide,by decide⟩,⟨by decide,by decide⟩⟩ (qof u.1 hx.n0 e.1 r.1)) (qof u.2 hx.n1 e.2 r.2)
theorem qse(E:Ents L)(EW:Wks Ws)(l:List Nat):((0<=(qaw L Ws l).2.1/\(qaw L Ws l).2.1<=25000)/\(0<=(qaw L Ws l).2.2/\(qaw L Ws l).2.2<=25000))/\(∀b0,(qaw L Ws l).1=some b0->∃y,Ws[b0]?=some y):=by
 have h:=qd4 E Ws l _ (qux L Ws)
 refine⟨?_,fun b0 hb=>by obtain⟨y,hy,_⟩:=h.1 b0 hb;exact⟨y,hy⟩⟩
 cases hb:(qaw L Ws l).1 with
 |some b0 =>
  obtain⟨y,hy,hs⟩:=h.1 b0 hb;have cv:(qaw L Ws l).2=qav L Ws y:=hs;rw[cv]
  exact qln E EW (EW.at_ (xr2 hy))
 |none =>
  have key:∀(l:List Nat) (a:Option Nat×(Int×Int)),(l.foldl (qa3 L Ws) a).1=none->l.foldl (qa3 L Ws) a=a:=by
   intro l
   induction l with
   |nil=>intro a _;rfl
   |cons i l ih =>
    intro a ha;rw[List.foldl_cons]at ha ⊢;have h1:=ih _ ha;rw[h1]at ha ⊢
    rcases qe8 L Ws a i with e|⟨e,_⟩
    ·exact e
    ·rw[e]at ha;cases ha
  have h1:=key l (none,(0,0)) hb;have h2:qaw L Ws l=(none,(0,0)):=h1;rw[h2]
  exact⟨⟨by decide,by decide⟩,⟨by decide,by decide⟩⟩
theorem settle_ref{g:Nat}(h:GRef w br g cap L ao cW Ws cnt st)(E:Ents L)(EB:Bors L)(I:SInv ⟨Ws,st,[]⟩)(bW:st<=900000000):
  Cl 109 #[vP br] w fun e w'=>∃sl fy hZ,e=.returned sl/\qck w br g cap L (Value.slice ao Ws.length cW).ownBlock cnt Ws.length w' fy hZ (qaj L ⟨Ws,st,[]⟩).Ws (qaj L ⟨Ws,st,[]⟩).st sl (qaj L ⟨Ws,st,[]⟩).evs:=by
 have bR:=h.qii;have ct:g<w.heap.size:=(h.ref.row.lt g rfl).2;have av:=owners_ref h E EB I bW;have iR:=I.wks.wks.len
 simp only at iR
 have A9:=fun hl=>qd5.start (L:=L) (s0:=⟨Ws,st,[]⟩) I rfl hl
 obtain⟨n,hn⟩:∃n,n=Ws.length:=⟨_,rfl⟩
 simp only at A9
 rw[<-hn]at av iR A9 ⊢;generalize cZ:(⟨Ws,st,[]⟩:SS)=s0 at *;have mN:s0.st<=900000000:=by rw[<-cZ];exact bW
 generalize (Value.slice ao n cW).ownBlock=o0 at *;clear cZ h bW hn I
 go_enter func109,ntmps109
 go_wp2_with fail
 refine av.mono ?_
 rintro e w0 ⟨Ol,a0,c0,rfl,sF⟩
 have xX:=A9 sF.len;clear av A9
 go_wp2_with fail
 go_loopg [3] (qcm (qa2 L s0).Ws) (fun k sl wr=>∃(s:SS) (a:Option Addr) (c:Nat),qcm s.Ws<=k/\qd5 L s0 s/\qck w br g cap L o0 cnt n wr a c s.Ws s.st sl s.evs)
 case atStart=>exact⟨_,a0,c0,Nat.le_refl _,xX,sF⟩
 case round =>
  clear xX sF;obtain⟨s,a,c,hk,hR,hS⟩:=hrel;obtain⟨Cf,uF⟩:∃k,k=gk:=⟨_,rfl⟩;subst uF;have EW:=hR.inv.wks.wks;have an:=hS.len;have fh:Bw wr (wr.alloc (.cells #[vI 0,vI 0] 209)):=by exact bel2
  have sG:=hS.below fh;have bA:Blk (wr.alloc (.cells #[vI 0,vI 0] 209)) wr.heap.size 209 #[vI 0,vI 0]:=Blk.new wr 209 _;have yd:w.heap.size<=wr.heap.size:=hS.keep.size;have yc:u3.ownBlock≠some wr.heap.size:=fun e=>by have:=(hS.row.lt _ e).2;omega
  have ya:(Value.slice a s.Ws.length c).ownBlock≠some wr.heap.size:=fun e=>by have:=qal hS.ref.wrow e;omega
  go_wp2_with fail
  refine(qlm sG.ref EW).mono ?_
  rintro e w1 ⟨hl,rfl,au,aa⟩
  obtain⟨ah,ch,rfl,bZ⟩:=qn5 au;have nf:=sG.below aa;have gm:=bA.below aa bA.lt;have cJ:br<w1.heap.size:=nf.ref.qii;have oR:Hid (∀i∈qcn s.Ws,i<n/\headAt s.Ws i=true):=fun i hi=>by rw[<-an];exact qfg hi
  have pM:(qcn s.Ws).length<=24:=Nat.le_trans (qgr _ _) (by omega);have yD:∀gh,ah=some (vA gh 0)->wr.heap.size<gh:=fun gh e=>by
   subst e
   have:=(au.lt gh rfl).1
   simp at this;omega
  obtain⟨hs,uG⟩:∃hs,hs=qcn s.Ws:=⟨_,rfl⟩;have xc:Hid (hs=qcn s.Ws):=uG;rw[<-uG]at bZ oR pM ⊢;clear uG au sG bA fh aa hS;generalize wr.heap.size=b5 at gm yd yc ya yD ⊢;obtain⟨m,hm⟩:∃m,m=hs.length:=⟨_,rfl⟩;rw[<-hm]at bZ pM ⊢;have HM:Hid (m=hs.length):=hm;clear hm;have hT:∀b,b=b5->w.heap.size<=b/\u3.ownBlock≠some b/\(Value.slice a s.Ws.length c).ownBlock≠some b:=fun b e=>by subst e;exact⟨yd,yc,ya⟩
  have FG:Hid (∀W,Keep (fun b=>b=b5) w1 W->qck w br g cap L o0 cnt n W a c s.Ws s.st u3 s.evs):=fun W hW=>nf.other bR ct hW hT
  clear hT
  go_wp2_with fail
  go_loopw [4,7] (fun eC i w2=>∃k:Nat,k<=m/\i=vI k/\eC=vI (optI (qaw L s.Ws (hs.take k)).1)/\Keep (fun b=>b=b5) w1 w2/\Blk w2 b5 209 #[vI (qaw L s.Ws (hs.take k)).2.1,vI (qaw L s.Ws (hs.take k)).2.2]) (fun _ i _=>m-(intOf i).toNat)
  case atStart=>exact⟨0,Nat.zero_le _,rfl,rfl,Keep.refl _ _,gm⟩
  case round =>
   clear gm;obtain⟨k,Ds,rfl,rfl,fT,we⟩:=hrel;have ri:=FG.out _ fT;have yj:br<wr.heap.size:=ri.ref.qii;have de:wr.cell? (vA br 1)=some (.slice a n c):=by have:=ri.ref.ref.at_.cell 1;rw[<-an];simpa using this
   by_cases ak:k<m
   ·obtain⟨i,hi⟩:∃i,hs[k]?=some i:=⟨_,xr1 (by rw[<-HM.out];exact ak)⟩;obtain⟨cH,Df⟩:=oR.out i (xr2 hi);obtain⟨x,hx⟩:∃x,s.Ws[i]?=some x:=⟨_,xr1 (by omega)⟩;obtain⟨gh,AF,iJ,CO,CP,qy⟩:=bZ k i hi;have Jq:=yD gh AF;subst AF;have uq:=(fT.cell (p:=vA gh k) iJ (by show ¬(gh=b5);omega)).trans qy;obtain⟨b,eT,dw,eQ,jq,p0,p1,p2,p3,p4⟩:=ri.ref.wk hx;rw[an]at eQ;subst eT;have nr:(k:Int)<m:=by omega
    have f_:(0:Int)<=k:=by omega
    have mB:(i:Int)<n:=by omega
    have uI:(0:Int)<=i:=by omega
    have mQ:=EW.at_ (xr2 hx);have HX:Hid (s.Ws[i]?=some x):=hx;have HT:Hid (qaw L s.Ws (hs.take (k+1))=qa3 L s.Ws (qaw L s.Ws (hs.take k)) i):=by
     show _=_
     rw[show hs.take (k+1)=hs.take k++[i] from by
      rw[xrf (by rw[<-HM.out];exact ak)];rw[xr1 (by rw[<-HM.out];exact ak)]at hi;cases hi;rfl]
     rw[qks]
    obtain⟨pg,fU⟩:=qse E EW (hs.take k);have An:Hid (∀b0,(qaw L s.Ws (hs.take k)).1=some b0->∃y,s.Ws[b0]?=some y):=fU;clear fU hi Df bZ;have GV:=oR;clear oR hx;generalize qaw L s.Ws (hs.take k)=og at HT pg An we ⊢;obtain⟨pk,l1,l2⟩:=og
    simp only at pg we
    have sR:gh<wr.heap.size:=xrg iJ fT.size;have e1:¬(b=wr.heap.size):=by omega
    have e2:¬(br=wr.heap.size):=by omega
    have e3:¬(gh=wr.heap.size):=by omega
    obtain⟨B,hB⟩:∃B,B=optI pk:=⟨_,rfl⟩
    simp only
    rw[<-hB];have HB:Hid (B=optI pk):=hB;clear hB
    go_upto_region 8 with fail
    go_region
    go_wp2_with fail
    have gV:Bw wr (wr.alloc (.cells #[vI x.num,.string (sb (joinB x.key)),vI x.d0,vI x.d1,vI x.st] 178)).drew:=by exact bel2
    have im:Blk (wr.alloc (.cells #[vI x.num,.string (sb (joinB x.key)),vI x.d0,vI x.d1,vI x.st] 178)).drew wr.heap.size 178 #[vI x.num,.string (sb (joinB x.key)),vI x.d0,vI x.d1,vI x.st]:=(Blk.new wr 178 _).drew;have sG:=ri.below gV;have As:=we.below gV we.lt;have Dn:=fT.qc5 gV;generalize (wr.alloc (.cells #[vI x.num,.string (sb (joinB x.key)),vI x.d0,vI x.d1,vI x.st] 178)).drew=WA at im sG As Dn ⊢
    refine(qoj sG.ref E EB EW x mQ).mono ?_
    rintro e w4 ⟨rfl,a_⟩
    have eN:=sG.below a_;have sm:=As.below a_ As.lt;have lu:=Dn.qc5 a_;have kx:=im.below a_ im.lt;have y0:=kx.cell 0;have y1:=kx.cell 1;have y2:=kx.cell 2;have y3:=kx.cell 3;have y4:=kx.cell 4;simp only[xq0,xq1,xq2]at y0 y1 y2 y3 y4;have bU:Hid (∀(bb p1 p2:Int) (W:World),Keep (fun b=>b=b5) w1 W->Blk W b5 209 #[vI p1,vI p2]->bb=optI (qaw L s.Ws (hs.take (k+1))).1->p1=(qaw L s.Ws (hs.take (k+1))).2.1->p2=(qaw L s.Ws (hs.take (k+1))).2.2->(∃eA:Nat,eA<=m/\vI ((k:Int)+1)=vI eA/\vI bb=vI (optI (qaw L s.Ws (hs.take eA)).1)/\Keep (fun b=>b=b5) w1 W/\Blk W b5 209 #[vI (qaw L s.Ws (hs.take eA)).2.1,vI (qaw L s.Ws (hs.take eA)).2.2])/\m-(intOf (vI ((k:Int)+1))).toNat<m-(intOf (vI (k:Int))).toNat) :=
     fun bb p1 p2 W h1 h2 h3 h4 h5=>⟨⟨k+1,by omega,by go_num,by rw[h3],h1,by rw[<-h4,<- h5];exact h2⟩,by simp[intOf];omega⟩
    clear ri we fT gV sG As Dn im a_ p0 p1 p2 p3 p4 de
    cases uC:qbm L s.Ws x
    ·have oD:Hid (qaw L s.Ws (hs.take (k+1))=(pk,(l1,l2))):=by
      show _=_
      rw[HT.out];unfold qa3;rw[HX.out];simp[uC]
     clear uC HT
     go_wp2_with fail
     exact bU.out _ _ _ _ lu sm (by rw[oD.out,HB.out]) (by rw[oD.out]) (by rw[oD.out])
    ·have oD:Hid (qaw L s.Ws (hs.take (k+1))=if (match pk with|none=>true|some b=>qc2 (qav L s.Ws x) (l1,l2)||(!qc2 (l1,l2) (qav L s.Ws x)&&decide (x.num<qub s.Ws b))) then(some i,qav L s.Ws x) else(pk,(l1,l2))):=by
      show _=_
      rw[HT.out];unfold qa3;rw[HX.out];simp only[uC,if_true]
      rfl
     clear uC HT
     go_wp2_with fail
     refine(qql eN.ref E EW x mQ).mono ?_
     rintro e w5 ⟨rfl,aG⟩
     have lQ:=eN.below aG;have Ar:=sm.below aG sm.lt;have fS:=lu.qc5 aG;have qs:=kx.below aG kx.lt;have ta:=qln E EW mQ;clear eN sm lu kx y0 y1 y2 y3 y4 aG;generalize qav L s.Ws x=Ll at oD ta ⊢;obtain⟨q1,q2⟩:=Ll
     simp only at ta ⊢
     have tL:Bw w5 (w5.alloc (.cells #[vI q1,vI q2] 209)):=by exact bel2
     have bq:Blk (w5.alloc (.cells #[vI q1,vI q2] 209)) w5.heap.size 209 #[vI q1,vI q2]:=Blk.new w5 209 _;have Cz:=lQ.below tL;have wb:=Ar.below tL Ar.lt;have Dp:=fS.qc5 tL;have Ay:=qs.below tL qs.lt;have f5:¬(b5=w5.heap.size):=by have:=Ar.lt;omega
     have pH:=qe9 q1 q2 l1 l2 (by omega) (by omega) (by omega) (by omega);have pI:=qe9 l1 l2 q1 q2 (by omega) (by omega) (by omega) (by omega)
     go_upto_region 12 with fail
     have CF:¬(w5.heap.size=b5):=fun e=>f5 e.symm
     generalize w5.alloc (.cells #[vI q1,vI q2] 209)=WB at bq Cz wb Dp Ay ⊢;clear lQ Ar fS qs tL f5;generalize w5.heap.size=Me at bq CF ⊢;have z0:=wb.cell 0;have z1:=wb.cell 1;have z2:=bq.cell 0;have z3:=bq.cell 1;simp only[xq0,xq1,xq2]at z0 z1 z2 z3
     go_wp2_with fail
     refine(pH _).mono ?_
     rintro e w6 ⟨rfl,gW⟩
     have wu:=Cz.below gW;have xm:=wb.below gW wb.lt;have rL:=Dp.qc5 gW;have xt:=Ay.below gW Ay.lt;have qR:=bq.below gW bq.lt;clear Cz wb Dp Ay bq gW z0 z1 z2 z3;have z0:=xm.cell 0;have z1:=xm.cell 1;have z2:=qR.cell 0;have z3:=qR.cell 1;simp only[xq0,xq1,xq2]at z0 z1 z2 z3
     go_wp2_with fail
     refine(pI _).mono ?_
     rintro e w7 ⟨rfl,qx⟩
     have rh:=wu.below qx;have tF:=xm.below qx xm.lt;have AM:=rL.qc5 qx;have xu:=xt.below qx xt.lt;have BR:=qR.below qx qR.lt;clear wu xm rL xt qR qx z0 z1 z2 z3 pH pI;have z0:=tF.cell 0;have z1:=tF.cell 1;have z2:=BR.cell 0;have z3:=BR.cell 1;have z4:=xu.cell 0;have r0:=tF.frozen 0;have r1:=tF.frozen 1;simp only[xq0,xq1,xq2]at z0 z1 z2 z3 z4;have I_:=(AM.cell (p:=vA gh k) iJ (by show ¬(gh=b5);omega)).trans qy;have MH:w7.cell? (vA br 1)=some (vS b n c):=by have:=rh.ref.ref.at_.cell 1;rw[<-an];simpa using this
     have kM:Hid (∀(bb:Int) (nq:Nat),bb=i->qaw L s.Ws (hs.take (k+1))=(some i,(q1,q2))->(∃eA:Nat,eA<=m/\vI ((k:Int)+1)=vI eA/\vI bb=vI (optI (qaw L s.Ws (hs.take eA)).1)/\Keep (fun b=>b=b5) w1 (((w7.drewN nq).setCell (vA b5 0) (vI q1)).setCell (vA b5 1) (vI q2))/\Blk (((w7.drewN nq).setCell (vA b5 0) (vI q1)).setCell (vA b5 1) (vI q2)) b5 209 #[vI (qaw L s.Ws (hs.take eA)).2.1,vI (qaw L s.Ws (hs.take eA)).2.2])/\m-(intOf (vI ((k:Int)+1))).toNat<m-(intOf (vI (k:Int))).toNat):=by
      show ∀(bb:Int) (nq:Nat),bb=i->qaw L s.Ws (hs.take (k+1))=(some i,(q1,q2))->_
      intro bb nq e1 e2
      refine bU.out bb q1 q2 _ ?_ ?_ (by rw[e2,e1];rfl) (by rw[e2]) (by rw[e2])
      ·exact((AM.qc5 (xrm (Below.refl _ _) nq)).setCell (p:=vA b5 0) rfl _).setCell (p:=vA b5 1) rfl _
      ·have:=((tF.drewN nq).set 0 (vI q1)).set 1 (vI q2)
       simpa using this
     have iv:Hid (∀(nq:Nat),qaw L s.Ws (hs.take (k+1))=(pk,(l1,l2))->(∃eA:Nat,eA<=m/\vI ((k:Int)+1)=vI eA/\vI B=vI (optI (qaw L s.Ws (hs.take eA)).1)/\Keep (fun b=>b=b5) w1 (w7.drewN nq)/\Blk (w7.drewN nq) b5 209 #[vI (qaw L s.Ws (hs.take eA)).2.1,vI (qaw L s.Ws (hs.take eA)).2.2])/\m-(intOf (vI ((k:Int)+1))).toNat<m-(intOf (vI (k:Int))).toNat):=fun nq e2=>bU.out B l1 l2 _ (AM.qc5 (xrm (Below.refl _ _) nq)) (tF.drewN nq) (by rw[e2,HB.out]) (by rw[e2]) (by rw[e2])
     have vJ:Hid (∀(j:Nat) y,s.Ws[j]?=some y->j<n/\w7.cell? (vA b (j*5))=some (vI y.num)):=by
      show ∀(j:Nat) y,s.Ws[j]?=some y->j<n/\w7.cell? (vA b (j*5))=some (vI y.num)
      intro j y hy;obtain⟨b',dB,_,_,_,t0,_⟩:=rh.ref.wk hy;injection dB with dB;injection dB with dB;subst dB
      exact⟨by rw[<-an];exact(xr0.1 hy).1,t0⟩
     clear bU rh tF AM xu BR qy uq;have HL:Hid (qc2 (q1,q2) (l1,l2)=decide (q1*l2<l1*q2)/\qc2 (l1,l2) (q1,q2)=decide (l1*q2<q1*l2)):=⟨rfl,rfl⟩;generalize decide (q1*l2<l1*q2)=t1 at HL ⊢;generalize decide (l1*q2<q1*l2)=t2 at HL ⊢
     cases eF:pk with
     |none =>
      have aj:B = -1:=by rw[HB.out,eF];rfl
      have kr:Hid (qaw L s.Ws (hs.take (k+1))=(some i,(q1,q2))):=by
       show _=_
       rw[oD.out,eF];rfl
      subst aj;clear oD HB eF An HL vJ iv
      go_wp2_with fail
      go_quiet (fail)
      go_wp2_with fail
      exact kM.out _ _ rfl kr.out
     |some b0 =>
      have aj:B=(b0:Int):=by rw[HB.out,eF];rfl
      obtain⟨y,hy⟩:=An.out b0 eF;obtain⟨pc,t0⟩:=vJ.out b0 y hy;have kr:Hid (qaw L s.Ws (hs.take (k+1))=if (t1||(!t2&&decide (x.num<y.num))) then(some i,(q1,q2)) else(pk,(l1,l2))):=by
       show _=_
       rw[oD.out,eF];simp only[HL.out.1,HL.out.2,qnu hy]
      subst aj;clear oD HB eF An HL vJ hy;have rn:(b0:Int)<n:=by omega
      have pj:(0:Int)<=b0:=by omega
      have rp:decide ((b0:Int)<0)=false:=decide_eq_false (by omega)
      cases t1
      ·cases t2
       ·by_cases hxy:x.num<y.num
        ·have tC:Hid (qaw L s.Ws (hs.take (k+1))=(some i,(q1,q2))):=by
          show _=_
          rw[kr.out];simp[hxy]
         have Ei:decide (x.num<y.num)=true:=decide_eq_true hxy;clear kr iv hxy
         go_wp2_with fail
         go_quiet (fail)
         go_wp2_with fail
         exact kM.out _ _ rfl tC.out
        ·have tC:Hid (qaw L s.Ws (hs.take (k+1))=(pk,(l1,l2))):=by
          show _=_
          rw[kr.out];simp[hxy]
         have Ei:decide (x.num<y.num)=false:=decide_eq_false hxy;clear kr kM hxy
         go_wp2_with fail
         go_quiet (fail)
         go_wp2_with fail
         exact iv.out _ tC.out
       ·have tC:Hid (qaw L s.Ws (hs.take (k+1))=(pk,(l1,l2))):=by
         show _=_
         rw[kr.out];simp
        clear kr kM
        go_wp2_with fail
        go_quiet (fail)
        go_wp2_with fail
        exact iv.out _ tC.out
      ·have tC:Hid (qaw L s.Ws (hs.take (k+1))=(some i,(q1,q2))):=by
        show _=_
        rw[kr.out];simp
       clear kr iv
       go_wp2_with fail
       go_quiet (fail)
       go_wp2_with fail
       exact kM.out _ _ rfl tC.out
   ·have xg:Hid ((qaw L s.Ws (hs.take k)).1=qd1 L s.Ws):=by
     show _=_
     rw[xrd (by rw[<-HM.out];omega),xc.out];rfl
    rw[xg.out];have Dt:k=m:=by omega
    clear bZ oR FG nf xg xc HM we fT de
    cases nZ:qd1 L s.Ws with
    |none =>
     have fZ:=hR.done (show qas L s=none from by unfold qas;rw[nZ]);have HD:Hid (s=qaj L s0):=fZ;clear fZ nZ;have aj:optI none=(-1:Int):=rfl;rw[aj]
     go_wp2_with fail
     go_ret
     rw[<-HD.out]
     exact⟨_,_,_,rfl,ri⟩
    |some b0 =>
     obtain⟨x,hx,Bb,rX⟩:=qc7 nZ;have lI:qas L s=some (qds b0 x s):=by unfold qas;rw[nZ];simp only;rw[hx]
     have pc:b0<n:=by rw[<-an];exact(xr0.1 hx).1
     have rp:¬((b0:Int)<0):=by omega
     have aj:optI (some b0)=(b0:Int):=rfl;rw[aj];have vr:0<=s.st/\s.st<=1000000000:=⟨hR.inv.st0,by have:=hR.st;omega⟩;have Jg:=hR.ev;have dY:=qld ri.ref EW hx vr;have cu:∀W:World,W.ownsRow 0 60 2 u3 s.evs.length (qai s.evs)->∃v' w',(∀ty,(Builtin.append_ #[48,48] ty #[u3,vS (W.heap.size+1) 1 1]).run prog ((W.alloc (.cells #[vI 1,vI x.num] 60)).alloc (.cells #[vI 1,vI x.num] 60))=.ok v' w')/\∃g cap,v'=vS g (s.evs.length+1) cap/\AppR ((W.alloc (.cells #[vI 1,vI x.num] 60)).alloc (.cells #[vI 1,vI x.num] 60)) u3.ownBlock 60 2 (s.evs.length+1) (qai s.evs++qai [(1,x.num)]) g cap w' :=
      fun W au=>qby un48 qm7 (by omega) _ u3 s.evs.length (qai s.evs) ((au.alloc _).alloc _) (W.heap.size+1) 1 1 (by omega) (qai [(1,x.num)]) rfl (Blk.new' (by simp)) (qq4 _ _) (by unfold maxLen;omega) (by omega)
     have hN:=hR.next lI;have EG:Hid (qd5 L s0 (qds b0 x s)/\qcm (qds b0 x s).Ws<qcm s.Ws):=hN;clear nZ Bb rX lI hN hR
     go_wp2_with fail
     refine dY.mono ?_
     rintro e w7 ⟨rfl,hA⟩
     have rh:=ri.admit bR (by rw[List.length_set]) hA;have ue:=cu w7 rh.row;have Cy:=rh.below (((Below.refl _ _).alloc (Nat.le_refl _) _).alloc (by simp) _:Bw w7 ((w7.alloc (.cells #[vI 1,vI x.num] 60)).alloc (.cells #[vI 1,vI x.num] 60)));clear cu dY hA rh ri
     go_wp2_with (at_builtin;refine qah (by rfl) _ _ _ _ rfl _ _ rfl (by rfl) ue ?_;rintro v1 w8 ⟨g8,q8,rfl,R8⟩)
     have IF:=Cy.tell bR ct R8
     go_roundg (qcm (qds b0 x s).Ws)
     case measure=>have:=EG.out.2;omega
     case rel=>exact⟨qds b0 x s,_,_,Nat.le_refl _,EG.out.1,IF⟩
structure qdw (w:World) (br g:Nat) (o0:Option Nat) (L:List Ent) (cnt:Int) (s:SS) (sl:Value) (w':World):Prop where
 ex:∃g' cap ao cW,GRef w' br g' cap L ao cW s.Ws cnt s.st/\(g'=g\/w.heap.size<=g')/\(∀b,(Value.slice ao s.Ws.length cW).ownBlock=some b->(b<w.heap.size->o0=some b)/\sl.ownBlock≠some b)
 keep:Keep (fun b=>b=br\/b=g\/o0=some b) w w'
 row:w'.ownsRow 0 60 2 sl s.evs.length (qai s.evs)
 new:∀b,sl.ownBlock=some b->w.heap.size<=b
theorem qdw.qn3{g:Nat}{n:Nat}{a:Option Addr}(hk:Keep (fun b=>b=br\/b=g\/o0=some b) w w3)(hS:qck w3 br g3 cap L o3 cnt n W a c s.Ws s.st sl s.evs)(ho:∀b,o3=some b->b<w.heap.size->o0=some b)(hg:g3=g\/w.heap.size<=g3):qdw w br g o0 L cnt s sl W:=by
 have hz:=hk.size
 refine⟨⟨g3,cap,a,c,hS.ref,hg,fun b hb=>⟨fun ak=>ho b (hS.old b hb (by omega)) ak,fun e=>hS.sep b e hb⟩⟩,hk.step hS.keep (fun b hb e=>?_),hS.row,fun b hb=>Nat.le_trans hz (hS.new b hb)⟩
 rcases e with e|e
 ·exact .inl e
 ·exact .inr (.inr (ho b e hb))
theorem Wks.sub(h:Wks Ws)(hs:Ws'.Sublist Ws):Wks Ws' :=
 ⟨fun x hx=>h.ok x (hs.subset hx),fun x hx=>h.num x (hs.subset hx),Nat.le_trans hs.length_le h.len⟩
theorem WkS.sub(h:WkS Ws st)(hs:Ws'.Sublist Ws):WkS Ws' st :=
 ⟨h.wks.sub hs,h.nums.sublist (hs.map _),fun x hx=>h.st x (hs.subset hx),h.sts.sublist ((hs.filter _).map _)⟩
theorem Anti.sub(h:Anti Ws)(hs:Ws'.Sublist Ws):Anti Ws':=fun x hx y hy e=>h x (hs.subset hx) y (hs.subset hy) e
theorem qej(Ws:List Wk)(i:Nat):(Ws.take i++Ws.drop (i+1)).Sublist Ws:=by
 conv=>rhs;rw[<-List.take_append_drop i Ws]
 exact List.Sublist.append (List.Sublist.refl _) (List.drop_sublist_drop_left Ws (Nat.le_succ i))
def FinG (br g:Nat)(o0:Option Nat)(L:List Ent)(Ws:List Wk)(cnt st m:Int)(w:World)(e:Ending)(w':World):Prop :=
 ((∀x∈Ws,x.num≠m)/\e=.returned (.tuple #[v0_,vI 12])/\w'=w) \/
 (∃(i:Nat) (x:Wk) (sl:Value),Ws[i]?=some x/\x.num=m/\e=.returned (.tuple #[sl,vI 0])/\qdw w br g o0 L cnt (qaj L ⟨Ws.take i++Ws.drop (i+1),st,[]⟩) sl w')
theorem qox{g:Nat}(h:GRef w br g cap L ao cW Ws cnt st)(E:Ents L)(EB:Bors L)(I:SInv ⟨Ws,st,[]⟩)(bW:st<=900000000)(m:Int):
  Cl 71 #[vP br,vI m] w (FinG br g (Value.slice ao Ws.length cW).ownBlock L Ws cnt st m w):=by
 have cR:=qh6 h I.wks.wks m;have bR:=h.qii;have ct:g<w.heap.size:=(h.ref.row.lt g rfl).2;have iR:=I.wks.wks.len
 simp only at iR
 go_enter func71,ntmps71
 go_wp2_with fail
 refine cR.mono ?_
 rintro e w1 ⟨fN,bX⟩
 subst bX;clear cR
 rcases fN with ⟨i,x,rfl,hi,hx⟩|⟨a7,rfl⟩
 ·obtain⟨b,eT,dw,eQ,jq,p0,p1,p2,p3,p4⟩:=h.wk hi;have ey:=(xr0.1 hi).1;have aW:=h.ne1 b (by rw[eT];rfl);have bh:=h.ref.at_;have c1:=bh.cell 1;have f1:=bh.frozen 1;simp only[xq0,xq1,xq2]at c1;obtain⟨n,hn⟩:∃n,n=Ws.length:=⟨_,rfl⟩;have bG:=h.wrow;rw[<-hn]at c1 ey eQ iR bG;have mB:(i:Int)<n:=by omega
  have p8:(0:Int)<=i:=by omega
  have oq:¬((i:Int)<0):=by omega
  subst eT;have HN:Hid (n=Ws.length):=hn;have aY:∀(W:World),Bw w1 W->∀j u,(qad Ws)[j]?=some u->W.cell? (vA b j)=some u:=fun W hW j u hu=>by
   have:=bG.cells (g:=b) rfl j u hu
   rw[Addr.add_lit,Nat.zero_add]at this
   exact(hW.cell (p:=vA b j) dw).trans this
  have oF:=qrk un70 qr3 (by omega) w1 none 0 0 (Nat.le_refl _) (Nat.zero_le _) [] (xrk _ _ _ _) (some (vA b 0)) i cW (qad (Ws.take i)) (by rw[qdo,List.length_take];rw[Nat.min_eq_left (by omega)])
   (fun _=>⟨_,rfl,fun j u hu=>by
    rw[Addr.add_lit,Nat.zero_add]
    refine aY w1 (Below.refl _ _) j u ?_
    rw[qod]at hu;rw[List.getElem?_take]at hu
    split at hu
    ·exact hu
    ·cases hu⟩) (qio _) (by unfold maxLen;omega) (by omega)
  simp only[Nat.zero_add,List.nil_append]at oF;have aa:∀a1 q1 w2,AppO w1 v0_.ownBlock 178 5 i (qad (Ws.take i)) a1 q1 w2->Bw w1 w2:=fun a1 q1 w2 R=>⟨R.keep.os,R.keep.tape,R.keep.output,R.keep.size,fun k hk=>R.keep.block k hk (by simp[Value.ownBlock])⟩
  have sj:∀a1 q1 w2,AppO w1 v0_.ownBlock 178 5 i (qad (Ws.take i)) a1 q1 w2->∀(x2:Option Addr) (c2:Nat),(0<n-(i+1)->x2=some (vA b ((i+1)*5))) ->
    ∃v' w',(∀ty,(Builtin.append_ #[165,165] ty #[.slice a1 i q1,.slice x2 (n-(i+1)) c2]).run prog w2=.ok v' w')/\∃a' cap',v'=.slice a' (i+(n-(i+1))) cap'/\AppO w2 (Value.slice a1 i q1).ownBlock 178 5 (i+(n-(i+1))) (qad (Ws.take i)++qad (Ws.drop (i+1))) a' cap' w' :=
   fun a1 q1 w2 R x2 c2 ke=>qrk un70 qr3 (by omega) w2 a1 i q1 R.le R.mx _ R.own x2 (n-(i+1)) c2 (qad (Ws.drop (i+1))) (by rw[qdo,List.length_drop,<- HN.out])
    (fun hm=>⟨_,ke hm,fun j u hu=>by
     rw[qnv,List.getElem?_drop]at hu;rw[Addr.add_lit]
     exact aY w2 (aa _ _ _ R) _ u hu⟩) (qio _) (by unfold maxLen;omega) (by omega)
  have aP:∀a1 q1 w2 a2 q2 w3,AppO w1 v0_.ownBlock 178 5 i (qad (Ws.take i)) a1 q1 w2->AppO w2 (Value.slice a1 i q1).ownBlock 178 5 (i+(n-(i+1))) (qad (Ws.take i)++qad (Ws.drop (i+1))) a2 q2 w3 ->
    GRef (w3.setCell (vA br 1) (.slice a2 (i+(n-(i+1))) q2)) br g cap L a2 q2 (Ws.take i++Ws.drop (i+1)) cnt st/\Keep (fun y=>y=br) w1 (w3.setCell (vA br 1) (.slice a2 (i+(n-(i+1))) q2))/\(∀y,(Value.slice a2 (i+(n-(i+1))) q2).ownBlock=some y->w1.heap.size<=y)/\Bw w1 w3:=fun a1 q1 w2 a2 q2 w3 R1 R2=>by
   have aj:=aa _ _ _ R1;have lC:∀y,(Value.slice a1 i q1).ownBlock=some y->w1.heap.size<=y:=fun y hy=>by
    rcases R1.new y hy with e|e
    ·simp[Value.ownBlock]at e
    ·exact e
   have aw:Bw w1 w3:=aj.trans ⟨R2.keep.os,R2.keep.tape,R2.keep.output,R2.keep.size,fun k hk=>R2.keep.block k (by have:=aj.size;omega) (fun e=>by have:=lC k e;omega)⟩;have dG:∀y,(Value.slice a2 (i+(n-(i+1))) q2).ownBlock=some y->w1.heap.size<=y:=fun y hy=>by
    rcases R2.new y hy with e|e
    ·exact lC y e
    ·have:=aj.size;omega
   have an:(Ws.take i++Ws.drop (i+1)).length=i+(n-(i+1)):=by
    have:=HN.out
    simp;omega
   have hk:Keep (fun y=>y=br) w1 (w3.setCell (vA br 1) (.slice a2 (i+(n-(i+1))) q2)):=(Keep.new (T:=fun y=>y=br) aw).setCell (p:=vA br 1) rfl _
   refine⟨⟨⟨?_,?_⟩,?_,?_⟩,hk,dG,aw⟩
   ·have h1:=(bh.below aw bR).set 1 (.slice a2 (i+(n-(i+1))) q2);rw[an]
    simpa using h1
   ·exact qab h.ref.row hk (fun y hy e=>by simp[Value.ownBlock]at hy;subst hy;exact h.ref.ne e.symm)
   ·rw[an,show qad (Ws.take i++Ws.drop (i+1))=qad (Ws.take i)++qad (Ws.drop (i+1)) by simp[qad]]
    exact xrl R2.own (fun e=>by have:=dG _ e;simp at this;omega) _
   ·intro y hy;rw[an]at hy
    have:=dG y hy
    exact⟨by omega,by omega⟩
  have aF:=qej Ws i;have I2:SInv ⟨Ws.take i++Ws.drop (i+1),st,[]⟩:=⟨I.wks.sub aF,I.st0,I.anti.sub aF⟩;have cX:=fun W a c (hG:GRef W br g cap L a c (Ws.take i++Ws.drop (i+1)) cnt st)=>settle_ref hG E EB I2 bW
  have ly:(Ws.take i++Ws.drop (i+1)).length=i+(n-(i+1)):=by
   have:=HN.out
   simp;omega
  have HG:Hid (∀(W W':World) (a c':_) (sl:Value),Keep (fun y=>y=br) w1 W->(∀y,(Value.slice a (i+(n-(i+1))) c').ownBlock=some y->w1.heap.size<=y)->(∃fy hZ,qck W br g cap L (Value.slice a (Ws.take i++Ws.drop (i+1)).length c').ownBlock cnt (Ws.take i++Ws.drop (i+1)).length W' fy hZ (qaj L ⟨Ws.take i++Ws.drop (i+1),st,[]⟩).Ws (qaj L ⟨Ws.take i++Ws.drop (i+1),st,[]⟩).st sl (qaj L ⟨Ws.take i++Ws.drop (i+1),st,[]⟩).evs)->FinG br g (vS b Ws.length cW).ownBlock L Ws cnt st m w1 (.returned (.tuple #[sl,vI 0])) W'):=by
   intro W W' a c' sl hK bQ ⟨fy,hZ,hS⟩;rw[ly]at hS
   refine .inr ⟨i,x,sl,hi,hx,rfl,qdw.qn3 (hK.mono (fun y e=>.inl e)) hS (fun y hy ak=>?_) (.inl rfl)⟩
   have:=bQ y hy;omega
  have hz:∀w3:World,Bw w1 w3->w3.cell? (vA br 1)=some (vS b n cW)/\w3.frozen? (vA br 1)=false:=fun w3 hB=>⟨(hB.cell (p:=vA br 1) bR).trans c1,(bh.below hB bR).frozen 1⟩
  clear aY bh h I I2 hi hx bG p0 p1 p2 p3 p4 hn aF ly EB E
  go_upto_region 6 with (at_builtin;refine qah (by rfl) _ _ _ _ rfl _ _ rfl (by rfl) oF ?_;rintro v1 w2 ⟨a1,q1,rfl,R1⟩)
  have aj:=aa _ _ _ R1;have c2:=(hz _ aj).1;have iC:=sj _ _ _ R1;have jX:=fun a2 q2 w3=>aP _ _ _ a2 q2 w3 R1
  have gO:=R1.le;have ie:=R1.mx;clear oF sj aa aP
  by_cases cr:i+1=cW
  ·have iD:=iC (some (vA b 0)) 0 (fun h=>by omega);have iQ:n-(i+1)=0:=by omega
   subst cr;rw[iQ]at iD;rw[iQ]at jX;rw[Nat.add_zero]at iD jX;rw[iQ,Nat.add_zero]at HG;clear iC iQ
   go_wp2_with (at_builtin;refine qah (by rfl) _ _ _ _ rfl _ _ rfl (by rfl) iD ?_;rintro v2 w3 ⟨a2,q2,rfl,R2⟩;obtain⟨hG,hK,bQ,aK⟩:=jX _ _ _ R2;have f3:=(hz _ aK).2;have c3:=(hz _ aK).1)
   refine(cX _ _ _ hG).mono ?_
   rintro e w4 ⟨sl,a4,c4,rfl,eN⟩
   have aM:=HG.out _ _ _ _ _ hK bQ ⟨a4,c4,eN⟩
   go_wp2_with fail
   exact xrn (v:=.tuple #[sl,vI 0]) (by simp[results,results71,go_sem]) rfl aM
  ·have sL:¬((i:Int)+1=cW):=by omega
   have iD:=iC (some (vA b ((i+1)*5))) (cW-(i+1)) (fun _=>rfl);clear iC
   go_wp2_with (at_builtin;refine qah (by rfl) _ _ _ _ rfl _ _ rfl (by rfl) iD ?_;rintro v2 w3 ⟨a2,q2,rfl,R2⟩;obtain⟨hG,hK,bQ,aK⟩:=jX _ _ _ R2;have f3:=(hz _ aK).2;have c3:=(hz _ aK).1)
   refine(cX _ _ _ hG).mono ?_
   rintro e w4 ⟨sl,a4,c4,rfl,eN⟩
   have aM:=HG.out _ _ _ _ _ hK bQ ⟨a4,c4,eN⟩
   go_wp2_with fail
   exact xrn (v:=.tuple #[sl,vI 0]) (by simp[results,results71,go_sem]) rfl aM
 ·go_wp2_with fail
  exact xrn (v:=.tuple #[v0_,vI 12]) (by simp[results,results71,go_sem]) rfl (.inl ⟨a7,rfl,rfl⟩)
def errS (L:List Ent)(Ws:List Wk)(s:Bs)(ok:Bool):Int :=
 if qar s=false then 1 else match qcv L (qaa s) with
  |none=>3
  |some e=>if e.leaf=false then 5 else if ok=false then 6 else if 24<=Ws.length then 7 else 0
def qct (cnt:Int)(s:Bs)(a b:Int):Wk:=⟨cnt+1,qaa s,a,b,0⟩
def SubG (br g:Nat)(o0:Option Nat)(L:List Ent)(Ws:List Wk)(cnt st:Int)(s:Bs)(a b:Int)(w:World)(e:Ending)(w':World):Prop :=
 (errS L Ws s (qao a b)≠0/\e=.returned (.tuple #[vI 0,v0_,vI (errS L Ws s (qao a b))])/\Bw w w') \/
 (errS L Ws s (qao a b)=0/\∃sl,e=.returned (.tuple #[vI (cnt+1),sl,vI 0])/\qdw w br g o0 L (cnt+1) (qaj L ⟨Ws++[qct cnt s a b],st,[]⟩) sl w')
theorem ql5{g:Nat}(h:GRef W br g cap L ao cW Ws cnt st)(hl:Ws.length<=24)(x:Wk)(nb:Nat)(cU:Blk W nb 178 #[vI x.num,.string (sb (joinB x.key)),vI x.d0,vI x.d1,vI x.st])(hW:∀b,(Value.slice ao Ws.length cW).ownBlock=some b->b≠nb):
  ∃v' w',(∀ty,(Builtin.append_ #[165,165] ty #[.slice ao Ws.length cW,vS nb 1 1]).run prog W=.ok v' w')/\∃g' cap',v'=vS g' (Ws.length+1) cap'/\Blk w' br 167 #[vS g L.length cap,.slice ao Ws.length cW,vI cnt,vI st] /\
   GRef (w'.setCell (vA br 1) v') br g cap L (some (vA g' 0)) cap' (Ws++[x]) cnt st/\Keep (fun b=>b=br\/(Value.slice ao Ws.length cW).ownBlock=some b) W (w'.setCell (vA br 1) v')/\((Value.slice ao Ws.length cW).ownBlock=some g'\/W.heap.size<=g'):=by
 obtain⟨v',w',hr,g',cap',rfl,R⟩:=qby un70 qr3 (by omega) W _ Ws.length (qad Ws) h.wrow nb 1 1 (by omega) (qad [x]) rfl (by simpa [qad,qbf] using cU) (qio _) (by unfold maxLen;omega) (by omega);have bh:=h.ref.at_;have ct:=(h.ref.row.lt g rfl).2;have zb:¬((Value.slice ao Ws.length cW).ownBlock=some br):=fun e=>(h.ne1 br e).1 rfl
 have wK:¬((Value.slice ao Ws.length cW).ownBlock=some g):=fun e=>(h.ne1 g e).2 rfl
 have aZ:=bh.keep R.keep zb;have sQ:g'≠br:=fun e=>by
  rcases R.new with e2|e2
  ·rw[e]at e2;exact zb e2
  ·have:=bh.lt;omega
 have Da:g'≠g:=fun e=>by
  rcases R.new with e2|e2
  ·rw[e]at e2;exact wK e2
  ·omega
 have an:(Ws++[x]).length=Ws.length+1:=by simp
 refine⟨_,w',hr,g',cap',rfl,aZ,⟨⟨?_,?_⟩,?_,?_⟩,?_,R.new⟩
 ·have h1:=aZ.set 1 (vS g' (Ws.length+1) cap');rw[an]
  simpa using h1
 ·exact xrl (qab h.ref.row R.keep (fun y hy e=>by simp[Value.ownBlock]at hy;subst hy;exact wK e)) (fun e=>by simp[Value.ownBlock]at e;exact h.ref.ne e.symm) _
 ·rw[an,qhz]
  exact xrl R.own (fun e=>by simp[Value.ownBlock]at e;exact sQ e) _
 ·intro y hy;rw[an]at hy
  simp[Value.ownBlock]at hy
  subst hy
  exact⟨sQ,Da⟩
 ·exact(R.keep.mono (fun y e=>.inr e)).setCell (p:=vA br 1) (.inl rfl) _
theorem qpq{g:Nat}(h:GRef w br g cap L ao cW Ws cnt st)(E:Ents L)(EB:Bors L)(aH:∀a∈L,∀b∈L,a.key=b.key->a=b)(I:SInv ⟨Ws,st,[]⟩)(bW:st<=900000000)(mr:0<=cnt/\cnt<=1000000000)(s:ByteArray)(hs:s.size<=2000000)(a b:Int)
  (hI:errS L Ws (bl s) (qao a b)=0->SInv ⟨Ws++[qct cnt (bl s) a b],st,[]⟩) :
  Cl 70 #[vP br,.string s,.agg #[vI a,vI b]] w (SubG br g (Value.slice ao Ws.length cW).ownBlock L Ws cnt st (bl s) a b w):=by
 have bR:=h.qii;have ct:g<w.heap.size:=(h.ref.row.lt g rfl).2;have iR:=I.wks.wks.len
 simp only at iR
 have b0:Blk (w.alloc (.cells #[vI a,vI b] 35)) w.heap.size 35 #[vI a,vI b]:=Blk.new w 35 _;have hf:=fun W=>qcg a b W
 cases hv:qar (bl s)
 ·have hn:=fun W=>qh1 s hs hv W
  have HX:Hid (∀w',Bw w w'->SubG br g (Value.slice ao Ws.length cW).ownBlock L Ws cnt st (bl s) a b w (.returned (.tuple #[vI 0,v0_,vI 1])) w'):=fun w' hb=>by
   have:errS L Ws (bl s) (qao a b)=1:=by unfold errS;rw[hv];rfl
   exact .inl ⟨by rw[this];decide,by rw[this],hb⟩
  go_enter func70,ntmps70
  go_wp2_with (go_at_call 113;refine(hn _).mono ?_;rintro e w1 ⟨rfl,aa⟩)
  have aj:Bw w w1:=qac (by exact bel2) aa
  exact xrn (v:=.tuple #[vI 0,v0_,vI 1]) (by simp[results,results70,go_sem]) rfl (HX.out _ aj)
 ·have hn:=fun W=>qdd s hs hv W
  have gK:qbn (qaa (bl s))=true:=by rw[<-qba];exact hv
  cases hfi:qcv L (qaa (bl s)) with
  |none =>
   have bh:=fun W (hW:Bw w W)=>qgx (h.ref.below hW) E aH s (qaa (bl s)) gK (qa6 (bl s)).symm hfi
   have HX:Hid (∀w',Bw w w'->SubG br g (Value.slice ao Ws.length cW).ownBlock L Ws cnt st (bl s) a b w (.returned (.tuple #[vI 0,v0_,vI 3])) w'):=fun w' hb=>by
    have:errS L Ws (bl s) (qao a b)=3:=by unfold errS;rw[hv,hfi];rfl
    exact .inl ⟨by rw[this];decide,by rw[this],hb⟩
   clear hfi h E aH I hI
   go_enter func70,ntmps70
   go_wp2_with (first
    |(go_at_call 113;refine(hn _).mono ?_;rintro e w1 ⟨⟨fy,cp,rfl,au⟩,aa⟩;have aj:Bw w w1:=qac (by exact bel2) aa)
    |(go_at_call 114;refine(bh _ aj).mono ?_;rintro e w2 ⟨rfl,en⟩;subst en))
   exact xrn (v:=.tuple #[vI 0,v0_,vI 3]) (by simp[results,results70,go_sem]) rfl (HX.out _ aj)
  |some x =>
   have bh:=fun W (hW:Bw w W)=>qib (h.ref.below hW) E aH s (qaa (bl s)) gK (qa6 (bl s)).symm hfi
   have ft:errS L Ws (bl s) (qao a b)=if x.leaf=false then 5 else if qao a b=false then 6 else if 24<=Ws.length then 7 else 0:=by unfold errS;rw[hv,hfi];rfl
   have HX:Hid (∀w' k,Bw w w'->errS L Ws (bl s) (qao a b)=k->k≠0->SubG br g (Value.slice ao Ws.length cW).ownBlock L Ws cnt st (bl s) a b w (.returned (.tuple #[vI 0,v0_,vI k])) w'):=fun w' k hb e e0=>.inl ⟨by rw[e];exact e0,by rw[e],hb⟩
   have cr:=h.ref.qjv;have cP:=E.len;obtain⟨nL,mJ⟩:∃nL,nL=L.length:=⟨_,rfl⟩;have Am:Hid (nL=L.length):=mJ;have dL:w.cell? (vA br 0)=some (vS g nL cap):=by have:=h.ref.at_.cell 0;rw[mJ];simpa using this
   rw[<-mJ]at cr cP;clear mJ;obtain⟨n,ez⟩:∃n,n=Ws.length:=⟨_,rfl⟩;have HN:Hid (n=Ws.length):=ez;have de:w.cell? (vA br 1)=some (.slice ao n cW):=by have:=h.ref.at_.cell 1;rw[ez];simpa using this
   clear ez;have bD:Hid (∀(i:Nat),L[i]?=some x->i<nL/\w.cell? (vA g (i*6+1))=some (.bool x.leaf)):=fun i hi=>⟨by rw[Am.out];exact(xr0.1 hi).1,h.ref.ent hi rfl⟩
   go_enter func70,ntmps70
   go_upto_region 8 with (first
    |(go_at_call 113;refine(hn _).mono ?_;rintro e w1 ⟨⟨fy,cp,rfl,au⟩,aa⟩;have aj:Bw w w1:=qac (by exact bel2) aa;have b1:=b0.below aa (by simp);have z0:=b1.cell 0;have z1:=b1.cell 1;simp only[xq0,xq1,xq2]at z0 z1)
    |(go_at_call 114;refine(bh _ aj).mono ?_;rintro e w2 ⟨⟨i,rfl,hi⟩,en⟩;subst en;obtain⟨cH,fu⟩:=bD.out i hi;have mB:(i:Int)<nL:=(by omega);have uI:(0:Int)<=i:=(by omega);have Ju:¬((i:Int)<0):=(by omega))
    |(go_at_call 115;refine(hf _).mono ?_;rintro e w3 ⟨rfl,ax⟩;have aK:Bw w w3:=qac aj ax;have b3:=b1.below ax b1.lt))
   have jO:=h.below aK;have k0:=(aK.cell (p:=vA br 0) bR).trans dL;have k1:=(aK.cell (p:=vA br 1) bR).trans de;have k2:=jO.ref.at_.cell 2;have kf:=jO.ref.at_.frozen 2;simp only[xq0,xq1,xq2]at k2;have kl:=(aK.cell (p:=vA g (i*6+1)) ct).trans fu;clear bh hn hf hi au z0 z1 fu dL de;have z0:=b3.cell 0;have z1:=b3.cell 1;simp only[xq0,xq1,xq2]at z0 z1
   cases hl:x.leaf
   ·rw[hl]at kl;have oi:errS L Ws (bl s) (qao a b)=5:=by rw[ft,hl];rfl
    have sf:Hid (errS L Ws (bl s) (qao a b)=5):=oi;clear oi ft hI
    go_wp2_with fail
    exact xrn (v:=.tuple #[vI 0,v0_,vI 5]) (by simp[results,results70,go_sem]) rfl (HX.out _ _ aK sf.out (by decide))
   ·rw[hl]at kl
    cases jU:qao a b
    ·have oi:errS L Ws (bl s) (qao a b)=6:=by rw[ft,hl,jU];rfl
     have sf:Hid (errS L Ws (bl s) (qao a b)=6):=oi;clear oi ft hI
     go_wp2_with fail
     exact xrn (v:=.tuple #[vI 0,v0_,vI 6]) (by simp[results,results70,go_sem]) rfl (HX.out _ _ aK sf.out (by decide))
    ·by_cases wh:24<=n
     ·have oi:errS L Ws (bl s) (qao a b)=7:=by rw[ft,hl,jU,<- HN.out];simp[wh]
      have sf:Hid (errS L Ws (bl s) (qao a b)=7):=oi;clear oi ft hI;have Cg:(24:Int)<=n:=by omega
      go_wp2_with fail
      exact xrn (v:=.tuple #[vI 0,v0_,vI 7]) (by simp[results,results70,go_sem]) rfl (HX.out _ _ aK sf.out (by decide))
     ·have oi:errS L Ws (bl s) (qao a b)=0:=by rw[ft,hl,jU,<- HN.out];simp[wh]
      have EE:=hI oi;have sf:Hid (errS L Ws (bl s) (qao a b)=0):=oi;clear oi ft hI;have Cg:¬((24:Int)<=n):=by omega
      have qv:GRef (w3.setCell (vA br 2) (vI (cnt+1))) br g cap L ao cW Ws (cnt+1) st:=by
       refine⟨⟨?_,?_⟩,?_,jO.ne1⟩
       ·have:=jO.ref.at_.set 2 (vI (cnt+1))
        simpa using this
       ·exact xrl jO.ref.row (fun e=>by simp[Value.ownBlock]at e;exact jO.ref.ne e.symm) _
       ·exact xrl jO.wrow (fun e=>(jO.ne1 _ e).1 rfl) _
      have eu:Keep (fun y=>y=br) w (w3.setCell (vA br 2) (vI (cnt+1))):=(Keep.new (T:=fun y=>y=br) aK).setCell (p:=vA br 2) rfl _;have j0:Blk (w3.setCell (vA br 2) (vI (cnt+1))) w.heap.size 35 #[vI a,vI b]:=b3.other _ _ (by simp;omega)
      go_upto_region 16 with fail
      generalize w3.setCell (vA br 2) (vI (cnt+1))=W1 at qv eu j0 ⊢;clear jO k0 k1 k2 kf kl z0 z1 b3 aK ax;have IT:br<W1.heap.size:=qv.qii;have z0:=j0.cell 0;have z1:=j0.cell 1;have c1:W1.cell? (vA br 1)=some (.slice ao n cW):=by have:=qv.ref.at_.cell 1;rw[HN.out];simpa using this
      have lb:=j0.lt;simp only[xq0,xq1,xq2]at z0 z1;have cu:∀W,Bw W1 W->∀nb,Blk W nb 178 #[vI (cnt+1),.string s,vI a,vI b,vI 0]->W1.heap.size<=nb->∃v' w',(∀ty,(Builtin.append_ #[165,165] ty #[.slice ao n cW,vS nb 1 1]).run prog W=.ok v' w')/\∃g' cap',v'=vS g' (n+1) cap'/\Blk w' br 167 #[vS g L.length cap,.slice ao n cW,vI (cnt+1),vI st]/\Hid (GRef (w'.setCell (vA br 1) v') br g cap L (some (vA g' 0)) cap' (Ws++[qct cnt (bl s) a b]) (cnt+1) st/\Keep (fun y=>y=br\/(Value.slice ao Ws.length cW).ownBlock=some y) w (w'.setCell (vA br 1) v')/\((Value.slice ao Ws.length cW).ownBlock=some g'\/w.heap.size<=g')):=fun W hW nb cU kF=>by
       have vo:sb (joinB (qaa (bl s)))=s:=by rw[qa6,qp4]
       obtain⟨v',w',hr,g',cap',e,rl,I4,I8,dH⟩:=ql5 (qv.below hW) iR (qct cnt (bl s) a b) nb (by unfold qct;simp only[vo];exact cU) (fun y hy e=>by have:=qal qv.wrow hy;omega);rw[<-HN.out]at hr e rl
       refine⟨v',w',hr,g',cap',e,rl,I4,((eu.mono (fun y e=>Or.inl e):Keep (fun y=>y=br\/(Value.slice ao Ws.length cW).ownBlock=some y) w W1).qc5 hW).step I8 (fun y _ e=>e),?_⟩
       rcases dH with e|e
       ·exact .inl e
       ·exact .inr (Nat.le_trans (Nat.le_trans eu.size hW.size) e)
      have cX:=fun W g' c' (hG:GRef W br g cap L (some (vA g' 0)) c' (Ws++[qct cnt (bl s) a b]) (cnt+1) st)=>settle_ref hG E EB EE bW
      have bU:Hid (∀(W W':World) (g' c':Nat) (sl:Value),Keep (fun y=>y=br\/(Value.slice ao Ws.length cW).ownBlock=some y) w W->((Value.slice ao Ws.length cW).ownBlock=some g'\/w.heap.size<=g')->(∃fy hZ,qck W br g cap L (vS g' (Ws++[qct cnt (bl s) a b]).length c').ownBlock (cnt+1) (Ws++[qct cnt (bl s) a b]).length W' fy hZ (qaj L ⟨Ws++[qct cnt (bl s) a b],st,[]⟩).Ws (qaj L ⟨Ws++[qct cnt (bl s) a b],st,[]⟩).st sl (qaj L ⟨Ws++[qct cnt (bl s) a b],st,[]⟩).evs)->SubG br g (Value.slice ao Ws.length cW).ownBlock L Ws cnt st (bl s) a b w (.returned (.tuple #[vI (cnt+1),sl,vI 0])) W'):=by
       intro W W' g' c' sl hK bQ ⟨fy,hZ,hS⟩
       refine .inr ⟨sf.out,sl,rfl,qdw.qn3 (hK.mono (fun y e=>?_)) hS (fun y hy ak=>?_) (.inl rfl)⟩
       ·rcases e with e|e
        ·exact .inl e
        ·exact .inr (.inr e)
       ·simp[Value.ownBlock]at hy
        subst hy
        rcases bQ with e|e
        ·exact e
        ·omega
      clear h E EB aH I EE qv sf HX hfi
      go_region_law (refine qau rfl (.tmp 64) (.tmp 69) 165 165 rfl _ _ ?_ ?_ (cu _ ?_ ?_ ?_ ?_) ?_;(focus (simp[Act.eval,Act.put]));(focus ((try simp[Act.eval,Act.put]);(try rfl)));(focus exact bel2);(focus exact blk2);(focus (simp));rintro v' wA ⟨g',cap',rfl,fh,aM⟩;have CM:=fh.cell 1;have Ji:=fh.frozen 1;simp only[xq0,xq1,xq2]at CM)
      all_goals go_wp2_with fail
      all_goals refine(cX _ _ _ aM.out.1).mono ?_
      all_goals rintro e w4 ⟨sl,a4,c4,rfl,eN⟩
      all_goals have cG:=bU.out _ _ _ _ _ aM.out.2.1 aM.out.2.2 ⟨a4,c4,eN⟩
      all_goals clear cX cu bU aM eN
      all_goals go_wp2_with fail
      all_goals exact xrn (v:=.tuple #[vI (cnt+1),sl,vI 0]) (by simp[results,results70,go_sem]) rfl cG
end Go.Proofs.YtphclnolomgjoaaGreatDoor
