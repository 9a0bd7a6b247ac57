import Derived.Test.YtphclnolomgjoaaGreatDoorE03
set_option linter.unusedVariables false
set_option linter.unusedSimpArgs false
set_option maxRecDepth 100000
set_option maxHeartbeats 4000000
namespace Go.Proofs.YtphclnolomgjoaaGreatDoor
open Tryz
open Go.RowKit
variable {W W' w:World}{b b' br c' cW cap cap' g' i j n:Nat}{ao:Option Addr}{Ws Ws':List Wk}{Mi d st zo:Int}{h x y:Wk}{k:List Bs}{T T':Nat->Prop}{c:Option Nat}{zt:List (Int×Int)}
theorem pP{g:Nat}{L:List zx}(h:zy w br g cap L ao cW Ws zo st)(E:ym L)(Bc:wb L)(Ha:xm Ws)(x:Wk)(sa:WkOK x):
  Calls prog 200 #[vP br,.agg #[vI x.zm,vG (sb (kN x.zb)),vI x.d0,vI x.d1,vI x.st]] w fun e w'=>e=vR (vI (xp (Xh L Ws x)))/\Bw w w':=by
 have La:=h.ref.zl.lt;have hc:=(h.ref.row.lt g rfl).2;have Uc:=E.len;have jd:=Ha.len;have Vc:=h.ref.WQ;obtain⟨n,Ra⟩:∃n,n=Ws.length:=⟨_,rfl⟩;obtain⟨o,Ua⟩:∃o,o=L.length:=⟨_,rfl⟩;have mb:w.cell? (vA br 0)=some (vS g o cap):=by have:=h.ref.zl.cell 0;rw[Ua];simpa using this
 have Wc:w.cell? (vA br 1)=some (.slice ao n cW):=by have:=h.ref.zl.cell 1;rw[Ra];simpa using this
 rw[<-Ra]at jd;rw[<-Ua]at Uc Vc;have Ja:Hid (n=Ws.length):=Ra;have Lb:Hid (o=L.length):=Ua;clear Ra Ua;have Yd:=sa.n0;have Eb:=sa.n1;unfold Xh;rw[<-Ja.out]
 go_enter func200,ntmps200
 go_wp2
 go_loopw [5,6] (fun a j wr=>∃k:Nat,k<=n/\j=vI k/\a=vI (xp (VH L Ws x k))/\Bw w wr/\zg wr w.heap.size 178 #[vI x.zm,vG (sb (kN x.zb)),vI x.d0,vI x.d1,vI x.st]) (fun _ j _=>n-(intOf j).toNat)
 case atStart=>exact⟨0,Nat.zero_le _,rfl,rfl,cl,s6⟩
 case round =>
  obtain⟨k,Ae,rfl,rfl,s,Xb⟩:=hrel;have Hb:=(s.cell (p:=vA br 0) La).trans mb;have vc:=(s.cell (p:=vA br 1) La).trans Wc
  by_cases Rc:k<n
  ·have Pc:k<Ws.length:=by rw[<-Ja.out];exact Rc
   obtain⟨v,Sa⟩:∃v,Ws[k]?=some v:=⟨_,Ur Pc⟩;have Ec:Hid (Ws[k]?=some v):=Sa;have Ib:=Uq Sa;have bb:=Ha.zl Ib;obtain⟨b,nc,me,cd,De,Bd,Cd,Dd,Ed,Gd⟩:=(h.below s).wk Sa;have Xd:b<w.heap.size:=UI h.yc (by rw[nc];rfl);subst nc;rw[<-Ja.out]at cd;have Ka:Hid (VH L Ws x (k+1)=(if tI Ws (VH L Ws x k) v then VH L Ws x k else if way L Ws x v then some k else VH L Ws x k)):=by
    show _=_
    rw[aO];unfold ZP;rw[Ec.out]
   have Ee:(k:Int)<n:=o_;have pe:(0:Int)<=k:=o_;have fc:b<wr.heap.size:=by have:=s.size;omega
   have wc:br<wr.heap.size:=by have:=s.size;omega
   have kd:=Xb.lt;have Xc:¬(b=wr.heap.size):=o_;have Yc:¬(br=wr.heap.size):=o_;have Zc:¬(w.heap.size=wr.heap.size):=o_;clear Sa Ib;obtain⟨B,qb⟩:∃B,B=xp (VH L Ws x k):=⟨_,rfl⟩;rw[<-qb];have M:Hid (B=xp (VH L Ws x k)):=qb;clear qb;have Bb:Hid (∀b0,VH L Ws x k=some b0->b0<n/\wr.cell? (vA b (b0*5+4))=some (vI (stAt Ws b0))):=by
    show ∀b0,VH L Ws x k=some b0->b0<n/\wr.cell? (vA b (b0*5+4))=some (vI (stAt Ws b0))
    intro b0 C;have sc:=(aS L Ws x k b0 C).2;obtain⟨y,D⟩:∃y,Ws[b0]?=some y:=⟨_,Ur sc⟩;obtain⟨b',pa,_,_,_,_,_,_,_,Ld⟩:=(h.below s).wk D;injection pa with pa;injection pa with pa;subst pa
    refine⟨by rw[Ja.out];exact sc,?_⟩
    rw[Ld];unfold stAt;rw[D]
   by_cases hskip:tI Ws (VH L Ws x k) v=true
   ·have ia:Hid (VH L Ws x (k+1)=VH L Ws x k):=by
     show _=_
     rw[Ka.out,if_pos hskip]
    clear Ka;have jb:(v.st == 0)=true\/((v.st == 0)=false/\∃b0,VH L Ws x k=some b0/\v.st<stAt Ws b0):=by
     unfold tI at hskip
     cases Qa:(v.st == 0)
     ·right
      refine⟨rfl,?_⟩
      rw[Qa,Bool.false_or]at hskip
      split at hskip
      ·rename_i b0 C;exact⟨b0,C,by simpa using hskip⟩
      ·cases hskip
     ·left;rfl
    clear hskip
    rcases jb with Qa|⟨Qa,b0,C,oe⟩
    ·go_wp2_with fail
     go_quiet (fail)
     go_wp2_with fail
     exact⟨⟨k+1,o_,by go_num,by rw[ia.out,M.out],cl,s6⟩,by simp[intOf];omega⟩
    ·obtain⟨Md,r4⟩:=Bb.out b0 C;have ha:B=(b0:Int):=by rw[M.out,C];rfl
     subst ha;have Sd:(b0:Int)<n:=o_;have Nd:(0:Int)<=b0:=o_;clear C
     go_wp2_with fail
     go_quiet (fail)
     go_wp2_with fail
     exact⟨⟨k+1,o_,by go_num,by rw[ia.out,M.out],cl,s6⟩,by simp[intOf];omega⟩
   ·have ia:Hid (VH L Ws x (k+1)=(if way L Ws x v then some k else VH L Ws x k)):=by
     show _=_
     rw[Ka.out,if_neg hskip]
    have jb:(v.st == 0)=false/\∀b0,VH L Ws x k=some b0->¬(v.st<stAt Ws b0):=by
     unfold tI at hskip;simp only[Bool.not_eq_true,Bool.or_eq_false_iff]at hskip
     refine⟨hskip.1,fun b0 C Be=>?_⟩
     have H:=hskip.2;rw[C]at H
     simp at H
     omega
    obtain⟨Qa,Jb⟩:=jb;have Kb:Hid (∀b0,VH L Ws x k=some b0->¬(v.st<stAt Ws b0)):=Jb;clear hskip Ka Jb;have Ga:zg (wr.alloc (.cells #[vI v.zm,vG (sb (kN v.zb)),vI v.d0,vI v.d1,vI v.st] 178)) wr.heap.size 178 #[vI v.zm,vG (sb (kN v.zb)),vI v.d0,vI v.d1,vI v.st]:=zg.new wr 178 _;have tc:zg (wr.alloc (.cells #[vI v.zm,vG (sb (kN v.zb)),vI v.d0,vI v.d1,vI v.st] 178)) w.heap.size 178 #[vI x.zm,vG (sb (kN x.zb)),vI x.d0,vI x.d1,vI x.st]:=s6;have Z:Bw wr (wr.alloc (.cells #[vI v.zm,vG (sb (kN v.zb)),vI v.d0,vI v.d1,vI v.st] 178)):=cl
    go_upto_region 6 with fail
    generalize (wr.alloc (.cells #[vI v.zm,vG (sb (kN v.zb)),vI v.d0,vI v.d1,vI v.st] 178))=N at Ga tc Z ⊢;have dd:=Z.size;have od:=Ga.lt;have Ba:=(Z.cell (p:=vA br 1) wc).trans vc;have ea:=Ga.cell 4;simp only[s7]at ea
    go_cut [50] from 31 to 50 (fun q Vd=>q=.bool false/\∃m,Vd=N.drewN m)
    case first =>
     cases hvt:VH L Ws x k with
     |none =>
      have ha:B = -1:=by rw[M.out,hvt];rfl
      subst ha
      go_quiet (fail)
      go_wp2_with fail
      go_meet
      exact⟨rfl,_,rfl⟩
     |some b0 =>
      have ha:B=(b0:Int):=by rw[M.out,hvt];rfl
      subst ha;obtain⟨Md,r4⟩:=Bb.out b0 hvt;have Oc:=(Z.cell (p:=vA b (b0*5+4)) fc).trans r4;have Fc:¬(v.st<stAt Ws b0):=Kb.out b0 hvt;have Sd:(b0:Int)<n:=o_;have Nd:(0:Int)<=b0:=o_;generalize stAt Ws b0=ie at r4 Oc Fc;clear hvt
      go_quiet (fail)
      go_wp2_with fail
      go_meet
      exact⟨rfl,_,rfl⟩
    case rest =>
     obtain⟨rfl,m,rfl⟩:=hcut;have gb:=fun W (ra:Bw w W)=>Zr (h.ref.below ra) E (sb (kN v.zb)) bb.small
     have ib:=fun W (ra:Bw w W)=>Z1 (h.below ra) Ha (sb (kN v.zb)) bb.small
     rw[UO]at gb ib;have Wa:Bw w (N.drewN m):=UT (s.trans (Z.mono s.size)) _;have ga:zg (N.drewN m) wr.heap.size 178 #[vI v.zm,vG (sb (kN v.zb)),vI v.d0,vI v.d1,vI v.st]:=s6;have Ta:zg (N.drewN m) w.heap.size 178 #[vI x.zm,vG (sb (kN x.zb)),vI x.d0,vI x.d1,vI x.st]:=s6;have Tb:N.heap.size=(N.drewN m).heap.size:=s_;generalize N.drewN m=je at Wa ga Ta Tb ⊢;have Nb:=ga.cell 1;simp only[s7]at Nb;clear Ga tc Ba ea Hb vc Bd Cd Dd Ed Gd
     go_wp2_with fail
     refine(gb _ Wa).mono ?_
     rintro e G ⟨rfl,oa⟩
     have Qc:Bw w G:=Wa.trans (oa.mono o_);have db:zg G wr.heap.size 178 #[vI v.zm,vG (sb (kN v.zb)),vI v.d0,vI v.d1,vI v.st]:=ga.below oa ga.lt;have Eb:zg G w.heap.size 178 #[vI x.zm,vG (sb (kN x.zb)),vI x.d0,vI x.d1,vI x.st]:=Ta.below oa Ta.lt;have Tc:=oa.size;clear oa gb ga Ta Nb;have Ub:=db.cell 1;have Mc:=db.lt;have Nc:=Eb.lt;simp only[s7]at Ub;have ne1:¬(wr.heap.size=G.heap.size):=o_
     go_wp2_with fail
     refine(ib _ cl).mono ?_
     rintro e f ⟨rfl,aa⟩
     have Sc:Bw w f:=s5 cl aa;have Sb:zg f wr.heap.size 178 #[vI v.zm,vG (sb (kN v.zb)),vI v.d0,vI v.d1,vI v.st]:=zg.below s6 aa f_;have jc:zg f w.heap.size 178 #[vI x.zm,vG (sb (kN x.zb)),vI x.d0,vI x.d1,vI x.st]:=zg.below s6 aa f_;have Rb:zg f G.heap.size 35 #[vI (xj (Uz L (kN v.zb))),vI (xi (Uz L (kN v.zb)))]:=zg.below (zg.new' rfl) aa f_;have ic:=aa.size;clear ib db Eb Ub;have Kc:=Sb.lt;have Lc:=jc.lt;have Jc:=Rb.lt
     go_wp2_with fail
     have U:zg (f.alloc (.cells #[vI (yf (Ut Ws (kN v.zb))),vI (yg (Ut Ws (kN v.zb)))] 35)) w.heap.size 178 #[vI x.zm,vG (sb (kN x.zb)),vI x.d0,vI x.d1,vI x.st]:=s6;have O:zg (f.alloc (.cells #[vI (yf (Ut Ws (kN v.zb))),vI (yg (Ut Ws (kN v.zb)))] 35)) wr.heap.size 178 #[vI v.zm,vG (sb (kN v.zb)),vI v.d0,vI v.d1,vI v.st]:=s6;have R:zg (f.alloc (.cells #[vI (yf (Ut Ws (kN v.zb))),vI (yg (Ut Ws (kN v.zb)))] 35)) G.heap.size 35 #[vI (xj (Uz L (kN v.zb))),vI (xi (Uz L (kN v.zb)))]:=s6;have Q:zg (f.alloc (.cells #[vI (yf (Ut Ws (kN v.zb))),vI (yg (Ut Ws (kN v.zb)))] 35)) f.heap.size 35 #[vI (yf (Ut Ws (kN v.zb))),vI (yg (Ut Ws (kN v.zb)))]:=s6;have na:Bw w (f.alloc (.cells #[vI (yf (Ut Ws (kN v.zb))),vI (yg (Ut Ws (kN v.zb)))] 35)):=cl;generalize (f.alloc (.cells #[vI (yf (Ut Ws (kN v.zb))),vI (yg (Ut Ws (kN v.zb)))] 35))=l at U O R Q na ⊢;have ee:wr.heap.size<=G.heap.size/\G.heap.size<=f.heap.size:=by
      refine⟨o_,?_⟩
      simp at ic;omega
     have Wd:=s.size;have de:¬(w.heap.size=wr.heap.size):=o_;clear aa ic Sc Qc Sb jc Rb Wa Tb Tc dd Kc Lc Jc Mc Nc ne1 od Xb;have Gc:Hid (∀e,wu L Ws x v e=(xc (kN x.zb) (kN e.zb)&&(xc (kN v.zb) (kN e.zb)&&(sh0 L Ws e x.d0&&(decide (yf (Ut Ws (kN v.zb))>xj (Uz L (kN v.zb)))&&decide (v.d0>0)))))):=fun e=>rfl
     have Cc:Hid (∀e,wo L Ws x v e=(xc (kN x.zb) (kN e.zb)&&(xc (kN v.zb) (kN e.zb)&&(sh1 L Ws e x.d1&&(decide (yg (Ut Ws (kN v.zb))>xi (Uz L (kN v.zb)))&&decide (v.d1>0)))))):=fun e=>rfl
     generalize xj (Uz L (kN v.zb))=ja at *;generalize xi (Uz L (kN v.zb))=ka at *;generalize yf (Ut Ws (kN v.zb))=la at *;generalize yg (Ut Ws (kN v.zb))=ma at *;have Dc:Hid (∀(a:Int) (w':World),Bw w w'->zg w' w.heap.size 178 #[vI x.zm,vG (sb (kN x.zb)),vI x.d0,vI x.d1,vI x.st]->a=(if way L Ws x v then(k:Int) else B)->(∃nb:Nat,nb<=n/\vI ((k:Int)+1)=vI nb/\vI a=vI (xp (VH L Ws x nb))/\Bw w w'/\zg w' w.heap.size 178 #[vI x.zm,vG (sb (kN x.zb)),vI x.d0,vI x.d1,vI x.st])/\n-(intOf (vI ((k:Int)+1))).toNat<n-(intOf (vI (k:Int))).toNat):=by
      show ∀(a:Int) (w':World),_
      intro a w' Jd q2 Kd
      refine⟨⟨k+1,o_,by go_num,?_,Jd,q2⟩,by simp[intOf];omega⟩
      rw[Kd,ia.out,M.out]
      split<;>rfl
     clear ia M Kb Bb;generalize wr.heap.size=te at *;generalize G.heap.size=qe at *;generalize f.heap.size=se at *;clear s Z fc wc kd Xc Yc Zc
     go_loopw [5,10] (fun a i w'=>∃q:Nat,q<=o/\i=vI q/\a=vI (if (L.take q).any (fun e=>wu L Ws x v e||wo L Ws x v e) then(k:Int) else B)/\Bw l w') (fun _ i _=>o-(intOf i).toNat)
     case atStart=>exact⟨0,Nat.zero_le _,rfl,s_,Below.refl _ _⟩
     case round =>
      obtain⟨q,hq,rfl,rfl,P⟩:=hrel;have Ma:=na.trans (P.mono na.size);have ba:=U.below P U.lt;have ob:=O.below P O.lt;have kc:=R.below P R.lt;have mc:=Q.below P Q.lt;have Hb:=(Ma.cell (p:=vA br 0) La).trans mb
      by_cases Ad:q<o
      ·have cb:q<L.length:=by rw[<-Lb.out];exact Ad
       obtain⟨y,D⟩:∃y,L[q]?=some y:=⟨_,Ur cb⟩;have Na:=Uq D;have Mb:Hid ((L.take (q+1)).any (fun e=>wu L Ws x v e||wo L Ws x v e)=((L.take q).any (fun e=>wu L Ws x v e||wo L Ws x v e)||(wu L Ws x v y||wo L Ws x v y))):=by
        show _=_
        rw[VT cb,List.any_append];rw[Ur cb]at D;cases D
        simp
       have Ia:=(h.ref.below Ma).zq D (j:=0) (v:=vG (sb (kN y.zb))) rfl;simp only[Nat.add_zero]at Ia;have ua:=fun W=>X3 (sb (kN x.zb)) (sb (kN y.zb)) W sa.small (E.small Na)
       have ta:=fun W=>X3 (sb (kN v.zb)) (sb (kN y.zb)) W bb.small (E.small Na)
       rw[UO,UO]at ua ta;have Pa:=fun W (ra:Bw w W)=>dq (h.below ra) E Ha D (Bc y Na) x.d0 x.d1 sa.n0 sa.n1
       have A:Hid (wu L Ws x v y=(xc (kN x.zb) (kN y.zb)&&(xc (kN v.zb) (kN y.zb)&&(sh0 L Ws y x.d0&&(decide (la>ja)&&decide (v.d0>0)))))):=Gc.out y;have z:Hid (wo L Ws x v y=(xc (kN x.zb) (kN y.zb)&&(xc (kN v.zb) (kN y.zb)&&(sh1 L Ws y x.d1&&(decide (ma>ka)&&decide (v.d1>0)))))):=Cc.out y;have Y:Hid (∀(a:Int) (w':World),Bw l w'->a=(if wo L Ws x v y then(k:Int) else if wu L Ws x v y then(k:Int) else(if (L.take q).any (fun e=>wu L Ws x v e||wo L Ws x v e) then(k:Int) else B))->(∃eb:Nat,eb<=o/\vI ((q:Int)+1)=vI eb/\vI a=vI (if (L.take eb).any (fun e=>wu L Ws x v e||wo L Ws x v e) then(k:Int) else B)/\Bw l w')/\o-(intOf (vI ((q:Int)+1))).toNat<o-(intOf (vI (q:Int))).toNat):=by
        show ∀(a:Int) (w':World),_
        intro a w' qa H
        refine⟨⟨q+1,o_,by go_num,?_,qa⟩,by simp[intOf];omega⟩
        rw[H,Mb.out]
        cases wo L Ws x v y<;>cases wu L Ws x v y<;>cases (L.take q).any (fun e=>wu L Ws x v e||wo L Ws x v e)<;>rfl
       clear D Na Mb;generalize (if (L.take q).any (fun e=>wu L Ws x v e||wo L Ws x v e) then(k:Int) else B)=K at Y ⊢;generalize wu L Ws x v y=t at A Y;generalize wo L Ws x v y=F at z Y;generalize sh0 L Ws y x.d0=s0 at Pa A;generalize sh1 L Ws y x.d1=Aa at Pa z;generalize xc (kN x.zb) (kN y.zb)=Wb at ua A z;generalize xc (kN v.zb) (kN y.zb)=Yb at ta A z;generalize sb (kN y.zb)=Hd at Ia ua ta;have Ca:=ba.cell 1;have Da:=ba.cell 2;have Ea:=ba.cell 3;have Fa:=ob.cell 1;have rb:=ba.lt;have vb:=ob.lt;have yb:=kc.lt;have Ab:=mc.lt;simp only[s7]at Ca Da Ea Fa;have fe:(q:Int)<o:=o_;have ae:(0:Int)<=q:=o_
       go_wp2_with fail
       go_quiet ((go_at_call 121;exact Calls.quiet_of_same (ua _)))
       have I:Bw l (wr.drewN nq):=UT P _;generalize wr.drewN nq=Ud at I ⊢;have Oa:=na.trans (I.mono na.size);have g3:=U.below I U.lt;have pb:=O.below I O.lt;have oc:=R.below I R.lt;have qc:=Q.below I Q.lt;have Hc:=(Oa.cell (p:=vA br 0) La).trans mb;have Ic:Ud.cell? (vA g (q*6))=some (vG Hd):=(Oa.cell (p:=vA g (q*6)) hc).trans ((Ma.cell (p:=vA g (q*6)) hc).symm.trans Ia);clear ba ob kc mc Hb Ia Ca Da Ea Fa rb vb yb Ab P;have Ca:=g3.cell 1;have Da:=g3.cell 2;have Ea:=g3.cell 3;have Fa:=pb.cell 1;have rb:=g3.lt;have vb:=pb.lt;have yb:=oc.lt;have Ab:=qc.lt;simp only[s7]at Ca Da Ea Fa
       go_wp2_with fail
       go_quiet ((go_at_call 121;exact Calls.quiet_of_same (ta _)))
       go_wp2_with fail
       refine(Pa _ (UT Oa _)).mono ?_
       rintro e V ⟨rfl,Vb⟩
       have ed:Bw l V:=s5 (UT I _) Vb;have Zd:=ed.size;clear Vb Pa ua ta g3 pb oc qc Hc Ic Ca Da Ea Fa rb vb yb Ab Oa I
       go_wp2_with fail
       have kb:zg (V.alloc (.cells #[.bool s0,.bool Aa] 242)) V.heap.size 242 #[.bool s0,.bool Aa]:=zg.new V 242 _;have S:Bw l (V.alloc (.cells #[.bool s0,.bool Aa] 242)):=cl;generalize (V.alloc (.cells #[.bool s0,.bool Aa] 242))=u at kb S ⊢;have ke:=U.below S U.lt;have Zb:=O.below S O.lt;have cc:=R.below S R.lt;have ec:=Q.below S Q.lt;obtain⟨c,Va⟩:∃c:Nat->Int,c=fun r=>if r=0 then K else if r=1 then(if t then(k:Int) else K) else(if F then(k:Int) else if t then(k:Int) else K):=⟨_,rfl⟩
       have Ob:c 0=K:=by rw[Va];rfl
       have Pb:c 1=(if t then(k:Int) else K):=by rw[Va];rfl
       have Qb:c 2=(if F then(k:Int) else if t then(k:Int) else K):=by rw[Va];rfl
       clear Va;generalize V.heap.size=re at *;rw[show(vI K)=vI (c 0) by rw[Ob]]
       go_loopw [5,14] (fun a j w'=>∃r:Nat,r<=2/\j=vI r/\a=vI (c r)/\Bw u w') (fun _ j _=>2-(intOf j).toNat)
       case atStart=>exact⟨0,o_,rfl,rfl,Below.refl _ _⟩
       case round =>
        obtain⟨r,Ce,rfl,rfl,d⟩:=hrel;have Xa:=kb.below d kb.lt;have Ya:=Zb.below d Zb.lt;have Za:=cc.below d cc.lt;have ab:=ec.below d ec.lt;have ca:Hid (∀(a:Int) (w':World),Bw u w'->a=c 1->(∃J:Nat,J<=2/\vI 1=vI J/\vI a=vI (c J)/\Bw u w')/\2-(intOf (vI 1)).toNat<2-(intOf (vI 0)).toNat):=by
         show ∀(a:Int) (w':World),_
         intro a w' qa H
         exact⟨⟨1,o_,rfl,by rw[H],qa⟩,by simp[intOf]⟩
        have da:Hid (∀(a:Int) (w':World),Bw u w'->a=c 2->(∃J:Nat,J<=2/\vI 2=vI J/\vI a=vI (c J)/\Bw u w')/\2-(intOf (vI 2)).toNat<2-(intOf (vI 1)).toNat):=by
         show ∀(a:Int) (w':World),_
         intro a w' qa H
         exact⟨⟨2,o_,rfl,by rw[H],qa⟩,by simp[intOf]⟩
        have Td:=S.trans (d.mono S.size)
        rcases(show r=0\/r=1\/r=2 by omega) with rfl|rfl|rfl
        ·have Ba:=Xa.cell 0;have Fb:=Za.cell 0;have Gb:=ab.cell 0;have ea:=Ya.cell 2;have pd:=Xa.lt;have qd:=Ya.lt;have sd:=Za.lt;have td:=ab.lt;simp only[s7]at Ba Fb Gb ea;have T:Hid (c 1=(if t then(k:Int) else c 0)):=by
          show _=_
          rw[Pb,Ob]
         generalize c 0=Ac at T ⊢
         cases Wb
         ·go_wp2_with fail
          go_quiet (fail)
          go_wp2_with fail
          exact ca.out _ _ (UT d _) (by rw[T.out,show t=false by rw[A.out];first|rfl|(simp;omega)];rfl)
         ·cases Yb
          ·go_wp2_with fail
           go_quiet (fail)
           go_wp2_with fail
           exact ca.out _ _ (UT d _) (by rw[T.out,show t=false by rw[A.out];first|rfl|(simp;omega)];rfl)
          ·cases s0
           ·go_wp2_with fail
            go_quiet (fail)
            go_wp2_with fail
            exact ca.out _ _ (UT d _) (by rw[T.out,show t=false by rw[A.out];first|rfl|(simp;omega)];rfl)
           ·by_cases Cb:la>ja
            ·by_cases Od:v.d0>0
             ·go_wp2_with fail
              go_quiet (fail)
              go_wp2_with fail
              exact ca.out _ _ (UT d _) (by rw[T.out,show t=true by rw[A.out];first|rfl|(simp;omega)];rfl)
             ·go_wp2_with fail
              go_quiet (fail)
              go_wp2_with fail
              exact ca.out _ _ (UT d _) (by rw[T.out,show t=false by rw[A.out];first|rfl|(simp;omega)];rfl)
            ·have Db:¬(ja<la):=Cb;have Pd:decide (ja<la)=false:=decide_eq_false Db;have Qd:la<=ja:=o_
             go_wp2_with fail
             go_quiet (fail)
             go_wp2_with fail
             exact ca.out _ _ (UT d _) (by rw[T.out,show t=false by rw[A.out];first|rfl|(simp;omega)];rfl)
        ·have Ba:=Xa.cell 1;have Fb:=Za.cell 1;have Gb:=ab.cell 1;have ea:=Ya.cell 3;have pd:=Xa.lt;have qd:=Ya.lt;have sd:=Za.lt;have td:=ab.lt;simp only[s7]at Ba Fb Gb ea;have X:Hid (c 2=(if F then(k:Int) else c 1)):=by
          show _=_
          rw[Qb,Pb]
         generalize c 1=Ac at X ⊢
         cases Wb
         ·go_wp2_with fail
          go_quiet (fail)
          go_wp2_with fail
          exact da.out _ _ (UT d _) (by rw[X.out,show F=false by rw[z.out];first|rfl|(simp;omega)];rfl)
         ·cases Yb
          ·go_wp2_with fail
           go_quiet (fail)
           go_wp2_with fail
           exact da.out _ _ (UT d _) (by rw[X.out,show F=false by rw[z.out];first|rfl|(simp;omega)];rfl)
          ·cases Aa
           ·go_wp2_with fail
            go_quiet (fail)
            go_wp2_with fail
            exact da.out _ _ (UT d _) (by rw[X.out,show F=false by rw[z.out];first|rfl|(simp;omega)];rfl)
           ·by_cases Cb:ma>ka
            ·by_cases Od:v.d1>0
             ·go_wp2_with fail
              go_quiet (fail)
              go_wp2_with fail
              exact da.out _ _ (UT d _) (by rw[X.out,show F=true by rw[z.out];first|rfl|(simp;omega)];rfl)
             ·go_wp2_with fail
              go_quiet (fail)
              go_wp2_with fail
              exact da.out _ _ (UT d _) (by rw[X.out,show F=false by rw[z.out];first|rfl|(simp;omega)];rfl)
            ·have Db:¬(ka<ma):=Cb;have Pd:decide (ka<ma)=false:=decide_eq_false Db;have Qd:ma<=ka:=o_
             go_wp2_with fail
             go_quiet (fail)
             go_wp2_with fail
             exact da.out _ _ (UT d _) (by rw[X.out,show F=false by rw[z.out];first|rfl|(simp;omega)];rfl)
        ·go_wp2_with fail
         exact Y.out _ _ Td Qb
      ·have Fe:q=o:=o_;have Y:Hid ((L.take q).any (fun e=>wu L Ws x v e||wo L Ws x v e)=way L Ws x v):=by
        show _=_
        rw[Vl (h_ Lb.out)];rfl
       go_wp2_with fail
       exact Dc.out _ _ Ma ba (by rw[Y.out])
  ·have gd:k=n:=o_;subst gd
   go_wp2
   go_ret
   exact⟨rfl,s⟩
structure vr (Ws:List Wk) (st:Int):Prop where
 yh:xm Ws
 nums:(Ws.map (·.zm)).Nodup
 st:∀x∈Ws,0<=x.st/\x.st<=st
 sts:((Ws.filter fun x=>decide (0<x.st)).map (·.st)).Nodup
theorem jD(x:Wk)(t:Int):(x.yi t).zb=x.zb:=rfl
theorem xm.set(h:xm Ws)(c:Ws[i]?=some x)(t:Int):xm (Ws.set i (x.yi t)):=by
 have b:=Uq c
 refine⟨fun y a=>?_,fun y a=>?_,by rw[List.length_set];exact h.len⟩
 ·rcases List.mem_or_eq_of_mem_set a with a|rfl
  ·exact h.ok y a
  ·exact h.ok x b
 ·rcases List.mem_or_eq_of_mem_set a with a|rfl
  ·exact h.zm y a
  ·exact h.zm x b
theorem Xy(a:Ws[i]?=some x):Ws.Perm (x::(Ws.take i++Ws.drop (i+1))):=by
 have b:=(Uy.1 a).1;have c:Ws=Ws.take i++x::Ws.drop (i+1):=by
  conv=>lhs;rw[<-List.take_append_drop i Ws]
  rw[List.drop_eq_getElem_cons b];rw[Ur b]at a;cases a;rfl
 conv=>lhs;rw[c]
 exact List.perm_middle
theorem xm.X9(h:xm Ws)(c:Ws[i]?=some x)(t:Int):xm (x.yi t::(Ws.take i++Ws.drop (i+1))):=by
 have hp:=Xy c;have d:=Uq c;have b:∀y∈Ws.take i++Ws.drop (i+1),y∈Ws:=fun y a=>hp.mem_iff.2 (V3 _ a)
 have e:=hp.length_eq
 refine⟨fun y a=>?_,fun y a=>?_,by have:=h.len;simp at e ⊢;omega⟩
 ·rcases List.mem_cons.1 a with rfl|a
  ·exact h.ok x d
  ·exact h.ok y (b y a)
 ·rcases List.mem_cons.1 a with rfl|a
  ·exact h.zm x d
  ·exact h.zm y (b y a)
def yo (Ws:List Wk):Nat:=(Ws.filter fun x=>decide (0<x.st)).length
theorem gS(b:Ws[i]?=some x)(c:0<x.st):yo (x.yi 0::(Ws.take i++Ws.drop (i+1)))+1=yo Ws:=by
 have hp:=(Xy b).filter fun x=>decide (0<x.st)
 have a:=hp.length_eq;unfold yo;rw[a,VW,VW]
 simp[Wk.yi,c]
theorem vr.X9(h:vr Ws st)(c:Ws[i]?=some x):vr (x.yi 0::(Ws.take i++Ws.drop (i+1))) st:=by
 have hp:=Xy c;have d:=Uq c;have e:∀y∈Ws.take i++Ws.drop (i+1),y∈Ws:=fun y b=>hp.mem_iff.2 (V3 _ b)
 refine⟨h.yh.X9 c 0,?_,fun y b=>?_,?_⟩
 ·have a:=((hp.map (·.zm)).nodup_iff).1 h.nums
  exact a
 ·rcases List.mem_cons.1 b with rfl|b
  ·exact⟨Int.le_refl 0,Int.le_trans (h.st x d).1 (h.st x d).2⟩
  ·exact h.st y (e y b)
 ·have a:=(((hp.filter fun x=>decide (0<x.st)).map (·.st)).nodup_iff).1 h.sts;rw[VW]at a ⊢;simp only[show decide (0<(x.yi 0).st)=false from rfl,Bool.false_eq_true,if_false]
  split at a
  ·simp only[List.map_cons,List.nodup_cons]at a;exact a.2
  ·exact a
theorem vr.admit(h:vr Ws st)(n:0<=st)(b:Ws[i]?=some x)(f:x.st=0):vr (Ws.set i (x.yi (st+1))) (st+1):=by
 have d:=(Uy.1 b).1;have g:Ws.set i (x.yi (st+1))=Ws.take i++x.yi (st+1)::Ws.drop (i+1):=List.set_eq_take_append_cons_drop .. |>.trans (by rw[if_pos d]);have hp:=Xy b;have o:=Uq b
 refine⟨h.yh.set b _,?_,fun y c=>?_,?_⟩
 ·have a:((Ws.set i (x.yi (st+1))).map (·.zm))=Ws.map (·.zm):=by
   rw[List.map_set]
   apply List.ext_getElem?
   intro j;rw[List.getElem?_set]
   split
   ·rename_i e;subst e
    rw[if_pos (j_ d),VB,b];rfl
   ·rfl
  rw[a];exact h.nums
 ·rcases List.mem_or_eq_of_mem_set c with c|rfl
  ·have:=h.st y c;omega
  ·simp[Wk.yi];omega
 ·have hq:(Ws.set i (x.yi (st+1))).Perm (x.yi (st+1)::(Ws.take i++Ws.drop (i+1))):=by rw[g];exact List.perm_middle
  refine(((hq.filter fun x=>decide (0<x.st)).map (·.st)).nodup_iff).2 ?_
  have a:=(((hp.filter fun x=>decide (0<x.st)).map (·.st)).nodup_iff).1 h.sts;rw[VW]at a ⊢;rw[if_neg (by simp[f])]at a;rw[if_pos (show decide (0<(x.yi (st+1)).st)=true from decide_eq_true (show(0:Int)<st+1 by omega))];simp only[List.map_cons,List.nodup_cons]
  refine⟨fun l=>?_,a⟩
  obtain⟨y,c,k⟩:=UC.1 l;have m:=hp.mem_iff.2 (V3 _ (Vu.1 c).1)
  have:=(h.st y m).2
  simp[Wk.yi]at k
  omega
theorem XU(L:List zx)(Ws:List Wk)(x:Wk):∀n b,VH L Ws x n=some b->∃v,Ws[b]?=some v/\v.st≠0/\way L Ws x v=true
 |0,b,h=>by simp[VH]at h
 |n+1,b,h=>by
  rw[aO]at h;unfold ZP at h
  split at h
  ·rename_i v c
   split at h
   ·exact XU L Ws x n b h
   ·rename_i a
    split at h
    ·rename_i d
     simp at h;subst h
     refine⟨v,c,fun e=>a ?_,d⟩
     unfold tI;simp[e]
    ·exact XU L Ws x n b h
  ·exact XU L Ws x n b h
structure MS where
 Ws:List Wk
 zt:List (Int×Int)
def tu (L:List zx)(x:Wk)(s:MS):Option MS :=
 if Vm L s.Ws x then none else match Xh L s.Ws x with
  |none=>none
  |some i=>match s.Ws[i]? with
   |some v=>some ⟨v.yi 0::(s.Ws.take i++s.Ws.drop (i+1)),s.zt++[(2,v.zm)]⟩
   |none=>none
def room (L:List zx)(x:Wk):Nat->MS->MS
 |0,s=>s
 |n+1,s=>match tu L x s with
  |none=>s
  |some a=>room L x n a
theorem nM{L:List zx}{s a:MS}(c:vr s.Ws st)(h:tu L x s=some a):yo a.Ws+1=yo s.Ws/\vr a.Ws st/\a.Ws.length=s.Ws.length:=by
 unfold tu at h
 split at h
 ·cases h
 ·split at h
  ·cases h
  ·rename_i i d
   obtain⟨v,b,f,_⟩:=XU L s.Ws x _ i d;rw[b]at h
   simp at h
   subst h
   have:=(c.st v (Uq b)).1
   have e:=(Xy b).length_eq
   exact⟨gS b o_,c.X9 b,by simp at e ⊢;omega⟩
def shr (u d n a:Int):Int×Int:=if a=0\/u+d-n<0 then(0,1) else(u+d-n,a)
def yk (a b:Int×Int):Int×Int:=if a.1*b.2<b.1*a.2 then b else a
def Vg (L:List zx)(Ws:List Wk)(x:Wk):Int×Int :=
 yk (yk (0,1) (shr (yf (Ut Ws (kN x.zb))) x.d0 (xj (Uz L (kN x.zb))) (xj (Uz L [])))) (shr (yg (Ut Ws (kN x.zb))) x.d1 (xi (Uz L (kN x.zb))) (xi (Uz L [])))
theorem ck{u n a:Int}(b:0<=u/\u<=24000)(c:0<=d/\d<=1000)(h3:0<=n/\n<=20000)(e:0<=a/\a<=20000):(0<=(shr u d n a).1/\(shr u d n a).1<=25000)/\(0<=(shr u d n a).2/\(shr u d n a).2<=25000):=by
 unfold shr
 split<;>simp<;>omega
theorem bh{a b:Int×Int}(c:(0<=a.1/\a.1<=25000)/\(0<=a.2/\a.2<=25000))(hb:(0<=b.1/\b.1<=25000)/\(0<=b.2/\b.2<=25000)):(0<=(yk a b).1/\(yk a b).1<=25000)/\(0<=(yk a b).2/\(yk a b).2<=25000):=by
 unfold yk
 split<;>assumption
structure SS where
 Ws:List Wk
 st:Int
 zt:List (Int×Int)
variable {s a:SS}
def Xl (Ws:List Wk)(b:Nat):Bs:=match Ws[b]? with|some y=>kN y.zb|none=>[]
def ct (Ws:List Wk)(b:Nat):Int:=match Ws[b]? with|some y=>y.zm|none=>0
def ik (L:List zx)(Ws:List Wk)(a:Option Nat)(i:Nat):Option Nat :=
 match Ws[i]? with
 |some x=>if xb L Ws x&&(match a with|none=>true|some b=>Op.bytesLess (kN x.zb) (Xl Ws b)) then some i else a
 |none=>a
def WZ (L:List zx)(Ws:List Wk)(l:List Nat):Option Nat:=l.foldl (ik L Ws) none
def YS (L:List zx)(Ws:List Wk):Option Nat:=WZ L Ws (WI Ws)
def al (Ws:List Wk)(n t:Int):List Wk:=Ws.map fun y=>if y.zm=n then y.yi t else y
def VS (L:List zx)(x:Wk)(s:SS):SS :=
 ⟨al (room L x (yo s.Ws) ⟨s.Ws,s.zt⟩).Ws x.zm (s.st+1),s.st+1,(room L x (yo s.Ws) ⟨s.Ws,s.zt⟩).zt++[(1,x.zm)]⟩
def ej (L:List zx)(s:SS):Option SS :=
 match YS L s.Ws with
 |none=>none
 |some b=>match s.Ws[b]? with
  |none=>none
  |some x=>some (VS L x s)
def V2 (a b:Int×Int):Bool:=decide (a.1*b.2<b.1*a.2)
def WG (L:List zx)(Ws:List Wk)(a:Option Nat×(Int×Int))(i:Nat):Option Nat×(Int×Int) :=
 match Ws[i]? with
 |none=>a
 |some x=>if Vm L Ws x then
   (if (match a.1 with|none=>true|some b=>V2 (Vg L Ws x) a.2||(!V2 a.2 (Vg L Ws x)&&decide (x.zm<ct Ws b))) then(some i,Vg L Ws x) else a)
  else a
def Vi (L:List zx)(Ws:List Wk)(l:List Nat):Option Nat×(Int×Int):=l.foldl (WG L Ws) (none,(0,0))
def YH (L:List zx)(Ws:List Wk):Option Nat:=(Vi L Ws (WI Ws)).1
def Xj (b:Nat)(x:Wk)(s:SS):SS:=⟨s.Ws.set b (x.yi (s.st+1)),s.st+1,s.zt++[(1,x.zm)]⟩
def VL (L:List zx)(s:SS):Option SS :=
 match YH L s.Ws with
 |none=>none
 |some b=>match s.Ws[b]? with
  |none=>none
  |some x=>some (Xj b x s)
def wW (f:SS->Option SS):Nat->SS->SS
 |0,s=>s
 |n+1,s=>match f s with
  |none=>s
  |some a=>wW f n a
def VN (L:List zx)(s:SS):SS:=wW (ej L) s.Ws.length s
def UH (L:List zx)(s:SS):SS:=wW (VL L) s.Ws.length (VN L s)
theorem Yu{f:SS->Option SS}(h:f s=none):∀n,wW f n s=s
 |0=>rfl
 |n+1=>by simp only[wW,h]
theorem aW{f:SS->Option SS}(h:f s=some a)(n:Nat):wW f (n+1) s=wW f n a:=by simp only[wW,h]
theorem ZZ{f:SS->Option SS}{I:SS->Prop}(hI:∀s a,I s->f s=some a->I a):∀(n:Nat) (s:SS),I s->I (wW f n s)
 |0,s,h=>h
 |n+1,s,h=>by
  simp only[wW]
  cases b:f s with
  |none=>exact h
  |some a=>exact ZZ hI n a (hI s a h b)
theorem ZR{f:SS->Option SS}{I:SS->Prop}{m:SS->Nat}(hI:∀s a,I s->f s=some a->I a/\m a<m s):∀(n k:Nat) (s:SS),I s->m s<=n->m s<=k->wW f n s=wW f k s
 |0,k,s,h,d,c=>by
  have:f s=none:=by
   cases b:f s with
   |none=>rfl
   |some a=>have:=(hI s a h b).2;omega
  rw[Yu this,Yu this]
 |n+1,0,s,h,d,c=>by
  have:f s=none:=by
   cases b:f s with
   |none=>rfl
   |some a=>have:=(hI s a h b).2;omega
  rw[Yu this,Yu this]
 |n+1,k+1,s,h,d,c=>by
  simp only[wW]
  cases b:f s with
  |none=>rfl
  |some a =>
   have:=hI s a h b
   exact ZR hI n k a this.1 o_ o_
def u6 (Ws:List Wk):Prop:=∀x∈Ws,∀y∈Ws,xc (kN x.zb) (kN y.zb)=true->x.zb=y.zb
theorem bQ{a b:List Wk}(h:a.Perm b):yf a=yf b:=by
 unfold yf
 induction h with
 |nil=>rfl
 |cons x _ e=>simp[e]
 |swap x y l=>simp;omega
 |trans _ _ c d=>exact c.trans d
theorem bR{a b:List Wk}(h:a.Perm b):yg a=yg b:=by
 unfold yg
 induction h with
 |nil=>rfl
 |cons x _ e=>simp[e]
 |swap x y l=>simp;omega
 |trans _ _ c d=>exact c.trans d
theorem ix{v:Wk}(c:Ws[i]?=some v)(d:0<v.st)(k:Bs):
  yf (Ut Ws k)=yf (Ut (v.yi 0::(Ws.take i++Ws.drop (i+1))) k)+(if xc (kN v.zb) k then v.d0 else 0)/\yg (Ut Ws k)=yg (Ut (v.yi 0::(Ws.take i++Ws.drop (i+1))) k)+(if xc (kN v.zb) k then v.d1 else 0):=by
 have hp:=(Xy c).filter fun x=>decide (0<x.st)&&xc (kN x.zb) k
 have a:=bQ hp;have b:=bR hp;unfold Ut;rw[a,b,VW,VW];rw[show(decide (0<(v.yi 0).st)&&xc (kN (v.yi 0).zb) k)=false from by simp[Wk.yi]];rw[show(decide (0<v.st)&&xc (kN v.zb) k)=xc (kN v.zb) k from by simp[d]]
 cases xc (kN v.zb) k<;>simp[yf,yg]<;>omega
theorem dE(a:Ws[i]?=some x)(e:x.st=0){t:Int}(ht:0<t)(k:Bs):
  yf (Ut (Ws.set i (x.yi t)) k)=yf (Ut Ws k)+(if xc (kN x.zb) k then x.d0 else 0)/\yg (Ut (Ws.set i (x.yi t)) k)=yg (Ut Ws k)+(if xc (kN x.zb) k then x.d1 else 0):=by
 have c:=(Uy.1 a).1;have d:Ws.set i (x.yi t)=Ws.take i++x.yi t::Ws.drop (i+1):=List.set_eq_take_append_cons_drop .. |>.trans (by rw[if_pos c]);have hq:(Ws.set i (x.yi t)).Perm (x.yi t::(Ws.take i++Ws.drop (i+1))):=by rw[d];exact List.perm_middle
 have hp:=(Xy a).filter fun x=>decide (0<x.st)&&xc (kN x.zb) k
 have b:=hq.filter fun x=>decide (0<x.st)&&xc (kN x.zb) k
 unfold Ut;rw[bQ hp,bR hp,bQ b,bR b,VW,VW];rw[show(decide (0<(x.yi t).st)&&xc (kN (x.yi t).zb) k)=xc (kN x.zb) k from by simp[Wk.yi,ht]];rw[show(decide (0<x.st)&&xc (kN x.zb) k)=false from by simp[e]]
 cases xc (kN x.zb) k<;>simp[yf,yg,Wk.yi]<;>omega
def Vr (Ws:List Wk)(k:List Bs):Option Wk:=Ws.find? fun y=>(y.st == 0)&&decide (y.zb=k)
def X0 (L:List zx)(Ws:List Wk)(k:List Bs):Bool:=match Vr Ws k with|some h=>xb L Ws h|none=>false
def x9 (L:List zx)(Ws:List Wk):Nat:=(Ws.filter fun x=>(x.st == 0)&&X0 L Ws x.zb).length
def VO (Ws:List Wk):Nat:=(Ws.filter fun x=>x.st == 0).length
theorem jF(L:List zx)(Ws:List Wk):x9 L Ws<=Ws.length:=Wt _ _
theorem jh(Ws:List Wk):VO Ws<=Ws.length:=Wt _ _
theorem VG(h:Vr Ws k=some x):x∈Ws/\x.st=0/\x.zb=k:=by
 have a:=List.find?_some h;have b:=List.mem_of_find?_eq_some h
 simp at a
 exact⟨b,a.1,a.2⟩
theorem ZS(f:∀x∈Ws,0<=x.st)(a:Ws[i]?=some x)(h:Xv Ws i x=true):Vr Ws x.zb=some x:=by
 have b:=(Uy.1 a).1;have e:Ws=Ws.take i++x::Ws.drop (i+1):=by
  conv=>lhs;rw[<-List.take_append_drop i Ws]
  rw[List.drop_eq_getElem_cons b];rw[Ur b]at a;cases a;rfl
 unfold Xv at h;simp only[Bool.and_eq_true,beq_iff_eq,List.all_eq_true,Bool.or_eq_true,decide_eq_true_eq]at h;unfold Vr;rw[e,List.find?_append];rw[List.find?_eq_none.2 (fun y d=>by
  have:=h.2 y d
  have g:=f y (List.mem_of_mem_take d)
  simp;intro h3
  rcases this with c|c
  ·omega
  ·exact c)]
 simp[h.1]
theorem bK{α β : Type}{f : α -> β}{l:List α}(d:(l.map f).Nodup){x y : α}(a:l[i]?=some x)(c:l[j]?=some y)(e:f x=f y):i=j:=by
 obtain⟨b,g⟩:=Uy.1 a
 refine(List.getElem?_inj (l:=l.map f) (j_ b) d).1 ?_
 rw[VB,VB,a,c]
 simp[e]
theorem gv(h:tv Ws i=true):∃x,Ws[i]?=some x/\Xv Ws i x=true:=by
 unfold tv at h
 split at h
 ·rename_i x a;exact⟨x,a,h⟩
 ·cases h
theorem aV(h:i∈WI Ws):i<Ws.length/\tv Ws i=true:=by
 unfold WI Xt at h;rw[Vu,List.mem_range]at h
 exact h
theorem mU(L:List zx)(Ws:List Wk)(l:List Nat)(i:Nat):WZ L Ws (l++[i])=ik L Ws (WZ L Ws l) i:=by
 unfold WZ;rw[List.foldl_append];rfl
theorem mE(L:List zx)(Ws:List Wk)(a:Option Nat)(i:Nat):ik L Ws a i=a\/(ik L Ws a i=some i/\∃x,Ws[i]?=some x/\xb L Ws x=true):=by
 unfold ik
 cases e:Ws[i]? with
 |none=>exact .inl rfl
 |some x =>
  simp only
  generalize (match a with|none=>true|some b=>Op.bytesLess (kN x.zb) (Xl Ws b))=c
  cases d:xb L Ws x<;>cases c
  ·exact .inl rfl
  ·exact .inl rfl
  ·exact .inl rfl
  ·exact .inr ⟨rfl,x,rfl,d⟩
theorem gG(L:List zx)(Ws:List Wk):∀(l:List Nat) (a:Option Nat) (b:Nat),l.foldl (ik L Ws) a=some b->a=some b\/(b∈l/\∃x,Ws[b]?=some x/\xb L Ws x=true)
 | [],a,b,h=>.inl h
 |i::l,a,b,h=>by
  rw[List.foldl_cons]at h
  rcases gG L Ws l _ b h with c|⟨c,d⟩
  ·rcases mE L Ws a i with h3|⟨h3,e⟩
   ·rw[h3]at c;exact .inl c
   ·rw[h3]at c;cases c;exact .inr ⟨List.mem_cons_self ..,e⟩
  ·exact .inr ⟨V3 _ c,d⟩
theorem gD{L:List zx}{l:List Nat}(h:WZ L Ws l=some b):b∈l/\∃x,Ws[b]?=some x/\xb L Ws x=true:=by
 rcases gG L Ws l none b h with a|a
 ·cases a
 ·exact a
theorem a6{L:List zx}(h:YS L Ws=some b):∃x,Ws[b]?=some x/\Xv Ws b x=true/\xb L Ws x=true:=by
 obtain⟨d,x,a,f⟩:=gD h;obtain⟨y,c,e⟩:=gv (aV d).2;rw[a]at c;cases c
 exact⟨x,a,e,f⟩
def aC (L:List zx)(Ws:List Wk)(k:List Bs):Prop:=yf (Ut Ws (kN k))>xj (Uz L (kN k))\/yg (Ut Ws (kN k))>xi (Uz L (kN k))
theorem iO{L:List zx}{v:Wk}(h:way L Ws x v=true):aC L Ws v.zb:=by
 unfold way at h;rw[W7]at h;obtain⟨e,_,a⟩:=h;rw[Bool.or_eq_true]at a;unfold wu wo at a;simp only[Bool.and_eq_true,decide_eq_true_eq]at a
 rcases a with ⟨_,_,_,b,_⟩|⟨_,_,_,b,_⟩
 ·exact .inl b
 ·exact .inr b
theorem gg{L:List zx}(b:0<=x.d0/\0<=x.d1)(h:xb L Ws x=true):¬aC L Ws x.zb:=by
 unfold xb at h;simp only[Bool.and_eq_true,decide_eq_true_eq]at h
 rintro(a|a)<;>omega
theorem sP(k:List Bs):xc (kN k) (kN k)=true:=by simp[xc]
theorem iK{α : Type}{l:List α}{x : α}(a:l[i]?=some x):l=l.take i++x::l.drop (i+1):=by
 have b:=(Uy.1 a).1
 conv=>lhs;rw[<-List.take_append_drop i l]
 rw[List.drop_eq_getElem_cons b];rw[Ur b]at a;cases a;rfl
theorem bF{α : Type}{l:List α}{x : α}(b:l[i]?=some x)(y : α):l.set i y=l.take i++y::l.drop (i+1):=by
 have a:=(Uy.1 b).1
 exact List.set_eq_take_append_cons_drop .. |>.trans (by rw[if_pos a])
theorem aI{v:Wk}(c:Ws[i]?=some v)(e:0<v.st)(k:List Bs):Vr (v.yi 0::(Ws.take i++Ws.drop (i+1))) k=if v.zb=k then some (v.yi 0) else Vr Ws k:=by
 have b:=iK c;have d:¬(v.st=0):=o_;unfold Vr
 by_cases a:v.zb=k
 ·rw[if_pos a,List.find?_cons];simp[Wk.yi,a]
 ·rw[if_neg a,List.find?_cons];rw[show(((v.yi 0).st == 0)&&decide ((v.yi 0).zb=k))=false from by simp[Wk.yi,a]]
  simp only
  conv=>rhs;rw[b]
  rw[List.find?_append,List.find?_append,List.find?_cons];rw[show((v.st == 0)&&decide (v.zb=k))=false from by simp[d]]
theorem ZQ(a:Ws[i]?=some x){t:Int}(ht:0<t)(b:x.zb≠k):Vr (Ws.set i (x.yi t)) k=Vr Ws k:=by
 unfold Vr;rw[bF a]
 conv=>rhs;rw[iK a]
 rw[List.find?_append,List.find?_append,List.find?_cons,List.find?_cons];rw[show(((x.yi t).st == 0)&&decide ((x.yi t).zb=k))=false from by simp[Wk.yi,b]];rw[show((x.st == 0)&&decide (x.zb=k))=false from by simp[b]]
theorem aF{L:List zx}{v:Wk}(a:Ws[i]?=some v)(c:0<v.st)(b:xc (kN v.zb) (kN h.zb)=false):xb L (v.yi 0::(Ws.take i++Ws.drop (i+1))) h=xb L Ws h:=by
 have:=ix a c (kN h.zb)
 rw[b]at this;unfold xb;rw[this.1,this.2]
 simp
theorem cM{L:List zx}{v:Wk}(b:Ws[i]?=some v)(c:0<v.st)(a:aC L Ws v.zb):xb L (v.yi 0::(Ws.take i++Ws.drop (i+1))) (v.yi 0)=false:=by
 have:=ix b c (kN v.zb)
 rw[sP]at this;simp only[if_true]at this;unfold xb;rw[jD]
 show(decide (yf _+v.d0<=_)&&decide (yg _+v.d1<=_))=false
 rw[<-this.1,<- this.2]
 rcases a with a|a
 ·simp only[Bool.and_eq_false_iff,decide_eq_false_iff_not];left;omega
 ·simp only[Bool.and_eq_false_iff,decide_eq_false_iff_not];right;omega
theorem cH{L:List zx}(a:Ws[i]?=some x)(c:x.st=0){t:Int}(ht:0<t)(b:xc (kN x.zb) (kN h.zb)=false):xb L (Ws.set i (x.yi t)) h=xb L Ws h:=by
 have:=dE a c ht (kN h.zb)
 rw[b]at this;unfold xb;rw[this.1,this.2]
 simp
theorem u6.not(h:u6 Ws)(c:x∈Ws)(d:y∈Ws)(b:x.zb≠y.zb):xc (kN x.zb) (kN y.zb)=false:=by
 cases a:xc (kN x.zb) (kN y.zb)
 ·rfl
 ·exact absurd (h x c y d a) b
theorem u6.keys(h:u6 Ws)(d:∀y∈Ws',∃z∈Ws,z.zb=y.zb):u6 Ws':=by
 intro x i y j c;obtain⟨a,g,e⟩:=d x i;obtain⟨b,hb,f⟩:=d y j;rw[<-e,<- f]at c ⊢
 exact h a g b hb c
theorem oV{v:Wk}(b:Ws[i]?=some v)(t:Int):∀y∈v.yi t::(Ws.take i++Ws.drop (i+1)),∃z∈Ws,z.zb=y.zb:=by
 intro y a
 rcases List.mem_cons.1 a with rfl|a
 ·exact⟨v,Uq b,rfl⟩
 ·exact⟨y,(Xy b).mem_iff.2 (V3 _ a),rfl⟩
theorem g7{v:Wk}(b:Ws[i]?=some v)(t:Int):∀y∈Ws.set i (v.yi t),∃z∈Ws,z.zb=y.zb:=by
 intro y a
 rcases List.mem_or_eq_of_mem_set a with a|rfl
 ·exact⟨y,a,rfl⟩
 ·exact⟨v,Uq b,rfl⟩
theorem pT{L:List zx}(h:u6 Ws){v:Wk}(b:Ws[i]?=some v)(c:0<v.st)(e:aC L Ws v.zb):x9 L (v.yi 0::(Ws.take i++Ws.drop (i+1)))<=x9 L Ws:=by
 have hp:=(Xy b).countP_eq (fun x=>(x.st == 0)&&X0 L Ws x.zb);have f:=Uq b;unfold x9;rw[<-List.countP_eq_length_filter,<- List.countP_eq_length_filter,hp,List.countP_cons,List.countP_cons];have g:X0 L (v.yi 0::(Ws.take i++Ws.drop (i+1))) (v.yi 0).zb=false:=by
  unfold X0;rw[aI b c,jD,if_pos rfl]
  exact cM b c e
 rw[g,Bool.and_false];have l:¬(v.st=0):=o_;simp only[Bool.false_eq_true,if_false,Nat.add_zero]
 refine Nat.le_trans (List.countP_mono_left (fun y m a=>?_)) (Nat.le_add_right _ _)
 simp only[Bool.and_eq_true,beq_iff_eq]at a ⊢
 refine⟨a.1,?_⟩
 have h3:=a.2;unfold X0 at h3 ⊢;rw[aI b c]at h3
 by_cases d:v.zb=y.zb
 ·rw[if_pos d]at h3
  simp only at h3
  rw[cM b c e]at h3
  cases h3
 ·rw[if_neg d]at h3
  cases a:Vr Ws y.zb with
  |none=>rw[a]at h3;exact h3
  |some z =>
   rw[a]at h3;obtain⟨j,_,k⟩:=VG a
   simp only at h3 ⊢
   rwa[aF b c (h.not f j (by rw[k];exact d))]at h3
theorem pS{L:List zx}(j:u6 Ws)(a:Ws[i]?=some x)(e:x.st=0){t:Int}(ht:0<t)(k:Vr Ws x.zb=some x)(l:xb L Ws x=true):x9 L (Ws.set i (x.yi t))<x9 L Ws:=by
 have hp:=(Xy a).countP_eq (fun x=>(x.st == 0)&&X0 L Ws x.zb);have hq:(Ws.set i (x.yi t)).Perm (x.yi t::(Ws.take i++Ws.drop (i+1))):=by rw[bF a];exact List.perm_middle
 have m:=hq.countP_eq (fun y=>(y.st == 0)&&X0 L (Ws.set i (x.yi t)) y.zb);have g:=Uq a;have f:X0 L Ws x.zb=true:=by unfold X0;rw[k];exact l
 unfold x9;rw[<-List.countP_eq_length_filter,<- List.countP_eq_length_filter,hp,m,List.countP_cons,List.countP_cons];have h:((x.yi t).st == 0)=false:=by simp[Wk.yi];omega
 rw[h,f,e];simp only[Bool.false_and,Bool.false_eq_true,if_false,Nat.add_zero,beq_self_eq_true,Bool.and_self,if_true]
 refine Nat.lt_succ_of_le (List.countP_mono_left (fun y p d=>?_))
 simp only[Bool.and_eq_true,beq_iff_eq]at d ⊢
 refine⟨d.1,?_⟩
 by_cases b:x.zb=y.zb
 ·rw[<-b];exact f
 ·have h3:=d.2;unfold X0 at h3 ⊢;rw[ZQ a ht b]at h3
  cases c:Vr Ws y.zb with
  |none=>rw[c]at h3;exact h3
  |some z =>
   rw[c]at h3;obtain⟨n,_,o⟩:=VG c
   simp only at h3 ⊢
   rwa[cH a e ht (j.not g n (by rw[o];exact b))]at h3
structure wi (L:List zx) (x:Wk) (st:Int) (Ws:List Wk):Prop where
 yh:vr Ws st
 wy:u6 Ws
 head:Vr Ws x.zb=some x
 own:xb L Ws x=true
theorem fK{L:List zx}{s a:MS}(h:tu L x s=some a):∃(i:Nat) (v:Wk),Xh L s.Ws x=some i/\Vm L s.Ws x=false/\s.Ws[i]?=some v/\v.st≠0/\way L s.Ws x v=true/\a=⟨v.yi 0::(s.Ws.take i++s.Ws.drop (i+1)),s.zt++[(2,v.zm)]⟩:=by
 unfold tu at h
 split at h
 ·cases h
 ·rename_i e
  split at h
  ·cases h
  ·rename_i i b
   obtain⟨v,c,d,f⟩:=XU L s.Ws x _ i b;rw[c]at h;simp only[Option.some.injEq]at h
   exact⟨i,v,b,by simpa using e,c,d,f,h.symm⟩
theorem wi.step{L:List zx}{s a:MS}(h:wi L x st s.Ws)(k:tu L x s=some a):wi L x st a.Ws/\x9 L a.Ws<=x9 L s.Ws/\a.zt.length+yo a.Ws=s.zt.length+yo s.Ws/\a.Ws.length=s.Ws.length:=by
 obtain⟨i,v,r,q,b,p,m,rfl⟩:=fK k;have o:=(h.yh.st v (Uq b)).1;have c:0<v.st:=o_;have g:=iO m;obtain⟨j,t,_⟩:=VG h.head;have d:=h.yh.yh.zm x j;have f:v.zb≠x.zb:=fun e=>gg ⟨d.1.1,d.2.1⟩ h.own (e ▸ g)
 have n:=gS b c;have l:=(Xy b).length_eq
 refine⟨⟨h.yh.X9 b,h.wy.keys (oV b 0),?_,?_⟩,pT h.wy b c g,?_,?_⟩
 ·rw[aI b c,if_neg f];exact h.head
 ·rw[aF b c (h.wy.not (Uq b) j f)];exact h.own
 ·simp at n ⊢;omega
 ·simp at l ⊢;omega
theorem wi.room{L:List zx}:∀(n:Nat) (s:MS),wi L x st s.Ws->wi L x st (room L x n s).Ws/\x9 L (room L x n s).Ws<=x9 L s.Ws/\(room L x n s).zt.length+yo (room L x n s).Ws=s.zt.length+yo s.Ws/\(room L x n s).Ws.length=s.Ws.length
 |0,s,h=>⟨h,Nat.le_refl _,rfl,rfl⟩
 |n+1,s,h=>by
  simp only[Proofs.YtphclnolomgjoaaGreatDoor.room]
  cases e:tu L x s with
  |none=>exact⟨h,Nat.le_refl _,rfl,rfl⟩
  |some a =>
   obtain⟨b,c,h3,d⟩:=h.step e;obtain⟨g1,g2,g3,g4⟩:=wi.room n a b
   exact⟨g1,Nat.le_trans g2 c,g3.trans h3,g4.trans d⟩
theorem jP{L:List zx}{s a:MS}(h:tu L x s=some a)(n:Nat):room L x (n+1) s=room L x n a:=by simp only[room,h]
theorem room_end{L:List zx}{s:MS}(h:tu L x s=none)(n:Nat):room L x n s=s:=by
 cases n with
 |zero=>rfl
 |succ n=>simp only[room,h]
theorem a7(c:(Ws.map (·.zm)).Nodup)(a:Ws[i]?=some x)(t:Int):al Ws x.zm t=Ws.set i (x.yi t):=by
 apply List.ext_getElem?
 intro j;unfold al;rw[VB,List.getElem?_set]
 by_cases b:i=j
 ·subst b;rw[if_pos rfl,if_pos (Uy.1 a).1,a]
  simp
 ·rw[if_neg b]
  cases d:Ws[j]? with
  |none=>rfl
  |some y =>
   have:y.zm≠x.zm:=fun e=>b (bK c a d e.symm)
   simp[this]
structure ye (s:SS):Prop where
 yh:vr s.Ws s.st
 st0:0<=s.st
 wy:u6 s.Ws
theorem fZ{L:List zx}(h:ej L s=some a):∃(b:Nat) (x:Wk),YS L s.Ws=some b/\s.Ws[b]?=some x/\Xv s.Ws b x=true/\xb L s.Ws x=true/\a=VS L x s:=by
 unfold ej at h
 split at h
 ·cases h
 ·rename_i b hb
  obtain⟨x,c,d,e⟩:=a6 hb;rw[c]at h;simp only[Option.some.injEq]at h
  exact⟨b,x,hb,c,d,e,h.symm⟩
theorem ye.rinv{L:List zx}(h:ye s)(d:s.Ws[b]?=some x)(a:Xv s.Ws b x=true)(c:xb L s.Ws x=true):wi L x s.st s.Ws :=
 ⟨h.yh,h.wy,ZS (fun y e=>(h.yh.st y e).1) d a,c⟩
theorem ye.own{L:List zx}(h:ye s)(g:ej L s=some a):ye a/\x9 L a.Ws<x9 L s.Ws/\a.st=s.st+1/\a.Ws.length=s.Ws.length/\a.zt.length<=s.zt.length+25:=by
 obtain⟨b,x,hb,k,e,f,rfl⟩:=fZ g;obtain⟨g1,g2,g3,g4⟩:=wi.room (yo s.Ws) ⟨s.Ws,s.zt⟩ (h.rinv k e f);have l:=h.st0;have o:yo s.Ws<=24:=Nat.le_trans (Wt _ _) h.yh.yh.len;unfold VS;obtain⟨m,j⟩:∃m,m=Proofs.YtphclnolomgjoaaGreatDoor.room L x (yo s.Ws) ⟨s.Ws,s.zt⟩:=⟨_,rfl⟩;rw[<-j]at g1 g2 g3 g4 ⊢;obtain⟨n,d,_⟩:=VG g1.head;obtain⟨i,c⟩:=Vh n;rw[a7 g1.yh.nums c]
 simp only at g2 g3 g4 ⊢
 refine⟨⟨g1.yh.admit l c d,by show 0<=s.st+1;omega,g1.wy.keys (g7 c _)⟩,VJ (pS g1.wy c d o_ g1.head g1.own) g2,trivial,by rw[List.length_set];exact g4,?_⟩
 simp;omega
theorem mP(L:List zx)(Ws:List Wk)(l:List Nat)(i:Nat):Vi L Ws (l++[i])=WG L Ws (Vi L Ws l) i:=by
 unfold Vi;rw[List.foldl_append];rfl
theorem fq(L:List zx)(Ws:List Wk)(a:Option Nat×(Int×Int))(i:Nat):WG L Ws a i=a\/(WG L Ws a i).1=some i/\∃x,Ws[i]?=some x/\Vm L Ws x=true:=by
 unfold WG
 cases d:Ws[i]? with
 |none=>exact .inl rfl
 |some x =>
  simp only
  obtain⟨a1,a2⟩:=a
  cases a1 with
  |none =>
   simp only[if_true]
   cases c:Vm L Ws x
   ·exact .inl rfl
   ·exact .inr ⟨rfl,x,rfl,c⟩
  |some b =>
   simp only
   split
   ·rename_i c
    split
    ·exact .inr ⟨rfl,x,rfl,c⟩
    ·exact .inl rfl
   ·exact .inl rfl
theorem gF(L:List zx)(Ws:List Wk):∀(l:List Nat) (a:Option Nat×(Int×Int)) (b:Nat),(l.foldl (WG L Ws) a).1=some b->a.1=some b\/(b∈l/\∃x,Ws[b]?=some x/\Vm L Ws x=true)
 | [],a,b,h=>.inl h
 |i::l,a,b,h=>by
  rw[List.foldl_cons]at h
  rcases gF L Ws l _ b h with c|⟨c,d⟩
  ·rcases fq L Ws a i with h3|⟨h3,e⟩
   ·rw[h3]at c;exact .inl c
   ·rw[h3]at c;cases c;exact .inr ⟨List.mem_cons_self ..,e⟩
  ·exact .inr ⟨V3 _ c,d⟩
theorem oi{L:List zx}{l:List Nat}(h:(Vi L Ws l).1=some b):b∈l/\∃x,Ws[b]?=some x/\Vm L Ws x=true:=by
 rcases gF L Ws l _ b h with a|a
 ·cases a
 ·exact a
theorem aL{L:List zx}(h:YH L Ws=some b):∃x,Ws[b]?=some x/\Xv Ws b x=true/\Vm L Ws x=true:=by
 obtain⟨d,x,a,f⟩:=oi h;obtain⟨y,c,e⟩:=gv (aV d).2;rw[a]at c;cases c
 exact⟨x,a,e,f⟩
theorem ou(a:Ws[i]?=some x)(c:x.st=0){t:Int}(ht:0<t):VO (Ws.set i (x.yi t))+1=VO Ws:=by
 have hp:=(Xy a).countP_eq (fun x=>x.st == 0);have hq:(Ws.set i (x.yi t)).Perm (x.yi t::(Ws.take i++Ws.drop (i+1))):=by rw[bF a];exact List.perm_middle
 have d:=hq.countP_eq (fun y=>y.st == 0);unfold VO;rw[<-List.countP_eq_length_filter,<- List.countP_eq_length_filter,hp,d,List.countP_cons,List.countP_cons];have b:((x.yi t).st == 0)=false:=by simp[Wk.yi];omega
 rw[b,c]
 simp
theorem fC{L:List zx}(h:VL L s=some a):∃(b:Nat) (x:Wk),YH L s.Ws=some b/\s.Ws[b]?=some x/\Xv s.Ws b x=true/\Vm L s.Ws x=true/\a=Xj b x s:=by
 unfold VL at h
 split at h
 ·cases h
 ·rename_i b hb
  obtain⟨x,c,d,e⟩:=aL hb;rw[c]at h;simp only[Option.some.injEq]at h
  exact⟨b,x,hb,c,d,e,h.symm⟩
theorem rj(h:Xv Ws b x=true):x.st=0:=by
 unfold Xv at h;simp only[Bool.and_eq_true,beq_iff_eq]at h
 exact h.1
theorem ye.idle{L:List zx}(h:ye s)(f:VL L s=some a):ye a/\VO a.Ws<VO s.Ws/\a.st=s.st+1/\a.Ws.length=s.Ws.length/\a.zt.length=s.zt.length+1:=by
 obtain⟨b,x,hb,c,e,i,rfl⟩:=fC f;have g:=h.st0;have d:=rj e
 have:=ou c d (t:=s.st+1) o_
 unfold Xj
 refine⟨⟨h.yh.admit g c d,by show 0<=s.st+1;omega,h.wy.keys (g7 c _)⟩,by simp only;omega,rfl,s_,s_⟩
def Ym (e:Int×Int):List Value:=[vI e.1,vI e.2]
def UZ (l:List (Int×Int)):List Value:=l.flatMap Ym
theorem np(l:List (Int×Int)):(UZ l).length=l.length*2:=by
 induction l with
 |nil=>rfl
 |cons a l b=>simp[UZ,Ym]at b ⊢;omega
theorem ft(a b:List (Int×Int)):UZ (a++b)=UZ a++UZ b:=by simp[UZ]
theorem eC(k n:Int):∀u∈UZ [(k,n)],u.oneCell'=true:=by
 intro u a
 simp[UZ,Ym]at a
 rcases a with rfl|rfl<;>rfl
theorem un48:prog.underlying 48=some (.slice 60):=k_
structure VD (w:World) (br g cap:Nat) (L:List zx) (c:Option Nat) (zo:Int) (n:Nat) (W:World) (ao:Option Addr) (cW:Nat) (Ws:List Wk) (st:Int) (sl:Value) (zt:List (Int×Int)):Prop where
 ref:zy W br g cap L ao cW Ws zo st
 len:Ws.length=n
 zf:zd (fun b=>b=br\/c=some b) w W
 old:∀b,(Value.slice ao Ws.length cW).ownBlock=some b->b<w.heap.size->c=some b
 row:W.ownsRow 0 60 2 sl zt.length (UZ zt)
 new:∀b,sl.ownBlock=some b->w.heap.size<=b
 sep:∀b,sl.ownBlock=some b->(Value.slice ao Ws.length cW).ownBlock≠some b
theorem zd.WW(h:zd T w W)(hb:Bw W W'):zd T w W' :=
 ⟨hb.os.trans h.os,hb.tape.trans h.tape,hb.output.trans h.output,Nat.le_trans h.size hb.size,fun k a ht=>(hb.block k (VJ a h.size)).trans (h.block k a ht)⟩
theorem zd.step(h:zd T w W)(a:zd T' W W')(d:∀b,b<w.heap.size->T' b->T b):zd T w W' :=
 ⟨a.os.trans h.os,a.tape.trans h.tape,a.output.trans h.output,Nat.le_trans h.size a.size,fun k c ht=>(a.block k (VJ c h.size) (fun e=>ht (d k c e))).trans (h.block k c ht)⟩
theorem VD.below{g:Nat}{L:List zx}{sl:Value}(h:VD w br g cap L c zo n W ao cW Ws st sl zt)(hb:Bw W W'):VD w br g cap L c zo n W' ao cW Ws st sl zt :=
 ⟨h.ref.below hb,h.len,h.zf.WW hb,h.old,s8 (T:=fun _=>False) h.row (zd.new hb) (fun _ _ e=>e),h.new,h.sep⟩
theorem VD.start{g:Nat}{L:List zx}(h:zy w br g cap L ao cW Ws zo st):VD w br g cap L (Value.slice ao Ws.length cW).ownBlock zo Ws.length w ao cW Ws st v0_ [] :=
 ⟨h,rfl,zd.refl _ _,fun b hb _=>hb,Vx _ _ _ _,fun b hb=>by simp[Value.ownBlock]at hb,fun b hb=>by simp[Value.ownBlock]at hb⟩
theorem zy.Wf{g:Nat}{L:List zx}(h:zy W br g cap L ao cW Ws zo st):br<W.heap.size:=h.ref.zl.lt
theorem VD.X9{g:Nat}{L:List zx}{sl:Value}(h:VD w br g cap L c zo n W ao cW Ws st sl zt)(k:br<w.heap.size)(f:Ws'.length=Ws.length)(j:W.heap.size<=b')(i:zy W' br g cap L (some (vA b' 0)) c' Ws' zo st)(a:zd (fun b=>b=br) W W'):VD w br g cap L c zo n W' (some (vA b' 0)) c' Ws' st sl zt:=by
 have m:=h.zf.size;have d:∀b,sl.ownBlock=some b->b<W.heap.size:=fun b hb=>(h.row.lt b hb).2
 refine⟨i,f.trans h.len,h.zf.step a (fun b _ e=>.inl e),fun b hb l=>?_,s8 h.row a (fun b hb e=>?_),h.new,fun b hb e=>?_⟩
 ·simp[Value.ownBlock]at hb;omega
 ·have:=h.new b hb;omega
 ·simp[Value.ownBlock]at e
  have:=d b hb;omega
theorem VD.admit{g:Nat}{L:List zx}{sl:Value}(h:VD w br g cap L c zo n W ao cW Ws st sl zt)(j:br<w.heap.size)(a:Ws'.length=Ws.length)(f:AdmR W br g cap L ao cW Ws' zo Mi W'):VD w br g cap L c zo n W' ao cW Ws' Mi sl zt:=by
 have d:=f.zf;rw[a]at d
 refine⟨f.ref,a.trans h.len,h.zf.step d (fun b hb e=>?_),fun b hb i=>h.old b (by rw[<-a];exact hb) i,s8 h.row d (fun b hb e=>?_),h.new,fun b hb e=>h.sep b hb (by rw[<-a];exact e)⟩
 ·rcases e with e|e
  ·exact .inl e
  ·exact .inr (h.old b e hb)
 ·rcases e with e|e
  ·have:=h.new b hb;omega
  ·exact h.sep b hb e
theorem VD.tell{g:Nat}{L:List zx}{sl:Value}(h:VD w br g cap L c zo n W ao cW Ws st sl zt)(l:br<w.heap.size)(m:g<w.heap.size){e:Int×Int}(a:xq W sl.ownBlock 60 2 (zt.length+1) (UZ zt++UZ [e]) g' cap' W'):VD w br g cap L c zo n W' ao cW Ws st (vS g' (zt.length+1) cap') (zt++[e]):=by
 have o:=h.zf.size;have j:¬(sl.ownBlock=some br):=fun e=>by have:=h.new br e;omega
 have i:¬(sl.ownBlock=some g):=fun e=>by have:=h.new g e;omega
 have k:∀b,(Value.slice ao Ws.length cW).ownBlock=some b->¬(sl.ownBlock=some b):=fun b hb e=>h.sep b e hb
 refine⟨⟨h.ref.ref.zf a.zf j i,s8 h.ref.yc a.zf k,h.ref.ne1⟩,h.len,h.zf.step a.zf (fun b hb e=>?_),h.old,?_,fun b hb=>?_,fun b hb d=>?_⟩
 ·have:=h.new b e;omega
 ·rw[ft,List.length_append];exact a.own
 ·simp[Value.ownBlock]at hb;subst hb
  rcases a.new with d|d
  ·exact h.new _ d
  ·omega
 ·simp[Value.ownBlock]at hb;subst hb
  rcases a.new with f|f
  ·exact h.sep _ f d
  ·have:=UI h.ref.yc d
   omega
end Go.Proofs.YtphclnolomgjoaaGreatDoor
