import Derived.Test.YtphclnolomgjoaaGreatDoorC09
set_option linter.unusedVariables false
set_option linter.unusedSimpArgs false
set_option maxRecDepth 100000
set_option maxHeartbeats 4000000
namespace Go.Proofs.YtphclnolomgjoaaGreatDoor
open Tryz
open Go.RowKit
variable {A a cnt st:Int}{w:World}{br cW cap:Nat}{L:List Ent}{ao:Option Addr}{Ws:List Wk}
theorem qu2{b B:Int}(ha:0<=a/\a<=A)(hb:0<=b/\b<=B):0<=a*b/\a*b<=A*B :=
 ⟨Int.mul_nonneg ha.1 hb.1,Int.mul_le_mul ha.2 hb.2 hb.1 (Int.le_trans ha.1 ha.2)⟩
theorem qe9(a0 a1 b0 b1:Int)(h1:0<=a0/\a0<=100000)(h2:0<=a1/\a1<=100000)(h3:0<=b0/\b0<=100000)(h4:0<=b1/\b1<=100000)(w:World):
  Cl 161 #[.agg #[vI a0,vI a1],.agg #[vI b0,vI b1]] w fun e w'=>e=.returned (.bool (decide (a0*b1<b0*a1)))/\Bw w w':=by
 have m1:=qu2 h1 h4;have m2:=qu2 h3 h2
 go_enter func161,ntmps161
 go_wp2
 go_ret
 exact⟨rfl,by exact bel2⟩
theorem qql{g:Nat}(h:GRef w br g cap L ao cW Ws cnt st)(E:Ents L)(EW:Wks Ws)(x:Wk)(hx:WkOK x):
  Cl 160 #[vP br,.agg #[vI x.num,.string (sb (joinB x.key)),vI x.d0,vI x.d1,vI x.st]] w fun e w'=>e=.returned (.agg #[vI (qav L Ws x).1,vI (qav L Ws x).2])/\Bw w w':=by
 have dS:=fun W (hW:Bw w W)=>qcr (h.ref.below hW) E (sb (joinB x.key)) hx.small
 have a8:=fun W (hW:Bw w W)=>qcr (h.ref.below hW) E ⟨#[]⟩ (by decide)
 have fP:=fun W (hW:Bw w W)=>qe7 (h.below hW) EW (sb (joinB x.key)) hx.small
 have xo:=qeo E (joinB x.key);have Av:=qke EW (joinB x.key);have EX:=qeo E [];have Ax:=hx.n0;have tH:=hx.n1;rw[qbi]at dS fP;have pt:bl ⟨#[]⟩=[]:=rfl;rw[pt]at a8;unfold qav;generalize es0 (qaf L (joinB x.key))=n0 at *;generalize es1 (qaf L (joinB x.key))=n1 at *;generalize es0 (qaf L [])=ep at *;generalize es1 (qaf L [])=et at *;generalize ws0 (qae Ws (joinB x.key))=u0 at *;generalize ws1 (qae Ws (joinB x.key))=u1 at *;generalize sb (joinB x.key)=cw at *;generalize x.d0=a at *;generalize x.d1=b at *;generalize x.num=num at *;generalize x.st=sx at *;clear hx h E EW pt;obtain⟨T1,gw⟩:∃T1,T1=better (0,1) (shr u0 a n0 ep):=⟨_,rfl⟩;obtain⟨T2,jb⟩:∃T2,T2=better T1 (shr u1 b n1 et):=⟨_,rfl⟩;have Ha:Hid (T1=better (0,1) (shr u0 a n0 ep)):=gw;have oD:Hid (T2=better T1 (shr u1 b n1 et)):=jb;have q1:=qf4 (a:=((0:Int),(1:Int))) (by simp) (qof Av.1 Ax xo.1 EX.1);have q2:=qf4 (a:=T1) (by rw[gw];exact q1) (qof Av.2 tH xo.2 EX.2);rw[<-gw]at q1;rw[<-jb]at q2;rw[<-gw,<- jb];clear gw jb;obtain⟨t0,t1⟩:=T1;obtain⟨v0,v1⟩:=T2
 simp only at q1 q2
 obtain⟨eC,kS⟩:∃eC:Nat->Int×Int,eC=fun k=>if k=0 then(0,1) else if k=1 then(t0,t1) else(v0,v1):=⟨_,rfl⟩
 have xp:eC 0=(0,1):=by rw[kS];rfl
 have oL:eC 1=(t0,t1):=by rw[kS];rfl
 have oM:eC 2=(v0,v1):=by rw[kS];rfl
 clear kS
 go_enter func160,ntmps160
 go_wp2_with fail
 refine(dS _ (by exact bel2)).mono ?_
 rintro e w1 ⟨rfl,aa⟩
 have aj:Bw w w1:=qac (by exact bel2) aa;have j0:Blk w1 w.heap.size 178 #[vI num,.string cw,vI a,vI b,vI sx]:=Blk.below (by exact blk2) aa (by first|omega|(simp;done)|(simp;omega));have sk:Blk w1 (w.heap.size+1) 209 #[vI 0,vI 0]:=Blk.below (Blk.alloc (Blk.new' (by simp)) _) aa (by first|omega|(simp;done)|(simp;omega));have gm:Blk w1 (w.heap.size+1+1) 209 #[vI 0,vI 1]:=Blk.below (Blk.new' (by simp)) aa (by first|omega|(simp;done)|(simp;omega));clear aa dS;have G4:=j0.lt;have Nk:=sk.lt;have G5:=gm.lt;have cJ:=aj.size;have p1:=j0.cell 1;simp only[xq0,xq1,xq2]at p1;have e1:¬(w.heap.size=w1.heap.size):=by omega
 go_wp2_with fail
 refine(fP _ (by exact bel2)).mono ?_
 rintro e w2 ⟨rfl,af⟩
 have aw:Bw w w2:=qac (by exact bel2) af;have v_:Blk w2 w.heap.size 178 #[vI num,.string cw,vI a,vI b,vI sx]:=Blk.below (by exact blk2) af (by first|omega|(simp;done)|(simp;omega));have qP:Blk w2 (w.heap.size+1) 209 #[vI 0,vI 0]:=Blk.below (by exact blk2) af (by first|omega|(simp;done)|(simp;omega));have gH:Blk w2 (w.heap.size+1+1) 209 #[vI 0,vI 1]:=Blk.below (by exact blk2) af (by first|omega|(simp;done)|(simp;omega));have dX:Blk w2 w1.heap.size 35 #[vI n0,vI n1]:=Blk.below (Blk.new' rfl) af (by first|omega|(simp;done)|(simp;omega));clear af fP j0 sk gm p1;have Ks:=v_.lt;have Nl:=qP.lt;have En:=gH.lt;have zT:=dX.lt;have dO:=aw.size
 go_wp2_with fail
 refine(a8 _ (by exact bel2)).mono ?_
 rintro e w3 ⟨rfl,ax⟩
 have aK:Bw w w3:=qac (by exact bel2) ax;have qq:Blk w3 w.heap.size 178 #[vI num,.string cw,vI a,vI b,vI sx]:=Blk.below (by exact blk2) ax (by first|omega|(simp;done)|(simp;omega));have EO:Blk w3 (w.heap.size+1) 209 #[vI 0,vI 0]:=Blk.below (by exact blk2) ax (by first|omega|(simp;done)|(simp;omega));have wa:Blk w3 (w.heap.size+1+1) 209 #[vI 0,vI 1]:=Blk.below (by exact blk2) ax (by first|omega|(simp;done)|(simp;omega));have gr:Blk w3 w1.heap.size 35 #[vI n0,vI n1]:=Blk.below (by exact blk2) ax (by first|omega|(simp;done)|(simp;omega));have eS:Blk w3 w2.heap.size 35 #[vI u0,vI u1]:=Blk.below (Blk.new' rfl) ax (by first|omega|(simp;done)|(simp;omega));clear ax a8 v_ qP gH dX;have Nj:=qq.lt;have Nm:=EO.lt;have Nn:=wa.lt;have No:=gr.lt;have Np:=eS.lt;have nA:=aK.size
 go_wp2_with fail
 have EN:Blk (w3.alloc (.cells #[vI ep,vI et] 35)) w.heap.size 178 #[vI num,.string cw,vI a,vI b,vI sx]:=by exact blk2
 have EP:Blk (w3.alloc (.cells #[vI ep,vI et] 35)) (w.heap.size+1) 209 #[vI 0,vI 0]:=by exact blk2
 have sm:Blk (w3.alloc (.cells #[vI ep,vI et] 35)) (w.heap.size+1+1) 209 #[vI 0,vI 1]:=by exact blk2
 have oH:Blk (w3.alloc (.cells #[vI ep,vI et] 35)) w1.heap.size 35 #[vI n0,vI n1]:=by exact blk2
 have oI:Blk (w3.alloc (.cells #[vI ep,vI et] 35)) w2.heap.size 35 #[vI u0,vI u1]:=by exact blk2
 have ER:Blk (w3.alloc (.cells #[vI ep,vI et] 35)) w3.heap.size 35 #[vI ep,vI et]:=by exact blk2
 have dU:Bw w (w3.alloc (.cells #[vI ep,vI et] 35)):=by exact bel2
 generalize (w3.alloc (.cells #[vI ep,vI et] 35))=W4 at EN EP sm oH oI ER dU ⊢;clear qq EO wa gr eS aj aw aK;generalize w1.heap.size=g6 at *;generalize w2.heap.size=g7 at *;generalize w3.heap.size=g8 at *;clear w1 w2 w3;rw[show(#[vI 0,vI 1]:Array Value)=#[vI (eC 0).1,vI (eC 0).2] by rw[xp]]at sm
 go_loopw [9] (fun i wr=>∃k:Nat,k<=2/\i=vI k/\Bw w wr/\Blk wr w.heap.size 178 #[vI num,.string cw,vI a,vI b,vI sx]/\Blk wr (w.heap.size+1) 209 #[vI 0,vI 0]/\Blk wr (w.heap.size+1+1) 209 #[vI (eC k).1,vI (eC k).2]/\Blk wr g6 35 #[vI n0,vI n1]/\Blk wr g7 35 #[vI u0,vI u1]/\Blk wr g8 35 #[vI ep,vI et]) (fun i _=>2-(intOf i).toNat)
 case atStart=>exact⟨0,by omega,rfl,dU,EN,EP,sm,oH,oI,ER⟩
 case round =>
  obtain⟨k,hk,rfl,ae,c3,c4,c5,c6,c7,c8⟩:=hrel
  rcases(show k=0\/k=1\/k=2 by omega) with rfl|rfl|rfl
  ·-- round 0
   have x3:=c3.cell 2;have x6:=c6.cell 0;have x7:=c7.cell 0;have x8:=c8.cell 0;rw[xp]at c5;have qK:=c5.cell 0;have qL:=c5.cell 1;have m3:=c3.lt;have m4:=c4.lt;have m5:=c5.lt;have m6:=c6.lt;have m7:=c7.lt;have m8:=c8.lt;simp only[xq0,xq1,xq2]at x3 x6 x7 x8 qK qL;have HT:Hid ((t0,t1)=better ((0:Int),(1:Int)) (shr u0 a n0 ep)):=Ha.out;have hz:=ae.size
   by_cases z0:ep=0\/u0+a-n0<0
   ·have hs:shr u0 a n0 ep=(0,1):=by unfold shr;rw[if_pos z0]
    have hl:=fun W=>qe9 (0:Int) (1:Int) 0 1 (by omega) (by omega) (by omega) (by omega) W
    have lO:(t0,t1)=better ((0:Int),(1:Int)) (0,1):=by have h1:=HT.out;rw[hs]at h1;exact h1
    have HS:Hid ((t0,t1)=better ((0:Int),(1:Int)) (0,1)):=lO;clear HT hs lO;have z1:ep=0\/¬(ep=0):=by omega
    have hm:¬((0:Int)*1<0*(1:Int)):=by omega
    rw[decide_eq_false hm]at hl
    rcases z1 with z1|z1
    ·have z2:(ep == 0)=true:=by simp[z1]
     clear z1 z0
     go_wp2_with fail
     go_region
     go_wp2_with fail
     refine(hl _).mono ?_
     rintro e w5 ⟨rfl,aG⟩
     have eM:Bw w w5:=qac (by exact bel2) aG;have d3:Blk w5 w.heap.size 178 #[vI num,.string cw,vI a,vI b,vI sx]:=Blk.below (by exact blk3) aG (by first|omega|(simp;done)|(simp;omega));have d4:Blk w5 (w.heap.size+1) 209 #[vI 0,vI 0]:=Blk.below (by exact blk3) aG (by first|omega|(simp;done)|(simp;omega));have d5:Blk w5 (w.heap.size+1+1) 209 #[vI (0:Int),vI (1:Int)]:=Blk.below (by exact blk3) aG (by first|omega|(simp;done)|(simp;omega));have d6:Blk w5 g6 35 #[vI n0,vI n1]:=Blk.below (by exact blk3) aG (by first|omega|(simp;done)|(simp;omega));have d7:Blk w5 g7 35 #[vI u0,vI u1]:=Blk.below (by exact blk3) aG (by first|omega|(simp;done)|(simp;omega));have d8:Blk w5 g8 35 #[vI ep,vI et]:=Blk.below (by exact blk3) aG (by first|omega|(simp;done)|(simp;omega));have ds:Blk w5 wr.heap.size 209 #[vI (0),vI (1)]:=Blk.below (by exact(Blk.new wr 209 _).drew) aG (by first|omega|(simp;done)|(simp;omega));have mT:=d5.cell 0;have mU:=d5.cell 1;have tI:=d5.frozen 0;have tJ:=d5.frozen 1;have mV:=ds.cell 0;have mW:=ds.cell 1;simp only[xq0,xq1,xq2]at mT mU mV mW
     go_wp2_with fail
     refine⟨⟨1,by omega,by go_num,by exact bel2,by exact blk3,by exact blk3,?_,by exact blk3,by exact blk3,by exact blk3⟩,by simp[intOf]⟩
     rw[oL];have hT:(t0,t1)=((0:Int),(1:Int)):=by rw[HS.out];unfold better;rw[if_neg (by simp)]
     rw[hT]
     exact d5
    ·have z2:(ep == 0)=false:=by simp[z1]
     have z3:u0+a-n0<0:=by omega
     go_wp2_with fail
     go_region
     go_wp2_with fail
     refine(hl _).mono ?_
     rintro e w5 ⟨rfl,aG⟩
     have eM:Bw w w5:=qac (by exact bel2) aG;have d3:Blk w5 w.heap.size 178 #[vI num,.string cw,vI a,vI b,vI sx]:=Blk.below (by exact blk3) aG (by first|omega|(simp;done)|(simp;omega));have d4:Blk w5 (w.heap.size+1) 209 #[vI 0,vI 0]:=Blk.below (by exact blk3) aG (by first|omega|(simp;done)|(simp;omega));have d5:Blk w5 (w.heap.size+1+1) 209 #[vI (0:Int),vI (1:Int)]:=Blk.below (by exact blk3) aG (by first|omega|(simp;done)|(simp;omega));have d6:Blk w5 g6 35 #[vI n0,vI n1]:=Blk.below (by exact blk3) aG (by first|omega|(simp;done)|(simp;omega));have d7:Blk w5 g7 35 #[vI u0,vI u1]:=Blk.below (by exact blk3) aG (by first|omega|(simp;done)|(simp;omega));have d8:Blk w5 g8 35 #[vI ep,vI et]:=Blk.below (by exact blk3) aG (by first|omega|(simp;done)|(simp;omega));have ds:Blk w5 wr.heap.size 209 #[vI (0),vI (1)]:=Blk.below (by exact(Blk.new wr 209 _).drew) aG (by first|omega|(simp;done)|(simp;omega));have mT:=d5.cell 0;have mU:=d5.cell 1;have tI:=d5.frozen 0;have tJ:=d5.frozen 1;have mV:=ds.cell 0;have mW:=ds.cell 1;simp only[xq0,xq1,xq2]at mT mU mV mW
     go_wp2_with fail
     refine⟨⟨1,by omega,by go_num,by exact bel2,by exact blk3,by exact blk3,?_,by exact blk3,by exact blk3,by exact blk3⟩,by simp[intOf]⟩
     rw[oL];have hT:(t0,t1)=((0:Int),(1:Int)):=by rw[HS.out];unfold better;rw[if_neg (by simp)]
     rw[hT]
     exact d5
   ·have hs:shr u0 a n0 ep=(u0+a-n0,ep):=by unfold shr;rw[if_neg z0]
    have hl:=fun W=>qe9 (0:Int) (1:Int) (u0+a-n0) ep (by omega) (by omega) (by omega) (by omega) W
    have lO:(t0,t1)=better ((0:Int),(1:Int)) (u0+a-n0,ep):=by have h1:=HT.out;rw[hs]at h1;exact h1
    have HS:Hid ((t0,t1)=better ((0:Int),(1:Int)) (u0+a-n0,ep)):=lO;clear HT hs lO;have z2:(ep == 0)=false:=by simp;omega
    have z3:¬(u0+a-n0<0):=by omega
    by_cases hm:(0:Int)*ep<(u0+a-n0)*(1:Int)
    ·rw[decide_eq_true hm]at hl;have HM:Hid ((0:Int)*ep<(u0+a-n0)*(1:Int)):=hm;clear hm
     go_wp2_with fail
     go_region
     go_wp2_with fail
     refine(hl _).mono ?_
     rintro e w5 ⟨rfl,aG⟩
     have eM:Bw w w5:=qac (by exact bel2) aG;have d3:Blk w5 w.heap.size 178 #[vI num,.string cw,vI a,vI b,vI sx]:=Blk.below (by exact blk3) aG (by first|omega|(simp;done)|(simp;omega));have d4:Blk w5 (w.heap.size+1) 209 #[vI 0,vI 0]:=Blk.below (by exact blk3) aG (by first|omega|(simp;done)|(simp;omega));have d5:Blk w5 (w.heap.size+1+1) 209 #[vI (0:Int),vI (1:Int)]:=Blk.below (by exact blk3) aG (by first|omega|(simp;done)|(simp;omega));have d6:Blk w5 g6 35 #[vI n0,vI n1]:=Blk.below (by exact blk3) aG (by first|omega|(simp;done)|(simp;omega));have d7:Blk w5 g7 35 #[vI u0,vI u1]:=Blk.below (by exact blk3) aG (by first|omega|(simp;done)|(simp;omega));have d8:Blk w5 g8 35 #[vI ep,vI et]:=Blk.below (by exact blk3) aG (by first|omega|(simp;done)|(simp;omega));have ds:Blk w5 wr.heap.size 209 #[vI (u0+a-n0),vI (ep)]:=Blk.below (by exact(Blk.new wr 209 _).drew) aG (by first|omega|(simp;done)|(simp;omega));have mT:=d5.cell 0;have mU:=d5.cell 1;have tI:=d5.frozen 0;have tJ:=d5.frozen 1;have mV:=ds.cell 0;have mW:=ds.cell 1;simp only[xq0,xq1,xq2]at mT mU mV mW
     go_wp2_with fail
     refine⟨⟨1,by omega,by go_num,by exact bel2,by exact blk3,by exact blk3,?_,by exact blk3,by exact blk3,by exact blk3⟩,by simp[intOf]⟩
     rw[oL];have hT:(t0,t1)=(u0+a-n0,ep):=by rw[HS.out];unfold better;rw[if_pos (by have:=HM.out;simp only;omega)]
     rw[hT]
     simpa using ((d5.set 0 (vI (u0+a-n0))).set 1 (vI (ep)))
    ·rw[decide_eq_false hm]at hl;have HM:Hid (¬(0:Int)*ep<(u0+a-n0)*(1:Int)):=hm;clear hm
     go_wp2_with fail
     go_region
     go_wp2_with fail
     refine(hl _).mono ?_
     rintro e w5 ⟨rfl,aG⟩
     have eM:Bw w w5:=qac (by exact bel2) aG;have d3:Blk w5 w.heap.size 178 #[vI num,.string cw,vI a,vI b,vI sx]:=Blk.below (by exact blk3) aG (by first|omega|(simp;done)|(simp;omega));have d4:Blk w5 (w.heap.size+1) 209 #[vI 0,vI 0]:=Blk.below (by exact blk3) aG (by first|omega|(simp;done)|(simp;omega));have d5:Blk w5 (w.heap.size+1+1) 209 #[vI (0:Int),vI (1:Int)]:=Blk.below (by exact blk3) aG (by first|omega|(simp;done)|(simp;omega));have d6:Blk w5 g6 35 #[vI n0,vI n1]:=Blk.below (by exact blk3) aG (by first|omega|(simp;done)|(simp;omega));have d7:Blk w5 g7 35 #[vI u0,vI u1]:=Blk.below (by exact blk3) aG (by first|omega|(simp;done)|(simp;omega));have d8:Blk w5 g8 35 #[vI ep,vI et]:=Blk.below (by exact blk3) aG (by first|omega|(simp;done)|(simp;omega));have ds:Blk w5 wr.heap.size 209 #[vI (u0+a-n0),vI (ep)]:=Blk.below (by exact(Blk.new wr 209 _).drew) aG (by first|omega|(simp;done)|(simp;omega));have mT:=d5.cell 0;have mU:=d5.cell 1;have tI:=d5.frozen 0;have tJ:=d5.frozen 1;have mV:=ds.cell 0;have mW:=ds.cell 1;simp only[xq0,xq1,xq2]at mT mU mV mW
     go_wp2_with fail
     refine⟨⟨1,by omega,by go_num,by exact bel2,by exact blk3,by exact blk3,?_,by exact blk3,by exact blk3,by exact blk3⟩,by simp[intOf]⟩
     rw[oL];have hT:(t0,t1)=((0:Int),(1:Int)):=by rw[HS.out];unfold better;rw[if_neg (by have:=HM.out;simp only;omega)]
     rw[hT]
     exact d5
  ·-- round 1
   have x3:=c3.cell 3;have x6:=c6.cell 1;have x7:=c7.cell 1;have x8:=c8.cell 1;rw[oL]at c5;have qK:=c5.cell 0;have qL:=c5.cell 1;have m3:=c3.lt;have m4:=c4.lt;have m5:=c5.lt;have m6:=c6.lt;have m7:=c7.lt;have m8:=c8.lt;simp only[xq0,xq1,xq2]at x3 x6 x7 x8 qK qL;have HT:Hid ((v0,v1)=better (t0,t1) (shr u1 b n1 et)):=oD.out;have hz:=ae.size
   by_cases z0:et=0\/u1+b-n1<0
   ·have hs:shr u1 b n1 et=(0,1):=by unfold shr;rw[if_pos z0]
    have hl:=fun W=>qe9 t0 t1 0 1 (by omega) (by omega) (by omega) (by omega) W
    have lO:(v0,v1)=better (t0,t1) (0,1):=by have h1:=HT.out;rw[hs]at h1;exact h1
    have HS:Hid ((v0,v1)=better (t0,t1) (0,1)):=lO;clear HT hs lO;have z1:et=0\/¬(et=0):=by omega
    have hm:¬(t0*1<0*t1):=by omega
    rw[decide_eq_false hm]at hl
    rcases z1 with z1|z1
    ·have z2:(et == 0)=true:=by simp[z1]
     clear z1 z0
     go_wp2_with fail
     go_region
     go_wp2_with fail
     refine(hl _).mono ?_
     rintro e w5 ⟨rfl,aG⟩
     have eM:Bw w w5:=qac (by exact bel2) aG;have d3:Blk w5 w.heap.size 178 #[vI num,.string cw,vI a,vI b,vI sx]:=Blk.below (by exact blk3) aG (by first|omega|(simp;done)|(simp;omega));have d4:Blk w5 (w.heap.size+1) 209 #[vI 0,vI 0]:=Blk.below (by exact blk3) aG (by first|omega|(simp;done)|(simp;omega));have d5:Blk w5 (w.heap.size+1+1) 209 #[vI t0,vI t1]:=Blk.below (by exact blk3) aG (by first|omega|(simp;done)|(simp;omega));have d6:Blk w5 g6 35 #[vI n0,vI n1]:=Blk.below (by exact blk3) aG (by first|omega|(simp;done)|(simp;omega));have d7:Blk w5 g7 35 #[vI u0,vI u1]:=Blk.below (by exact blk3) aG (by first|omega|(simp;done)|(simp;omega));have d8:Blk w5 g8 35 #[vI ep,vI et]:=Blk.below (by exact blk3) aG (by first|omega|(simp;done)|(simp;omega));have ds:Blk w5 wr.heap.size 209 #[vI (0),vI (1)]:=Blk.below (by exact(Blk.new wr 209 _).drew) aG (by first|omega|(simp;done)|(simp;omega));have mT:=d5.cell 0;have mU:=d5.cell 1;have tI:=d5.frozen 0;have tJ:=d5.frozen 1;have mV:=ds.cell 0;have mW:=ds.cell 1;simp only[xq0,xq1,xq2]at mT mU mV mW
     go_wp2_with fail
     refine⟨⟨2,by omega,by go_num,by exact bel2,by exact blk3,by exact blk3,?_,by exact blk3,by exact blk3,by exact blk3⟩,by simp[intOf]⟩
     rw[oM];have hT:(v0,v1)=(t0,t1):=by rw[HS.out];unfold better;rw[if_neg (by simp only;omega)]
     rw[hT]
     exact d5
    ·have z2:(et == 0)=false:=by simp[z1]
     have z3:u1+b-n1<0:=by omega
     go_wp2_with fail
     go_region
     go_wp2_with fail
     refine(hl _).mono ?_
     rintro e w5 ⟨rfl,aG⟩
     have eM:Bw w w5:=qac (by exact bel2) aG;have d3:Blk w5 w.heap.size 178 #[vI num,.string cw,vI a,vI b,vI sx]:=Blk.below (by exact blk3) aG (by first|omega|(simp;done)|(simp;omega));have d4:Blk w5 (w.heap.size+1) 209 #[vI 0,vI 0]:=Blk.below (by exact blk3) aG (by first|omega|(simp;done)|(simp;omega));have d5:Blk w5 (w.heap.size+1+1) 209 #[vI t0,vI t1]:=Blk.below (by exact blk3) aG (by first|omega|(simp;done)|(simp;omega));have d6:Blk w5 g6 35 #[vI n0,vI n1]:=Blk.below (by exact blk3) aG (by first|omega|(simp;done)|(simp;omega));have d7:Blk w5 g7 35 #[vI u0,vI u1]:=Blk.below (by exact blk3) aG (by first|omega|(simp;done)|(simp;omega));have d8:Blk w5 g8 35 #[vI ep,vI et]:=Blk.below (by exact blk3) aG (by first|omega|(simp;done)|(simp;omega));have ds:Blk w5 wr.heap.size 209 #[vI (0),vI (1)]:=Blk.below (by exact(Blk.new wr 209 _).drew) aG (by first|omega|(simp;done)|(simp;omega));have mT:=d5.cell 0;have mU:=d5.cell 1;have tI:=d5.frozen 0;have tJ:=d5.frozen 1;have mV:=ds.cell 0;have mW:=ds.cell 1;simp only[xq0,xq1,xq2]at mT mU mV mW
     go_wp2_with fail
     refine⟨⟨2,by omega,by go_num,by exact bel2,by exact blk3,by exact blk3,?_,by exact blk3,by exact blk3,by exact blk3⟩,by simp[intOf]⟩
     rw[oM];have hT:(v0,v1)=(t0,t1):=by rw[HS.out];unfold better;rw[if_neg (by simp only;omega)]
     rw[hT]
     exact d5
   ·have hs:shr u1 b n1 et=(u1+b-n1,et):=by unfold shr;rw[if_neg z0]
    have hl:=fun W=>qe9 t0 t1 (u1+b-n1) et (by omega) (by omega) (by omega) (by omega) W
    have lO:(v0,v1)=better (t0,t1) (u1+b-n1,et):=by have h1:=HT.out;rw[hs]at h1;exact h1
    have HS:Hid ((v0,v1)=better (t0,t1) (u1+b-n1,et)):=lO;clear HT hs lO;have z2:(et == 0)=false:=by simp;omega
    have z3:¬(u1+b-n1<0):=by omega
    by_cases hm:t0*et<(u1+b-n1)*t1
    ·rw[decide_eq_true hm]at hl;have HM:Hid (t0*et<(u1+b-n1)*t1):=hm;clear hm
     go_wp2_with fail
     go_region
     go_wp2_with fail
     refine(hl _).mono ?_
     rintro e w5 ⟨rfl,aG⟩
     have eM:Bw w w5:=qac (by exact bel2) aG;have d3:Blk w5 w.heap.size 178 #[vI num,.string cw,vI a,vI b,vI sx]:=Blk.below (by exact blk3) aG (by first|omega|(simp;done)|(simp;omega));have d4:Blk w5 (w.heap.size+1) 209 #[vI 0,vI 0]:=Blk.below (by exact blk3) aG (by first|omega|(simp;done)|(simp;omega));have d5:Blk w5 (w.heap.size+1+1) 209 #[vI t0,vI t1]:=Blk.below (by exact blk3) aG (by first|omega|(simp;done)|(simp;omega));have d6:Blk w5 g6 35 #[vI n0,vI n1]:=Blk.below (by exact blk3) aG (by first|omega|(simp;done)|(simp;omega));have d7:Blk w5 g7 35 #[vI u0,vI u1]:=Blk.below (by exact blk3) aG (by first|omega|(simp;done)|(simp;omega));have d8:Blk w5 g8 35 #[vI ep,vI et]:=Blk.below (by exact blk3) aG (by first|omega|(simp;done)|(simp;omega));have ds:Blk w5 wr.heap.size 209 #[vI (u1+b-n1),vI (et)]:=Blk.below (by exact(Blk.new wr 209 _).drew) aG (by first|omega|(simp;done)|(simp;omega));have mT:=d5.cell 0;have mU:=d5.cell 1;have tI:=d5.frozen 0;have tJ:=d5.frozen 1;have mV:=ds.cell 0;have mW:=ds.cell 1;simp only[xq0,xq1,xq2]at mT mU mV mW
     go_wp2_with fail
     refine⟨⟨2,by omega,by go_num,by exact bel2,by exact blk3,by exact blk3,?_,by exact blk3,by exact blk3,by exact blk3⟩,by simp[intOf]⟩
     rw[oM];have hT:(v0,v1)=(u1+b-n1,et):=by rw[HS.out];unfold better;rw[if_pos (by have:=HM.out;simp only;omega)]
     rw[hT]
     simpa using ((d5.set 0 (vI (u1+b-n1))).set 1 (vI (et)))
    ·rw[decide_eq_false hm]at hl;have HM:Hid (¬t0*et<(u1+b-n1)*t1):=hm;clear hm
     go_wp2_with fail
     go_region
     go_wp2_with fail
     refine(hl _).mono ?_
     rintro e w5 ⟨rfl,aG⟩
     have eM:Bw w w5:=qac (by exact bel2) aG;have d3:Blk w5 w.heap.size 178 #[vI num,.string cw,vI a,vI b,vI sx]:=Blk.below (by exact blk3) aG (by first|omega|(simp;done)|(simp;omega));have d4:Blk w5 (w.heap.size+1) 209 #[vI 0,vI 0]:=Blk.below (by exact blk3) aG (by first|omega|(simp;done)|(simp;omega));have d5:Blk w5 (w.heap.size+1+1) 209 #[vI t0,vI t1]:=Blk.below (by exact blk3) aG (by first|omega|(simp;done)|(simp;omega));have d6:Blk w5 g6 35 #[vI n0,vI n1]:=Blk.below (by exact blk3) aG (by first|omega|(simp;done)|(simp;omega));have d7:Blk w5 g7 35 #[vI u0,vI u1]:=Blk.below (by exact blk3) aG (by first|omega|(simp;done)|(simp;omega));have d8:Blk w5 g8 35 #[vI ep,vI et]:=Blk.below (by exact blk3) aG (by first|omega|(simp;done)|(simp;omega));have ds:Blk w5 wr.heap.size 209 #[vI (u1+b-n1),vI (et)]:=Blk.below (by exact(Blk.new wr 209 _).drew) aG (by first|omega|(simp;done)|(simp;omega));have mT:=d5.cell 0;have mU:=d5.cell 1;have tI:=d5.frozen 0;have tJ:=d5.frozen 1;have mV:=ds.cell 0;have mW:=ds.cell 1;simp only[xq0,xq1,xq2]at mT mU mV mW
     go_wp2_with fail
     refine⟨⟨2,by omega,by go_num,by exact bel2,by exact blk3,by exact blk3,?_,by exact blk3,by exact blk3,by exact blk3⟩,by simp[intOf]⟩
     rw[oM];have hT:(v0,v1)=(t0,t1):=by rw[HS.out];unfold better;rw[if_neg (by have:=HM.out;simp only;omega)]
     rw[hT]
     exact d5
  ·have qK:=c5.cell 0;have qL:=c5.cell 1;have E3:=c4.cell 0;have E4:=c4.cell 1;have LP:=c4.frozen 0;have LQ:=c4.frozen 1;rw[oM]at qK qL;simp only[xq0,xq1,xq2]at qK qL E3 E4
   go_wp2_with fail
   have qO:=(c4.set 0 (vI v0)).set 1 (vI v1);have fR:=qO.cell
   refine xrn (v:=.agg #[vI v0,vI v1]) ?_ rfl ⟨rfl,by exact bel2⟩
   simp[results,results160,go_sem,fR]
end Go.Proofs.YtphclnolomgjoaaGreatDoor
