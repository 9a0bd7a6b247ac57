import Derived.Test.YtphclnolomgjoaaGreatDoorE06
set_option linter.unusedVariables false
set_option linter.unusedSimpArgs false
set_option maxRecDepth 100000
set_option maxHeartbeats 4000000
namespace Go.Proofs.YtphclnolomgjoaaGreatDoor
open Tryz
open Go.RowKit
variable {W w wA:World}{B b a br cW cap cap' g' c n size:Nat}{z1 z2 z3 z4 z5 d z7 z8:Value}{vs:Array Value}{e:TypeId}{xs:List Value}{Ws:List Wk}{zb:List Bs}{y:Wk}{ao:Option Addr}{st zo:Int}
theorem ZJ{t:TypeId}{l:Value}(h:zg W b t #[l,z1,z2,z3,z4,z5,d,z7,z8])(a c e v3 f g i j k:Value):
  zg (((((((((W.setCell (vA b 0) a).setCell (vA b 1) c).setCell (vA b 2) e).setCell (vA b 3) v3).setCell (vA b 4) f).setCell (vA b 5) g).setCell (vA b 6) i).setCell (vA b 7) j).setCell (vA b 8) k) b t #[a,c,e,v3,f,g,i,j,k]:=by
 have:=(((((((((h.set 0 a).set 1 c).set 2 e).set 3 v3).set 4 f).set 5 g).set 6 i).set 7 j).set 8 k)
 simp only[UF,UE,UD]at this
 exact this
theorem cj{t:TypeId}(h:zg W b t vs)(hb:b≠a)(c d e v3 f g i j k:Value):zg (((((((((W.setCell (vA a 0) c).setCell (vA a 1) d).setCell (vA a 2) e).setCell (vA a 3) v3).setCell (vA a 4) f).setCell (vA a 5) g).setCell (vA a 6) i).setCell (vA a 7) j).setCell (vA a 8) k) b t vs :=
 (((((((((h.other _ _ hb).other _ _ hb).other _ _ hb).other _ _ hb).other _ _ hb).other _ _ hb).other _ _ hb).other _ _ hb).other _ _ hb)
theorem ZE(h:Below B w W)(hb:B<=a)(b c d v3 e f g i j:Value):Below B w (((((((((W.setCell (vA a 0) b).setCell (vA a 1) c).setCell (vA a 2) d).setCell (vA a 3) v3).setCell (vA a 4) e).setCell (vA a 5) f).setCell (vA a 6) g).setCell (vA a 7) i).setCell (vA a 8) j) :=
 (((((((((h.setCell hb _).setCell hb _).setCell hb _).setCell hb _).setCell hb _).setCell hb _).setCell hb _).setCell hb _).setCell hb _)
theorem fi{sl:Value}(h:W.ownsRow 0 e size sl n xs)(hb:sl.ownBlock≠some a)(b c d v3 f g i j k:Value):(((((((((W.setCell (vA a 0) b).setCell (vA a 1) c).setCell (vA a 2) d).setCell (vA a 3) v3).setCell (vA a 4) f).setCell (vA a 5) g).setCell (vA a 6) i).setCell (vA a 7) j).setCell (vA a 8) k).ownsRow 0 e size sl n xs :=
 UQ (UQ (UQ (UQ (UQ (UQ (UQ (UQ (UQ h hb _) hb _) hb _) hb _) hb _) hb _) hb _) hb _) hb _
def UR (Ws:List Wk)(zb:List Bs)(k:Nat):List Wk:=(Ws.take k).filter fun y=>decide (y.zb=zb)&&(y.st == 0)
def WJ (l:List Wk):List Value:=l.map fun y=>vI y.zm
theorem nA{k:Nat}(a:Ws[k]?=some y):UR Ws zb (k+1)=UR Ws zb k++(if decide (y.zb=zb)&&(y.st == 0) then [y] else []):=by
 have b:=(Uy.1 a).1;unfold UR;rw[VT b,List.filter_append];rw[Ur b]at a;cases a
 simp[VW]
theorem ar{sl:Value}{t:TypeId}(d:W.ownsRow 0 e size sl n xs)(hb:zg W b t vs)(ht:t≠e):sl.ownBlock≠some b:=by
 intro c
 rcases d.2 with ⟨rfl,_⟩|⟨g,cap,f,rfl,_,a,_⟩
 ·cases c
 ·simp[Value.ownBlock]at c
  subst c;rw[show W.heap[g]?=_ from hb]at a;injection a with a;injection a with _ a _
  exact ht a
theorem YN{sl:Value}(h:Bw w W)(k:zd (fun b=>sl.ownBlock=some b) W wA)(c:∀b,sl.ownBlock=some b->w.heap.size<=b):Bw w wA :=
 ⟨k.os.trans h.os,k.tape.trans h.tape,k.output.trans h.output,Nat.le_trans h.size k.size,fun i a=>(k.block i (VJ a h.size) (fun e=>by have:=c i e;omega)).trans (h.block i a)⟩
theorem bnew{sl:Value}(h:Bw w W)(d:sl.ownBlock=some c\/W.heap.size<=c)(a:∀b,sl.ownBlock=some b->w.heap.size<=b):w.heap.size<=c:=by
 rcases d with e|e
 ·exact a c e
 ·exact Nat.le_trans h.size e
theorem iu{t:TypeId}{sl:Value}(h:W.ownsRow 0 t size sl n xs):∃ao cap,sl=.slice ao n cap/\n<=cap/\cap<=maxLen:=by
 rcases h.2 with ⟨rfl,rfl⟩|⟨g,cap,c,rfl,_,_,a,b,_⟩
 ·exact⟨none,0,rfl,Nat.le_refl _,Nat.zero_le _⟩
 ·exact⟨_,cap,rfl,a,b⟩
theorem jy{g:Nat}{L:List zx}(h:zy w br g cap L ao cW Ws zo st)(E:ym L)(ka:xm Ws)(i:Nat)(x:zx)(m:L[i]?=some x):
  Calls prog 164 #[vP br,vI i] w fun e w'=>∃l,e=vR (.agg #[vG (sb (kN x.zb)),.bool x.zj,vI (xj (Uz L (kN x.zb))),vI (xi (Uz L (kN x.zb))),vI x.b0,vI x.b1,vI (yf (Ut Ws (kN x.zb))),vI (yg (Ut Ws (kN x.zb))),l])/\w'.ownsRow 0 3 1 l (UR Ws x.zb Ws.length).length (WJ (UR Ws x.zb Ws.length))/\(∀b,l.ownBlock=some b->w.heap.size<=b)/\Bw w w':=by
 have Nc:=h.ref.zl.lt;have Oc:=(h.ref.row.lt g rfl).2;have sa:=fun W (I:Bw w W)=>Zr (h.ref.below I) E (sb (kN x.zb)) (E.small (Uq m))
 rw[UO]at sa;have ua:=fun W (I:Bw w W)=>Z1 (h.below I) ka (sb (kN x.zb)) (E.small (Uq m))
 rw[UO]at ua;have X:=fun W (I:Bw w W)=>((h.ref.below I).zl.cell 1)
 have ra:=h.ref.zl.cell 0;simp only[s7]at ra X;have bb:i<L.length:=(Uy.1 m).1;have yb:=E.len;have ba:=h.ref.zq m (j:=0) (v:=vG (sb (kN x.zb))) rfl;have ca:=h.ref.zq m (j:=1) (v:=.bool x.zj) rfl;have Ca:=h.ref.zq m (j:=2) (v:=vI x.n0) rfl;have Da:=h.ref.zq m (j:=3) (v:=vI x.n1) rfl;have Ea:=h.ref.zq m (j:=4) (v:=vI x.b0) rfl;have mc:=h.ref.zq m (j:=5) (v:=vI x.b1) rfl;simp only[Nat.add_zero]at ba;have Yb:UL x.zb=true:=(E.ok x (Uq m)).1;have Xb:=ka.len;obtain⟨o,na⟩:∃o,o=Ws.length:=⟨_,rfl⟩;rw[<-na]at Xb X;have la:Hid (o=Ws.length):=na;clear na m E;obtain⟨n,Oa⟩:∃n,n=L.length:=⟨_,rfl⟩;rw[<-Oa]at bb yb ra;clear Oa;have Wa:Hid (∀y∈Ws,((sb (kN y.zb)).toList == (sb (kN x.zb)).toList)=decide (y.zb=x.zb)):=by
  show ∀y∈Ws,_
  intro y S;rw[YM,UO,UO]
  by_cases e:y.zb=x.zb
  ·simp[e]
  ·have:kN y.zb≠kN x.zb:=fun Hb=>e (Y0 (ka.ok y S).1 Yb Hb)
   simp[e,this]
 generalize yf (Ut Ws (kN x.zb))=K at *;generalize yg (Ut Ws (kN x.zb))=M at *;generalize xj (Uz L (kN x.zb))=s0 at *;generalize xi (Uz L (kN x.zb))=J at *;generalize sb (kN x.zb)=f at *;have jd:(0:Int)<=i:=o_;have gd:(i:Int)<n:=o_;have ma:zg ((w.alloc (.cells #[vG ⟨#[]⟩,.bool false,vI 0,vI 0,vI 0,vI 0,vI 0,vI 0,v0_] 37)).alloc (.cells #[vG f,.bool x.zj,vI x.n0,vI x.n1,vI x.b0,vI x.b1] 163)) w.heap.size 37 #[vG ⟨#[]⟩,.bool false,vI 0,vI 0,vI 0,vI 0,vI 0,vI 0,v0_]:=(zg.new w 37 _).alloc _;have N:zg ((w.alloc (.cells #[vG ⟨#[]⟩,.bool false,vI 0,vI 0,vI 0,vI 0,vI 0,vI 0,v0_] 37)).alloc (.cells #[vG f,.bool x.zj,vI x.n0,vI x.n1,vI x.b0,vI x.b1] 163)) (w.heap.size+1) 163 #[vG f,.bool x.zj,vI x.n0,vI x.n1,vI x.b0,vI x.b1]:=zg.new' s_
 go_enter func164,ntmps164
 go_upto_region 2 with fail
 clear ba ca Ca Da Ea mc ra;have pa:Bw w ((w.alloc (.cells #[vG ⟨#[]⟩,.bool false,vI 0,vI 0,vI 0,vI 0,vI 0,vI 0,v0_] 37)).alloc (.cells #[vG f,.bool x.zj,vI x.n0,vI x.n1,vI x.b0,vI x.b1] 163)):=cl;have Fa:((w.alloc (.cells #[vG ⟨#[]⟩,.bool false,vI 0,vI 0,vI 0,vI 0,vI 0,vI 0,v0_] 37)).alloc (.cells #[vG f,.bool x.zj,vI x.n0,vI x.n1,vI x.b0,vI x.b1] 163)).heap.size=w.heap.size+2:=s_;generalize ((w.alloc (.cells #[vG ⟨#[]⟩,.bool false,vI 0,vI 0,vI 0,vI 0,vI 0,vI 0,v0_] 37)).alloc (.cells #[vG f,.bool x.zj,vI x.n0,vI x.n1,vI x.b0,vI x.b1] 163))=O at N ma pa Fa ⊢;have d0:=N.cell 0;have d1:=N.cell 1;have Ja:=N.cell 4;have Ka:=N.cell 5;have Gc:=ma.lt;have gb:=N.lt;have Va:=pa.size;simp only[s7]at d0 d1 Ja Ka;clear Fa;have Uc:¬(br=O.heap.size):=o_;have Za:¬(w.heap.size=O.heap.size):=o_;have ib:¬(w.heap.size+1=O.heap.size):=o_;have wc:¬(O.heap.size=w.heap.size+1):=o_
 go_cut [6] from 15 to 29 (fun q ja=>∃a,q=vP a/\Bw w ja/\zg ja w.heap.size 37 #[vG ⟨#[]⟩,.bool false,vI 0,vI 0,vI 0,vI 0,vI 0,vI 0,v0_]/\zg ja a 37 #[vG f,.bool x.zj,vI s0,vI J,vI x.b0,vI x.b1,vI K,vI M,v0_]/\w.heap.size+1<a/\zg ja (w.heap.size+1) 163 #[vG f,.bool x.zj,vI x.n0,vI x.n1,vI x.b0,vI x.b1])
 case first =>
  go_region_held3 (fun w'=>w'.cell? (vA (w.heap.size+1) 0)=some (vG f)/\w'.cell? (vA (w.heap.size+1) 1)=some (.bool x.zj)/\w'.cell? (vA (w.heap.size+1) 4)=some (vI x.b0)/\w'.cell? (vA (w.heap.size+1) 5)=some (vI x.b1)) (go_keep)
   (first
   |(go_at_call 203;refine(sa _ ?_).mono ?_;(focus exact cl);rintro e r ⟨rfl,da⟩;have ob:Bw w r:=s5 cl da;have aa:zg r (w.heap.size+1) 163 #[vG f,.bool x.zj,vI x.n0,vI x.n1,vI x.b0,vI x.b1]:=zg.below s6 da g_;have qc:zg r w.heap.size 37 #[vG ⟨#[]⟩,.bool false,vI 0,vI 0,vI 0,vI 0,vI 0,vI 0,v0_]:=zg.below s6 da g_;have Fb:=aa.cell 0;have Gb:=aa.cell 1;have Ib:=aa.cell 4;have Jb:=aa.cell 5;have l4:=qc.lt;have Zb:=aa.lt;have vb:=ob.size;have Vc:¬(br=r.heap.size):=o_;have kb:¬(w.heap.size=r.heap.size):=o_;have Cc:br<r.heap.size:=o_;have jb:¬(w.heap.size+1=r.heap.size):=o_;have Ac:¬(r.heap.size=w.heap.size+1):=o_;simp only[s7]at Fb Gb Ib Jb;(try (have Na:zg r O.heap.size 37 #[vG ⟨#[]⟩,.bool false,vI 0,vI 0,vI 0,vI 0,vI 0,vI 0,v0_]:=zg.below (by first|(with_reducible exact zg.new' s_)|(with_reducible exact zg.drew (zg.new' s_))) da s_;have Yc:=Na.lt)))
   |(go_at_call 204;refine(ua _ ?_).mono ?_;(focus exact cl);rintro e s ⟨rfl,Y⟩;have Z:Bw w s:=s5 cl Y;have B:zg s (w.heap.size+1) 163 #[vG f,.bool x.zj,vI x.n0,vI x.n1,vI x.b0,vI x.b1]:=zg.below s6 Y g_;have ia:zg s w.heap.size 37 #[vG ⟨#[]⟩,.bool false,vI 0,vI 0,vI 0,vI 0,vI 0,vI 0,v0_]:=zg.below s6 Y g_;have Kb:=B.cell 0;have Lb:=B.cell 1;have z:=B.cell 4;have G:=B.cell 5;have Zc:=ia.lt;have fc:=B.lt;have Cb:=Z.size;have Wc:¬(br=s.heap.size):=o_;have Fc:¬(w.heap.size=s.heap.size):=o_;have Dc:br<s.heap.size:=o_;have Hc:¬(w.heap.size+1=s.heap.size):=o_;have Bc:¬(s.heap.size=w.heap.size+1):=o_;simp only[s7]at Kb Lb z G;(try (have t:zg s O.heap.size 37 #[vG ⟨#[]⟩,.bool false,vI 0,vI 0,vI 0,vI 0,vI 0,vI 0,v0_]:=zg.below (by with_reducible exact Na) Y o_;have rb:=t.cell;have ta:=t.frozen;have Ya:=t.lt));(try (have t:zg s r.heap.size 37 #[vG ⟨#[]⟩,.bool false,vI 0,vI 0,vI 0,vI 0,vI 0,vI 0,v0_]:=zg.below (by first|(with_reducible exact zg.new' s_)|(with_reducible exact zg.drew (zg.new' s_))) Y s_;have rb:=t.cell;have ta:=t.frozen;have Ya:=t.lt));have Pc:=X _ Z))
  all_goals go_wp2_with fail
  ·go_meet
   exact⟨_,rfl,Z.alloc Cb _,ia.alloc _,zg.new' rfl,fc,B.alloc _⟩
  ·go_meet
   exact⟨_,rfl,ZE Z vb ..,cj ia kb ..,ZJ t ..,Zb,cj B jb ..⟩
  ·go_meet
   exact⟨_,rfl,ZE Z Va ..,cj ia Za ..,ZJ t ..,gb,cj B ib ..⟩
 case rest =>
  obtain⟨a,rfl,Eb,Xa,Vb,ed,cb⟩:=hcut;clear sa ua ma N pa d0 d1 Ja Ka
  go_wp2_with fail
  go_loopw [7] (fun j wr=>∃(k:Nat) (l:Value),k<=o/\j=vI k/\Bw w wr/\zg wr w.heap.size 37 #[vG ⟨#[]⟩,.bool false,vI 0,vI 0,vI 0,vI 0,vI 0,vI 0,v0_]/\zg wr (w.heap.size+1) 163 #[vG f,.bool x.zj,vI x.n0,vI x.n1,vI x.b0,vI x.b1]/\zg wr a 37 #[vG f,.bool x.zj,vI s0,vI J,vI x.b0,vI x.b1,vI K,vI M,l]/\wr.ownsRow 0 3 1 l (UR Ws x.zb k).length (WJ (UR Ws x.zb k))/\(∀b,l.ownBlock=some b->w.heap.size<=b)) (fun j _=>o-(intOf j).toNat)
  case atStart=>exact⟨0,v0_,Nat.zero_le _,rfl,Eb,Xa,cb,Vb,Vx _ _ _ _,fun b hb=>by cases hb⟩
  case round =>
   obtain⟨k,l,Tc,rfl,Q,z,G,H,A,U⟩:=hrel;have nc:=X _ Q;have Sa:=ar A H d_;have Ra:=ar A G d_;have Aa:=ar A z d_;have hc:=z.lt;have ic:=G.lt;have jc:=H.lt;obtain⟨P,R,rfl,kc,Rc⟩:=iu A
   by_cases pb:k<o
   ·have nb:k<Ws.length:=by rw[<-la.out];exact pb
    obtain⟨y,S⟩:∃y,Ws[k]?=some y:=⟨_,Ur nb⟩;have Ma:=Uq S;have D:Hid (UR Ws x.zb (k+1)=UR Ws x.zb k++(if decide (y.zb=x.zb)&&(y.st == 0) then [y] else [])):=nA S;have V:=Wa.out y Ma;obtain⟨b,La,Db,Mb,Xc,ba,ca,Ca,Da,Ea⟩:=(h.below Q).wk S;have vc:b<w.heap.size:=UI h.yc (by rw[La];rfl);subst La;rw[<-la.out]at Mb;have qb:(UR Ws x.zb k).length<=24:=Nat.le_trans (Wt _ _) t_;have z5:=G.cell 0;have d:=H.cell 8;have ta:=H.frozen 8;simp only[s7]at z5 d;have dd:(k:Int)<o:=o_;have Sc:(0:Int)<=k:=o_;clear S Ma Ca Da;have qa:Hid (∀w',Bw w w'->zg w' w.heap.size 37 #[vG ⟨#[]⟩,.bool false,vI 0,vI 0,vI 0,vI 0,vI 0,vI 0,v0_]->zg w' (w.heap.size+1) 163 #[vG f,.bool x.zj,vI x.n0,vI x.n1,vI x.b0,vI x.b1]->zg w' a 37 #[vG f,.bool x.zj,vI s0,vI J,vI x.b0,vI x.b1,vI K,vI M,.slice P (UR Ws x.zb k).length R]->w'.ownsRow 0 3 1 (.slice P (UR Ws x.zb k).length R) (UR Ws x.zb k).length (WJ (UR Ws x.zb k))->UR Ws x.zb (k+1)=UR Ws x.zb k->(∃(ha:Nat) (l:Value),ha<=o/\vI ((k:Int)+1)=vI ha/\Bw w w'/\zg w' w.heap.size 37 #[vG ⟨#[]⟩,.bool false,vI 0,vI 0,vI 0,vI 0,vI 0,vI 0,v0_]/\zg w' (w.heap.size+1) 163 #[vG f,.bool x.zj,vI x.n0,vI x.n1,vI x.b0,vI x.b1]/\zg w' a 37 #[vG f,.bool x.zj,vI s0,vI J,vI x.b0,vI x.b1,vI K,vI M,l]/\w'.ownsRow 0 3 1 l (UR Ws x.zb ha).length (WJ (UR Ws x.zb ha))/\(∀b,l.ownBlock=some b->w.heap.size<=b))/\o-(intOf (vI ((k:Int)+1))).toNat<o-(intOf (vI (k:Int))).toNat):=by
     show ∀w',_
     intro w' Ob Pb h3 Qb Rb Sb
     exact⟨⟨k+1,_,o_,by go_num,Ob,Pb,h3,Qb,by rw[Sb];exact Rb,U⟩,by simp[intOf];omega⟩
    by_cases ga:y.zb=x.zb
    ·rw[decide_eq_true ga]at D V;clear ga;generalize sb (kN y.zb)=oc at ca V
     cases Ha:(y.st == 0)
     ·rw[Ha]at D
      go_wp2_with fail
      go_quiet (fail)
      go_wp2_with fail
      exact qa.out _ (UT Q _) s6 s6 s6 (s8 (T:=fun _=>False) A (zd.new (UT (Below.refl _ _) _)) (fun _ _ h=>h)) (by rw[D.out];simp)
     ·rw[Ha]at D
      go_wp2_with fail
      go_quiet (fail)
      have C:Bw wr (wr.drewN nq):=UT (Below.refl _ _) _;have Qa:Bw w (wr.drewN nq):=UT Q _;generalize wr.drewN nq=kd at C Qa ⊢;have Kc:=z.below C hc;have Lc:=G.below C ic;have oa:=H.below C jc;have yr:=s8 (T:=fun _=>False) A (zd.new C) (fun _ _ h=>h);have tc:=X _ Qa;have Ec:=(C.cell (p:=vA b (k*5)) Db).trans ba;have Ua:=oa.cell 8;have cd:=oa.lt;simp only[s7]at Ua;have sc:=C.size;clear z G H nc ba ca Ea z5 d ta V C;obtain⟨ln,Ba⟩:∃ln,ln=(UR Ws x.zb k).length:=⟨_,rfl⟩;have ab:Hid (ln=(UR Ws x.zb k).length):=Ba;rw[<-Ba]at oa yr Ua qb kc Aa Ra Sa U;have Bb:=fun W' (Ub:W'.ownsRow 0 3 1 (.slice P ln R) ln (WJ (UR Ws x.zb k))) Ta (Ab:zg W' Ta 3 #[vI y.zm]) =>
       Wv un29 inf3 o_ W' _ ln _ Ub Ta 1 1 o_ [vI y.zm] rfl Ab (by intro u Pa;simp at Pa;subst Pa;rfl) (by unfold maxLen;omega) o_
      clear Ba qa A
      go_wp2_with fail
      go_region_law (first
       |(refine WL rfl (.tmp 62) (.tmp 71) 25 25 rfl _ _ ?_ ?_ (Bb _ ?_ ?_ ?_) ?_;(focus (simp[Act.eval,Act.put]));(focus ((try simp[Act.eval,Act.put]);(try rfl)));(focus (exact s8 (T:=fun _=>False) yr (zd.new cl) (fun _ _ h=>h)));(focus exact s6);rintro vA wA ⟨c,Ia,rfl,F⟩;have ea:=zg.zf (show zg _ a 37 #[vG f,.bool x.zj,vI s0,vI J,vI x.b0,vI x.b1,vI K,vI M,.slice P ln R] by exact s6) F.zf Sa;have db:=zg.zf (show zg _ w.heap.size 37 #[vG ⟨#[]⟩,.bool false,vI 0,vI 0,vI 0,vI 0,vI 0,vI 0,v0_] by exact s6) F.zf Aa;have eb:=zg.zf (show zg _ (w.heap.size+1) 163 #[vG f,.bool x.zj,vI x.n0,vI x.n1,vI x.b0,vI x.b1] by exact s6) F.zf Ra;have Nb:Bw w wA:=YN cl F.zf U;have cc:w.heap.size<=c:=bnew cl F.new U;have cA:=ea.cell 8;have Qc:=ea.frozen 8;simp only[s7]at cA))
      all_goals go_wp2_with fail
      all_goals
       refine⟨⟨k+1,vS c (ln+1) Ia,o_,by go_num,Nb.setCell t_ _,db.other _ _ t_,eb.other _ _ t_,by simpa using ea.set 8 (vS c (ln+1) Ia),?_,?_⟩,by simp[intOf];omega⟩
       ·have I:UR Ws x.zb (k+1)=UR Ws x.zb k++[y]:=by have:=D.out;simpa using this
        have ec:(UR Ws x.zb k++[y]).length=ln+1:=by simp[ab.out]
        rw[I,ec,show WJ (UR Ws x.zb k++[y])=WJ (UR Ws x.zb k)++[vI y.zm] by simp[WJ]]
        exact UQ F.own (ar F.own ea d_) _
       ·intro Mc Ga
        simp[Value.ownBlock]at Ga
        subst Ga
        exact cc
    ·rw[decide_eq_false ga]at D V;clear ga;generalize sb (kN y.zb)=oc at ca V
     go_wp2_with fail
     go_quiet (fail)
     go_wp2_with fail
     exact qa.out _ (UT Q _) s6 s6 s6 (s8 (T:=fun _=>False) A (zd.new (UT (Below.refl _ _) _)) (fun _ _ h=>h)) (by rw[D.out];simp)
   ·have d:=H.cell;have z4:=z.cell;have g4:=z.frozen;have Ic:¬(w.heap.size=a):=o_;have Jc:¬(a=w.heap.size):=o_;have Wb:Hid (UR Ws x.zb k=UR Ws x.zb Ws.length):=by
     have:k=Ws.length:=by have:=la.out;omega
     rw[this];rfl
    go_wp2_with fail
    have mb:=ZJ z (vG f) (.bool x.zj) (vI s0) (vI J) (vI x.b0) (vI x.b1) (vI K) (vI M) (.slice P (UR Ws x.zb k).length R);have Tb:=mb.cell;clear z4 d g4
    exact Us (v:=.agg #[vG f,.bool x.zj,vI s0,vI J,vI x.b0,vI x.b1,vI K,vI M,.slice P (UR Ws x.zb k).length R]) (by simp[results,results164,go_sem,Tb]) rfl ⟨_,rfl,by rw[<-Wb.out];exact fi A Aa ..,U,ZE Q (Nat.le_refl _) ..⟩
def noQ:Array Value:=#[vG ⟨#[]⟩,.bool false,vI 0,vI 0,vI 0,vI 0,vI 0,vI 0,v0_]
def Y8 (L:List zx)(Ws:List Wk)(s:Bs)(w:World)(e:Ending)(w':World):Prop :=
 Bw w w' /\
 ((UB s=false/\e=vT #[.agg noQ,vI 1]) \/
  (UB s=true/\UW L (s4 s)=none/\e=vT #[.agg noQ,vI 3]) \/
  (UB s=true/\∃x a,UW L (s4 s)=some x/\e=vR (.tuple #[.agg #[vG (sb (kN x.zb)),.bool x.zj,vI (xj (Uz L (kN x.zb))),vI (xi (Uz L (kN x.zb))),vI x.b0,vI x.b1,vI (yf (Ut Ws (kN x.zb))),vI (yg (Ut Ws (kN x.zb))),a],vI 0]) /\
   w'.ownsRow 0 3 1 a (UR Ws x.zb Ws.length).length (WJ (UR Ws x.zb Ws.length))/\(∀b,a.ownBlock=some b->w.heap.size<=b)))
theorem rJ{g:Nat}{L:List zx}(h:zy w br g cap L ao cW Ws zo st)(E:ym L)(P:xm Ws)(u:∀a∈L,∀b∈L,a.zb=b.zb->a=b)(s:ByteArray)(I:s.size<=2000000):
  Calls prog 124 #[vP br,vG s] w (Y8 L Ws (bl s) w):=by
 have b0:zg (w.alloc (.cells #[vG ⟨#[]⟩,.bool false,vI 0,vI 0,vI 0,vI 0,vI 0,vI 0,v0_] 37)) w.heap.size 37 #[vG ⟨#[]⟩,.bool false,vI 0,vI 0,vI 0,vI 0,vI 0,vI 0,v0_]:=zg.new w 37 _
 cases m:UB (bl s)
 ·have y:=fun W=>bz s I m W
  have c:Hid (∀w',Bw w w'->Y8 L Ws (bl s) w (vT #[.agg noQ,vI 1]) w'):=fun w' hb=>⟨hb,.inl ⟨m,rfl⟩⟩
  generalize Y8 L Ws (bl s) w=X at c ⊢
  go_enter func124,ntmps124
  go_wp2_with (go_at_call 113;refine(y _).mono ?_;rintro e t ⟨rfl,f⟩;have b1:=b0.below f s_;have o:=b1.cell;have p:=b1.frozen)
  have n:=ZJ b1 (vG ⟨#[]⟩) (.bool false) (vI 0) (vI 0) (vI 0) (vI 0) (vI 0) (vI 0) v0_;have r:=n.cell;clear o p;have d:Bw w t:=s5 cl f
  exact Us (v:=.tuple #[.agg noQ,vI 1]) (by simp[results,results124,go_sem,r,noQ]) rfl (c.out _ (ZE d (Nat.le_refl _) ..))
 ·have y:=fun W=>Yx s I m W
  have J:UL (s4 (bl s))=true:=by rw[<-VY];exact m
  cases l:UW L (s4 (bl s)) with
  |none =>
   have z:=fun W (q:Bw w W)=>Yk (h.ref.below q) E u s (s4 (bl s)) J (Wi (bl s)).symm l
   have c:Hid (∀w',Bw w w'->Y8 L Ws (bl s) w (vT #[.agg noQ,vI 3]) w'):=fun w' hb=>⟨hb,.inr (.inl ⟨m,l,rfl⟩)⟩
   generalize Y8 L Ws (bl s) w=X at c ⊢;clear l h E u
   go_enter func124,ntmps124
   go_wp2_with (first
    |(go_at_call 113;refine(y _).mono ?_;rintro e t ⟨⟨T,cp,rfl,S⟩,f⟩;have d:Bw w t:=s5 cl f;have b1:=b0.below f s_;have o:=b1.cell;have p:=b1.frozen)
    |(go_at_call 114;refine(z _ d).mono ?_;rintro e Y ⟨rfl,A⟩;subst A))
   have n:=ZJ b1 (vG ⟨#[]⟩) (.bool false) (vI 0) (vI 0) (vI 0) (vI 0) (vI 0) (vI 0) v0_;have r:=n.cell;clear o p
   exact Us (v:=.tuple #[.agg noQ,vI 3]) (by simp[results,results124,go_sem,r,noQ]) rfl (c.out _ (ZE d (Nat.le_refl _) ..))
  |some x =>
   have z:=fun W (q:Bw w W)=>YJ (h.ref.below q) E u s (s4 (bl s)) J (Wi (bl s)).symm l
   have j:=fun W (q:Bw w W) i (B:L[i]?=some x)=>jy (h.below q) E P i x B
   have c:Hid (∀w' k,Bw w w'->w'.ownsRow 0 3 1 k (UR Ws x.zb Ws.length).length (WJ (UR Ws x.zb Ws.length))->(∀b,k.ownBlock=some b->w.heap.size<=b)->Y8 L Ws (bl s) w (vR (.tuple #[.agg #[vG (sb (kN x.zb)),.bool x.zj,vI (xj (Uz L (kN x.zb))),vI (xi (Uz L (kN x.zb))),vI x.b0,vI x.b1,vI (yf (Ut Ws (kN x.zb))),vI (yg (Ut Ws (kN x.zb))),k],vI 0])) w'):=fun w' k U V h3=>⟨U,.inr (.inr ⟨m,x,k,l,rfl,V,h3⟩)⟩
   generalize Y8 L Ws (bl s) w=X at c ⊢;clear l h E u;generalize xj (Uz L (kN x.zb))=s0 at j c;generalize xi (Uz L (kN x.zb))=M at j c;generalize yf (Ut Ws (kN x.zb))=N at j c;generalize yg (Ut Ws (kN x.zb))=O at j c;generalize sb (kN x.zb)=H at j c;generalize WJ (UR Ws x.zb Ws.length)=ca at j c;generalize (UR Ws x.zb Ws.length).length=K at j c
   go_enter func124,ntmps124
   go_wp2_with (first
    |(go_at_call 113;refine(y _).mono ?_;rintro e t ⟨⟨T,cp,rfl,S⟩,f⟩;have d:Bw w t:=s5 cl f;have b1:=b0.below f s_)
    |(go_at_call 114;refine(z _ d).mono ?_;rintro e Y ⟨⟨i,rfl,B⟩,A⟩;subst A)
    |(go_at_call 164;refine(j _ d _ B).mono ?_;rintro e Z ⟨k,rfl,C,Q,F⟩;have R:Bw w Z:=s5 d F;have b3:=b1.below F b1.lt;have o:=b3.cell;have p:=b3.frozen;have aa:=ar C b3 d_;obtain⟨D,G,rfl,da,ba⟩:=iu C))
   have n:=ZJ b3 (vG H) (.bool x.zj) (vI s0) (vI M) (vI x.b0) (vI x.b1) (vI N) (vI O) (.slice D K G);have r:=n.cell;clear o p
   exact Us (v:=.tuple #[.agg #[vG H,.bool x.zj,vI s0,vI M,vI x.b0,vI x.b1,vI N,vI O,.slice D K G],vI 0]) (by simp[results,results124,go_sem,r]) rfl (c.out _ _ (ZE R (Nat.le_refl _) ..) (fi C aa ..) (fun b hb=>Nat.le_trans d.size (Q b hb)))
def cq (Ws:List Wk)(m:Int)(e:Ending):Prop :=
 (∃x∈Ws,x.zm=m/\e=vR (.tuple #[.agg #[vG (sb (kN x.zb)),vI x.d0,vI x.d1,.bool (decide (0<x.st))],vI 0])) \/
 ((∀x∈Ws,x.zm≠m)/\e=vR (.tuple #[.agg #[vG ⟨#[]⟩,vI 0,vI 0,.bool false],vI 12]))
theorem kp{g:Nat}{L:List zx}(h:zy w br g cap L ao cW Ws zo st)(r:xm Ws)(m:Int):
  Calls prog 127 #[vP br,vI m] w fun e w'=>cq Ws m e/\Bw w w':=by
 have F:=h.ref.zl.lt;have N:=r.len;obtain⟨n,j⟩:∃n,n=Ws.length:=⟨_,rfl⟩;have H:w.cell? (vA br 1)=some (.slice ao n cW):=by have:=h.ref.zl.cell 1;rw[j];simpa using this
 rw[<-j]at N;have t:Hid (n=Ws.length):=j;clear j;have k:=fun W (M:Bw w W)=>dm (h.below M) r m
 have a:zg (w.alloc (.cells #[vG ⟨#[]⟩,vI 0,vI 0,.bool false] 52)) w.heap.size 52 #[vG ⟨#[]⟩,vI 0,vI 0,.bool false]:=zg.new w 52 _;have f:Bw w (w.alloc (.cells #[vG ⟨#[]⟩,vI 0,vI 0,.bool false] 52)):=cl
 go_enter func127,ntmps127
 go_upto_region 1 with fail
 generalize (w.alloc (.cells #[vG ⟨#[]⟩,vI 0,vI 0,.bool false] 52))=d at a f ⊢;have l4:=a.lt;have B:=a.cell 0;have C:=a.cell 1;have D:=a.cell 2;have E:=a.cell 3;have Q:=a.frozen 0;have R:=a.frozen 1;have T:=a.frozen 2;have U:=a.frozen 3;have ha:=(f.cell (p:=vA br 1) F).trans H;simp only[s7]at B C D E;have o:Hid (∀(i:Nat) x,Ws[i]?=some x->∃b,ao=some (vA b 0)/\b<w.heap.size/\n<=cW/\cW<=maxLen/\d.cell? (vA b (i*5))=some (vI x.zm)/\d.cell? (vA b (i*5+1))=some (vG (sb (kN x.zb)))/\d.cell? (vA b (i*5+2))=some (vI x.d0)/\d.cell? (vA b (i*5+3))=some (vI x.d1)/\d.cell? (vA b (i*5+4))=some (vI x.st)):=by
  show ∀(i:Nat) x,Ws[i]?=some x->_
  intro i x c;obtain⟨b,y,Y,h3,z,p⟩:=(h.below f).wk c
  exact⟨b,y,UI h.yc (by rw[y];rfl),by rw[t.out];exact h3,z,p⟩
 go_wp2_with fail
 refine(k _ f).mono ?_
 rintro e P ⟨K,G⟩
 subst G
 rcases K with ⟨i,x,rfl,c,A⟩|⟨u,rfl⟩
 ·have s:Hid (x∈Ws/\x.zm=m):=⟨Uq c,A⟩;have I:=(Uy.1 c).1;rw[<-t.out]at I;obtain⟨b,J,V,h3,z,ba,ca,da,ea,ga⟩:=o.out i x c;subst J;have aa:(i:Int)<n:=o_;have ia:(0:Int)<=i:=o_;have S:¬((i:Int)<0):=o_;have Z:=f.size;have X:¬(w.heap.size=P.heap.size):=o_;clear c A o k
  go_wp2_with fail
  have q:=((((a.set 0 (vG (sb (kN x.zb)))).set 1 (vI x.d0)).set 2 (vI x.d1)).set 3 (.bool (decide (0<x.st)))).alloc (.cells #[vI x.zm,vG (sb (kN x.zb)),vI x.d0,vI x.d1,vI x.st] 178);have l:=q.cell
  refine Us (v:=.tuple #[.agg #[vG (sb (kN x.zb)),vI x.d0,vI x.d1,.bool (decide (0<x.st))],vI 0]) ?_ rfl ⟨.inl ⟨x,s.out.1,s.out.2,rfl⟩,cl⟩
  simp[results,results127,go_sem,l]
 ·have O:Hid (∀x∈Ws,x.zm≠m):=u;clear u o k
  go_wp2_with fail
  have q:=(((a.set 0 (vG ⟨#[]⟩)).set 1 (vI 0)).set 2 (vI 0)).set 3 (.bool false);have l:=q.cell
  refine Us (v:=.tuple #[.agg #[vG ⟨#[]⟩,vI 0,vI 0,.bool false],vI 12]) ?_ rfl ⟨.inr ⟨O.out,rfl⟩,cl⟩
  simp[results,results127,go_sem,l]
def Yn (br g:Nat)(a:Option Nat)(L:List zx)(Ws:List Wk)(zo st:Int)(err:Int)(y:zx)(w:World)(e:Ending)(w':World):Prop :=
 (err≠0/\e=vT #[v0_,vI err]/\Bw w w') \/
 (err=0/\∃sl,e=vT #[sl,vI 0]/\V_ w br g a (L++[y]) zo (UH (L++[y]) ⟨Ws,st,[]⟩) sl w')
theorem zy.made{g:Nat}{L:List zx}{y:zx}(h:zy w br g cap L ao cW Ws zo st)(i:VV W br g' cap' (L++[y]) (.slice ao Ws.length cW) (vI zo) (vI st))(f:zd (fun b=>b=br\/b=g) w W)(d:g'=g\/w.heap.size<=g'):zy W br g' cap' (L++[y]) ao cW Ws zo st:=by
 refine⟨i,s8 h.yc f (fun b hb e=>?_),fun b hb=>?_⟩
 ·have:=h.ne1 b hb
  rcases e with e|e
  ·exact this.1 e
  ·exact this.2 e
 ·have c:=h.ne1 b hb
  refine⟨c.1,fun e=>?_⟩
  rcases d with a|a
  ·exact c.2 (e.trans a)
  ·have:=UI h.yc hb;omega
theorem iX{g:Nat}{L:List zx}(h:zy w br g cap L ao cW Ws zo st)(E:ym L)(B:∀a∈L,∀b∈L,a.zb=b.zb->a=b)(I:ye ⟨Ws,st,[]⟩)(D:st<=900000000)(s:ByteArray)(H:s.size<=2000000)(a b c d:Int)
  (t:vy L (bl s) (Uu a b&&Uu c d)=0->ym (L++[⟨s4 (bl s),true,a,b,c,d⟩])/\wb (L++[⟨s4 (bl s),true,a,b,c,d⟩])) :
  Calls prog 69 #[vP br,vG s,.agg #[vI a,vI b],.agg #[vI c,vI d]] w (Yn br g (Value.slice ao Ws.length cW).ownBlock L Ws zo st (vy L (bl s) (Uu a b&&Uu c d)) ⟨s4 (bl s),true,a,b,c,d⟩ w):=by
 have q:=fun W (F:Bw w W)=>gZ (h.below F).ref E B s H true a b c d
 have O:=h.Wf;have l:=fun W g' cap' (m:zy W br g' cap' (L++[⟨s4 (bl s),true,a,b,c,d⟩]) ao cW Ws zo st) f=>bu m (t f).1 (t f).2 I D
 have k:Bw w ((w.alloc (.cells #[vI a,vI b] 35)).alloc (.cells #[vI c,vI d] 35)):=cl;have o:=fun W g' cap' n i G=>(h.below k).made (W:=W) (g':=g') (cap':=cap') (y:=⟨s4 (bl s),true,a,b,c,d⟩) n i G
 generalize vy L (bl s) (Uu a b&&Uu c d)=err at *
 go_enter func69,ntmps69
 go_wp2_with fail
 refine(q _ cl).mono ?_
 rintro e z ⟨rfl,(⟨p,C⟩|⟨f,g',cap',n,i,r⟩)⟩
 ·have j:Hid (Yn br g (Value.slice ao Ws.length cW).ownBlock L Ws zo st err ⟨s4 (bl s),true,a,b,c,d⟩ w (vT #[v0_,vI err]) z):=.inl ⟨p,rfl,s5 k C⟩;have N:(err != 0)=true:=by simp[p]
  have P:(err == 0)=false:=by simp[p]
  clear q l o h
  go_wp2_with fail
  exact Us (v:=.tuple #[v0_,vI err]) (by simp[results,results69,go_sem]) rfl j.out
 ·subst f;have m:=o _ _ _ n i r;have x:=l _ _ _ m rfl;have A:g'=g\/w.heap.size<=g':=r.imp id (fun e=>by simp at e;omega);have K:zd (fun y=>y=br\/y=g\/(Value.slice ao Ws.length cW).ownBlock=some y) w z:=((zd.new (T:=fun y=>y=br\/y=g) k).step i (fun y _ e=>e)).mono (fun y e=>by
   rcases e with e|e
   ·exact .inl e
   ·exact .inr (.inl e))
  clear q l o
  go_wp2_with fail
  refine x.mono ?_
  rintro e M ⟨sl,a2,c2,rfl,u⟩
  have j:Hid (Yn br g (Value.slice ao Ws.length cW).ownBlock L Ws zo st 0 ⟨s4 (bl s),true,a,b,c,d⟩ w (vT #[sl,vI 0]) M):=.inr ⟨rfl,sl,rfl,V_.Zf K u (fun y J _=>J) A⟩;clear x u
  go_wp2_with fail
  exact Us (v:=.tuple #[sl,vI 0]) (by simp[results,results69,go_sem]) rfl j.out
theorem o9{g:Nat}{L:List zx}(h:zy w br g cap L ao cW Ws zo st)(E:ym L)(B:∀a∈L,∀b∈L,a.zb=b.zb->a=b)(I:ye ⟨Ws,st,[]⟩)(D:st<=900000000)(s:ByteArray)(H:s.size<=2000000)(c d:Int)
  (t:vy L (bl s) (Uu 0 0&&Uu c d)=0->ym (L++[⟨s4 (bl s),false,0,0,c,d⟩])/\wb (L++[⟨s4 (bl s),false,0,0,c,d⟩])) :
  Calls prog 67 #[vP br,vG s,.agg #[vI c,vI d]] w (Yn br g (Value.slice ao Ws.length cW).ownBlock L Ws zo st (vy L (bl s) (Uu 0 0&&Uu c d)) ⟨s4 (bl s),false,0,0,c,d⟩ w):=by
 have q:=fun W (F:Bw w W)=>gZ (h.below F).ref E B s H false 0 0 c d
 have O:=h.Wf;have l:=fun W g' cap' (m:zy W br g' cap' (L++[⟨s4 (bl s),false,0,0,c,d⟩]) ao cW Ws zo st) f=>bu m (t f).1 (t f).2 I D
 have k:Bw w (w.alloc (.cells #[vI c,vI d] 35)):=cl;have o:=fun W g' cap' n i G=>(h.below k).made (W:=W) (g':=g') (cap':=cap') (y:=⟨s4 (bl s),false,0,0,c,d⟩) n i G
 generalize vy L (bl s) (Uu 0 0&&Uu c d)=err at *
 go_enter func67,ntmps67
 go_wp2_with fail
 refine(q _ cl).mono ?_
 rintro e z ⟨rfl,(⟨p,C⟩|⟨f,g',cap',n,i,r⟩)⟩
 ·have j:Hid (Yn br g (Value.slice ao Ws.length cW).ownBlock L Ws zo st err ⟨s4 (bl s),false,0,0,c,d⟩ w (vT #[v0_,vI err]) z):=.inl ⟨p,rfl,s5 k C⟩;have N:(err != 0)=true:=by simp[p]
  have P:(err == 0)=false:=by simp[p]
  clear q l o h
  go_wp2_with fail
  exact Us (v:=.tuple #[v0_,vI err]) (by simp[results,results67,go_sem]) rfl j.out
 ·subst f;have m:=o _ _ _ n i r;have x:=l _ _ _ m rfl;have A:g'=g\/w.heap.size<=g':=r.imp id (fun e=>by simp at e;omega);have K:zd (fun y=>y=br\/y=g\/(Value.slice ao Ws.length cW).ownBlock=some y) w z:=((zd.new (T:=fun y=>y=br\/y=g) k).step i (fun y _ e=>e)).mono (fun y e=>by
   rcases e with e|e
   ·exact .inl e
   ·exact .inr (.inl e))
  clear q l o
  go_wp2_with fail
  refine x.mono ?_
  rintro e M ⟨sl,a2,c2,rfl,u⟩
  have j:Hid (Yn br g (Value.slice ao Ws.length cW).ownBlock L Ws zo st 0 ⟨s4 (bl s),false,0,0,c,d⟩ w (vT #[sl,vI 0]) M):=.inr ⟨rfl,sl,rfl,V_.Zf K u (fun y J _=>J) A⟩;clear x u
  go_wp2_with fail
  exact Us (v:=.tuple #[sl,vI 0]) (by simp[results,results67,go_sem]) rfl j.out
end Go.Proofs.YtphclnolomgjoaaGreatDoor
