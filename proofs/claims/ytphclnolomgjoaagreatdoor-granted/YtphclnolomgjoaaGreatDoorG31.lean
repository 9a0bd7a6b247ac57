import Derived.Test.YtphclnolomgjoaaGreatDoorG30
set_option linter.unusedVariables false
set_option linter.unusedSimpArgs false
set_option maxRecDepth 100000
set_option maxHeartbeats 4000000
namespace Go.Proofs.YtphclnolomgjoaaGreatDoor
open Tryz
open Go.RowKit
variable {W:World}{er:Int}{bp bq br bt2:Nat}{s2:Bs}{Ws:List Wk}
theorem qw7{g:Nat}{t:TypeId}(h:Blk W g t #[.pointer none])(v:Value):Blk (W.setCell ⟨g,0,none⟩ v) g t #[v]:=by simpa using h.set 0 v
theorem qxm{w:World}{bt:Nat}(s s2:ByteArray)(h0:er≠0)(cn:Calls prog 91 #[.pointer (some ⟨bt,0,none⟩),.string s,.string s2] w fun e w'=>e=.returned (.int .i64 er)/\Below w.heap.size w w'):
  Calls prog 57 #[.pointer (some ⟨bt,0,none⟩),.string s,.string s2] w fun e w'=>e=.returned (.int .i64 er)/\Below w.heap.size w w':=by
 have aW:(er != 0)=true:=by simpa using h0
 go_enter func57,ntmps57
 go_wp2_with (go_at_call 91;refine cn.mono ?_;rintro e w1 ⟨rfl,aa⟩)
 exact xrn (v:=.int .i64 er) (by simp[results,results57,go_sem]) rfl ⟨rfl,aa⟩
theorem qs7{w:World}{bt:Nat}(s s2:ByteArray)(cn:Calls prog 91 #[.pointer (some ⟨bt,0,none⟩),.string s,.string s2] w fun e w'=>e=.returned (.int .i64 0)/\Below w.heap.size w w')(bC:∀W,Below w.heap.size w W->W.cell? ⟨bt,0,none⟩=some (.pointer (some ⟨br,0,none⟩)))
  {fv:ByteArray->Value} (hf:∀W fR,Below w.heap.size w W->fR=s\/fR=s2->Calls prog 63 #[.pointer (some ⟨br,0,none⟩),.string fR] W fun e w'=>e=.returned (fv fR)/\Below W.heap.size W w') (cQ:fv s=.pointer (some ⟨bq,0,none⟩)) (en:fv s2=.pointer (some ⟨bt2,0,none⟩))
  (dY:∀W,Below w.heap.size w W->Calls prog 92 #[.pointer (some ⟨bq,0,none⟩)] W fun e w'=>e=.returned (.pointer (some ⟨bp,0,none⟩))/\w'=W) {Q:World->Prop}
  (bG:∀W,Below w.heap.size w W->∀gq gt gp,Blk W gq 97 #[.pointer (some ⟨bq,0,none⟩)]->Blk W gt 97 #[.pointer (some ⟨bt2,0,none⟩)]->Blk W gp 97 #[.pointer (some ⟨bp,0,none⟩)]->w.heap.size<=gq->w.heap.size<=gt->w.heap.size<=gp ->
   Calls prog 87 #[.pointer (some ⟨bt,0,none⟩),.func (.func 93) #[] #[.pointer (some ⟨gq,0,none⟩),.pointer (some ⟨gt,0,none⟩)],.func (.func 95) #[] #[.pointer (some ⟨gq,0,none⟩),.pointer (some ⟨gp,0,none⟩)]] W fun e w'=>e=.returned (.int .i64 er)/\Q w') :
  Calls prog 57 #[.pointer (some ⟨bt,0,none⟩),.string s,.string s2] w fun e w'=>e=.returned (.int .i64 er)/\Q w':=by
 have jJ:∀(fn:Fn) (first cap:Array Value) (w:World),(Instr.makeFunc fn first cap).run prog w=.ok (.func fn first cap) w:=fun _ _ _ _=>rfl
 have cC:=xrb w _ (bC w (Below.refl _ _))
 simp only at cC
 go_enter func57,ntmps57
 go_upto_region 4 with (go_at_call 91;refine cn.mono ?_;rintro e W0 ⟨rfl,bh⟩)
 have fK:=bh.size;have pA:=bC W0 bh;have n1:¬(bt=W0.heap.size):=by omega
 have n2:¬(bt=W0.heap.size+1):=by omega
 go_cut [8,9] from 18 to 29 (fun x1 x2 wx=>∃g1 g2,x1=.pointer (some ⟨g1,0,none⟩)/\x2=.pointer (some ⟨g2,0,none⟩)/\Below w.heap.size w wx/\Blk wx g1 97 #[.pointer (some ⟨bq,0,none⟩)]/\Blk wx g2 97 #[.pointer (some ⟨bt2,0,none⟩)]/\w.heap.size<=g1/\w.heap.size<=g2)
 case first =>
  go_region_held3 (fun w'=>w'.cell? ⟨bt,0,none⟩=some (.pointer (some ⟨br,0,none⟩))) (first|go_keep|exact bC _ (by exact bel2))
   (first
   |(go_at_call 63;have _hh:=aM;refine(hf _ _ (by exact bel2) (by first|exact .inl rfl|exact .inr rfl)).mono ?_;rintro e w4 ⟨rfl,bm⟩;have dO:Below w.heap.size w w4:=qac (by exact bel2) bm;have qc:=dO.size;have iJ:=bm.size;have jU:=bC w4 dO;have Dh:¬(bt=w4.heap.size):=(by omega);have Di:¬(bt=w4.heap.size+1):=(by omega);(try (refine qih (p:=Blk w4 (W0.heap.size) 97 #[.pointer none]) ?_ ?_;(focus (refine Blk.below ?_ bm ?_;(focus ((repeat (first|(with_reducible assumption)|((with_reducible refine Blk.new' ?_);simp;done)|(with_reducible refine Blk.alloc ?_ _)|(with_reducible refine Blk.drew ?_)|(with_reducible refine Blk.drewN ?_ _)));done));(focus (first|omega|(simp;done)|(simp;omega)))));intro y1;have xJ:=y1.cell 0;have D8:=y1.frozen 0;have D9:=y1.lt;simp only[List.getElem?_toArray,List.getElem?_cons_zero]at xJ));(try (refine qih (p:=Blk w4 (W0.heap.size+1) 97 #[.pointer none]) ?_ ?_;(focus (refine Blk.below ?_ bm ?_;(focus ((repeat (first|(with_reducible assumption)|((with_reducible refine Blk.new' ?_);simp;done)|(with_reducible refine Blk.alloc ?_ _)|(with_reducible refine Blk.drew ?_)|(with_reducible refine Blk.drewN ?_ _)));done));(focus (first|omega|(simp;done)|(simp;omega)))));intro y2;have xK:=y2.cell 0;have DB:=y2.frozen 0;have DC:=y2.lt;simp only[List.getElem?_toArray,List.getElem?_cons_zero]at xK));(try (refine qih (p:=Blk w4 (w3.heap.size) 97 #[.pointer none]) ?_ ?_;(focus (refine Blk.below ?_ bm ?_;(focus ((repeat (first|(with_reducible assumption)|((with_reducible refine Blk.new' ?_);simp;done)|(with_reducible refine Blk.alloc ?_ _)|(with_reducible refine Blk.drew ?_)|(with_reducible refine Blk.drewN ?_ _)));done));(focus (first|omega|(simp;done)|(simp;omega)))));intro y3;have xL:=y3.cell 0;have DE:=y3.frozen 0;have DG:=y3.lt;simp only[List.getElem?_toArray,List.getElem?_cons_zero]at xL));(try (refine qih (p:=Blk w4 (w3.heap.size+1) 97 #[.pointer none]) ?_ ?_;(focus (refine Blk.below ?_ bm ?_;(focus ((repeat (first|(with_reducible assumption)|((with_reducible refine Blk.new' ?_);simp;done)|(with_reducible refine Blk.alloc ?_ _)|(with_reducible refine Blk.drew ?_)|(with_reducible refine Blk.drewN ?_ _)));done));(focus (first|omega|(simp;done)|(simp;omega)))));intro y4;have xM:=y4.cell 0;have DI:=y4.frozen 0;have DJ:=y4.lt;simp only[List.getElem?_toArray,List.getElem?_cons_zero]at xM)))
   |(go_at_call 63;refine(hf _ _ (by exact bel2) (by first|exact .inl rfl|exact .inr rfl)).mono ?_;rintro e w3 ⟨rfl,aM⟩;have bE:Below w.heap.size w w3:=qac (by exact bel2) aM;have lL:=bE.size;have zt:=aM.size;have zv:=bC w3 bE;have Df:¬(bt=w3.heap.size):=(by omega);have Dg:¬(bt=w3.heap.size+1):=(by omega);(try (refine qih (p:=Blk w3 (W0.heap.size) 97 #[.pointer none]) ?_ ?_;(focus (refine Blk.below ?_ aM ?_;(focus ((repeat (first|(with_reducible assumption)|((with_reducible refine Blk.new' ?_);simp;done)|(with_reducible refine Blk.alloc ?_ _)|(with_reducible refine Blk.drew ?_)|(with_reducible refine Blk.drewN ?_ _)));done));(focus (first|omega|(simp;done)|(simp;omega)))));intro z1;have xN:=z1.cell 0;have DL:=z1.frozen 0;have DM:=z1.lt;simp only[List.getElem?_toArray,List.getElem?_cons_zero]at xN));(try (refine qih (p:=Blk w3 (W0.heap.size+1) 97 #[.pointer none]) ?_ ?_;(focus (refine Blk.below ?_ aM ?_;(focus ((repeat (first|(with_reducible assumption)|((with_reducible refine Blk.new' ?_);simp;done)|(with_reducible refine Blk.alloc ?_ _)|(with_reducible refine Blk.drew ?_)|(with_reducible refine Blk.drewN ?_ _)));done));(focus (first|omega|(simp;done)|(simp;omega)))));intro z2;have xO:=z2.cell 0;have DO:=z2.frozen 0;have DP:=z2.lt;simp only[List.getElem?_toArray,List.getElem?_cons_zero]at xO))))
  all_goals go_wp2_with fail
  all_goals go_meet
  all_goals refine⟨_,_,rfl,rfl,(by exact bel2),?_,?_,(by omega),(by omega)⟩
  all_goals (repeat (first|(with_reducible assumption)|(with_reducible refine qw7 ?_ _)|((with_reducible refine Blk.new' ?_);first|(simp;done)|(simp;omega))|(with_reducible refine Blk.alloc ?_ _)|((with_reducible refine Blk.other ?_ _ _ ?_);rotate_left;(focus (first|omega|(simp;done)|(simp;omega))))))
 case rest =>
  obtain⟨g1,g2,rfl,rfl,dD,x1,x2,e1,e2⟩:=hcut;have c1:=x1.cell 0;have l1:=x1.lt;have l2:=x2.lt;have zF:=dD.size;simp only[List.getElem?_toArray,List.getElem?_cons_zero]at c1;clear hf bC cn
  go_wp2_with (first
   |(go_at_call 92;refine(dY _ dD).mono ?_;rintro e w5 ⟨rfl,xu⟩;subst xu;have o5:=bG _ (dD.alloc zF (.cells #[.pointer (some ⟨bp,0,none⟩)] 97)) g1 g2 _ (x1.alloc _) (x2.alloc _) (Blk.new _ 97 _) e1 e2 zF)
   |(go_at_call 87;refine o5.mono ?_;rintro e w9 ⟨rfl,hM⟩))
  exact xrn (v:=.int .i64 er) (by simp[results,results57,go_sem]) rfl ⟨rfl,hM⟩
theorem qga{nodes:List Node}{s:Bs}(h:qdx nodes s s2=0):qas s=true/\s≠[]/\∃q tq,findKey nodes (qab s)=some q/\findKey nodes (qab s2)=some tq/\tq.leaf=false/\q.key.isPrefixOf tq.key=false/\findKey nodes (tq.key++[qad q.key])=none/\qma nodes q tq=false:=by
 unfold qdx at h
 by_cases h0:errP [s2,s] s=0
 ·rw[if_neg (by simpa using h0)]at h;obtain⟨hv,_,dt⟩:=qo6 h0
  refine⟨hv,dt,?_⟩
  cases hq:findKey nodes (qab s) with
  |none=>rw[hq]at h;cases h
  |some q =>
   rw[hq]at h
   simp only at h
   cases ht:findKey nodes (qab s2) with
   |none=>rw[ht]at h;cases h
   |some tq =>
    rw[ht]at h
    simp only at h
    by_cases c1:tq.leaf=true
    ·rw[if_pos c1]at h;cases h
    ·rw[if_neg c1]at h
     by_cases c2:q.key.isPrefixOf tq.key=true
     ·rw[if_pos c2]at h;cases h
     ·rw[if_neg c2]at h
      by_cases c3:(findKey nodes (tq.key++[qad q.key])).isSome=true
      ·rw[if_pos c3]at h;cases h
      ·rw[if_neg c3]at h
       by_cases c4:qma nodes q tq=true
       ·rw[if_pos c4]at h;cases h
       ·exact⟨q,tq,rfl,rfl,by simpa using c1,Bool.eq_false_iff.2 c2,by simpa using c3,by simpa using c4⟩
 ·rw[if_pos (by simpa using h0)]at h;exact absurd h h0
theorem Mv.of{nodes:List Node}(T:Tree nodes){q tq:Node}(hq:q∈nodes)(ht:tq∈nodes)(jS:q.key≠[])(h1:tq.leaf=false)(h2:q.key.isPrefixOf tq.key=false)(h3:findKey nodes (tq.key++[qad q.key])=none)(h4:qma nodes q tq=false):∃p ks i kt at_,Mv nodes q p tq (qad q.key) ks i kt at_:=by
 have hZ:q.key=q.key.dropLast++[qad q.key]:=by
  have:=(List.dropLast_concat_getLast jS).symm
  conv=>lhs;rw[this]
  congr 2
  conv=>rhs;rw[this]
  rw[qaq]
 obtain⟨p,hp,dM,_,_⟩:=T.par q hq _ _ hZ;obtain⟨ks,b1,b2,b3⟩:=T.kids p hp;obtain⟨kt,c1,c2,c3⟩:=T.kids tq ht;have dH:q.key=p.key++[qad q.key]:=by rw[dM];exact hZ
 obtain⟨i,hi⟩:=xre ((b2 q).2 ⟨hq,_,dH⟩);have aA:∀n∈nodes,n.key≠tq.key++[qad q.key]:=fun n hn e=>by rw[qcc T hn e]at h3;cases h3
 obtain⟨at_,hF⟩:=qlb (nm:=qad q.key) (kt.map fun k=>qad k.key) c3 (fun e=>by
  obtain⟨k,hk,e2⟩:=xrq.1 e;obtain⟨d1,x,d2⟩:=(c2 k).1 hk;have e2:qad k.key=qad q.key:=e2;rw[d2,qaq]at e2
  exact aA k d1 (by rw[d2,e2]))
 refine⟨p,ks,i,kt,at_,⟨T,hq,hp,ht,dH,h1,(fun e=>absurd (xrw.2 e) (Bool.eq_false_iff.1 h2)),aA,fun n hn c=>?_,b1,b2,b3,hi,c1,c2,c3,hF⟩⟩
 unfold qma at h4;have h5:(nodes.filter fun m=>q.key.isPrefixOf m.key).all (okD ((tq.key.length:Int)+1-q.key.length))=true:=by simpa using h4
 have h6:=List.all_eq_true.1 h5 n (xrr.2 ⟨hn,xrw.2 c⟩);unfold okD at h6;have h7:¬((n.key.length:Int)+((tq.key.length:Int)+1-q.key.length)>4):=by simpa using h6
 have:=c.length_le
 omega
section
variable {τ : Nat->Tag}{t:Nat}{w:World}{bt:Nat}{nodes:List Node}{last:Int}{vw va:Value}{ws as_:List Pw}{q p tq:Node}{nm:Bs}{ks kt:List Node}{i at_:Nat}
theorem qxn(h:qa3 τ t w bt nodes last vw va ws as_)(R:Rel nodes Ws ws as_)(s s2:ByteArray)(hs:s.size<=2000000)(dU:s2.size<=2000000)(he:qdx nodes (bl s) (bl s2)=0)(hq:findKey nodes (qab (bl s))=some q)(ht:findKey nodes (qab (bl s2))=some tq)(M:Mv nodes q p tq nm ks i kt at_)(hW:Wks (Ws.map (mvW q.key (tq.key++[nm]))))(BK:brkE ((nodes.map Node.ent).map (mvE q.key (tq.key++[nm]))) (Ws.map (mvW q.key (tq.key++[nm])))=er):
  Calls prog 57 #[.pointer (some ⟨bt,0,none⟩),.string s,.string s2] w fun e w'=>e=.returned (.int .i64 er)/\((er=0->∃aP aQ,PMid τ t w bt (nodes.map (gM q p tq nm i aP at_ aQ)) last vw va (ws.map (mvP q.key (tq.key++[nm]))) (as_.map (mvP q.key (tq.key++[nm]))) w')/\(er≠0->∃aE,aE.map Node.ent=nodes.map Node.ent/\(∀n∈nodes,∃n'∈aE,n'.blk=n.blk/\n'.key=n.key/\n'.leaf=n.leaf)/\PMid τ t w bt aE last vw va ws as_ w')):=by
 have T:=h.pr.tree;obtain⟨r,eP,hb⟩:=h.bk;obtain⟨hr,a_⟩:=qbq T eP;have cn:=qfn T h.pr.qdp hb hr a_ s s2 hs dU;rw[he]at cn;obtain⟨pp,a1,a2,_,dg⟩:=T.par q M.hq p.key nm M.qp
 have:pp=p:=T.inj pp a1 p M.hp a2
 subst this;have dY:=fun W (hW:Below w.heap.size w W)=>qj0 ((h.pr.ins q M.hq).below hW)
 rw[dg]at dY;have iK:∀b,Tch3 q pp tq b->b<w.heap.size:=fun b hb=>by
  rcases hb with (e|e|e)|e|e
  ·rw[e];exact(h.pr.ins pp M.hp).lt
  ·rw[e];exact(h.pr.ins q M.hq).lt
  ·exact((h.pr.ins pp M.hp).row.lt b e).2
  ·rw[e];exact(h.pr.ins tq M.ht).lt
  ·exact((h.pr.ins tq M.ht).row.lt b e).2
 refine qs7 (br:=r.blk) (bq:=q.blk) (bt2:=tq.blk) (bp:=pp.blk) (fv:=fun fR=>match findKey nodes (qab (bl fR)) with|none=>.pointer none|some p=>nptr p.blk) s s2 cn (fun W aX=>(hb.below aX).bk.at_.cell 0) (fun W fR aX p6=>qcs T hr a_ fR (by rcases p6 with rfl|rfl<;>assumption) W (hb.below aX).ins _ rfl) (by simp only[hq];rfl) (by simp only[ht];rfl) dY (fun W aX gq gt gp b1 b2 b3 e1 e2 e3=>?_)
 have h6:=h.keep (τ':=qcr τ w.heap.size) (T:=fun _=>False) (Keep.new aX) (fun _ _ h=>h.elim) (fun b hb=>qa6 hb);have bG:=ql4 h6 R M hW b1 b2 b3 (fun e=>by have:=iK _ e;omega) (fun e=>by have:=iK _ e;omega);rw[BK]at bG
 refine bG.mono ?_
 rintro e w' ⟨rfl,g1,g2⟩
 refine⟨rfl,fun e=>?_,fun e=>?_⟩
 ·obtain⟨aP,aQ,g3⟩:=g1 e
  exact⟨aP,aQ,PMid.from aX g3⟩
 ·obtain⟨aE,g3,g4,g5⟩:=g2 e
  exact⟨aE,g3,g4,PMid.from aX g5⟩
end
end Go.Proofs.YtphclnolomgjoaaGreatDoor
