import Derived.Test.YtphclnolomgjoaaGreatDoorB30
set_option linter.unusedVariables false
set_option linter.unusedSimpArgs false
set_option maxRecDepth 100000
set_option maxHeartbeats 4000000
namespace Go.Proofs.YtphclnolomgjoaaGreatDoor
open Tryz
open Go.RowKit
variable {W:World}{er:Int}{bp bq br bt2:Nat}{s2:Bs}{Ws:List Wk}
theorem qxe{g:Nat}{t:TypeId}(h:Blk W g t #[.pointer none])(v:Value):Blk (W.setCell ⟨g,0,none⟩ v) g t #[v]:=by simpa using h.set 0 v
theorem qxt{w:World}{bt:Nat}(s s2:ByteArray)(h0:er≠0)(cr:Calls prog 91 #[.pointer (some ⟨bt,0,none⟩),.string s,.string s2] w fun e w'=>e=.returned (.int .i64 er)/\Below w.heap.size w w'):
  Calls prog 57 #[.pointer (some ⟨bt,0,none⟩),.string s,.string s2] w fun e w'=>e=.returned (.int .i64 er)/\Below w.heap.size w w':=by
 have aW:(er != 0)=true:=by simpa using h0
 go_enter func57,ntmps57
 go_wp2_with (go_at_call 91;refine cr.mono ?_;rintro e w1 ⟨rfl,aa⟩)
 exact xrn (v:=.int .i64 er) (by simp[results,results57,go_sem]) rfl ⟨rfl,aa⟩
theorem qte{w:World}{bt:Nat}(s s2:ByteArray)(cr:Calls prog 91 #[.pointer (some ⟨bt,0,none⟩),.string s,.string s2] w fun e w'=>e=.returned (.int .i64 0)/\Below w.heap.size w w')(bG:∀W,Below w.heap.size w W->W.cell? ⟨bt,0,none⟩=some (.pointer (some ⟨br,0,none⟩)))
  {fv:ByteArray->Value} (hf:∀W fQ,Below w.heap.size w W->fQ=s\/fQ=s2->Calls prog 63 #[.pointer (some ⟨br,0,none⟩),.string fQ] W fun e w'=>e=.returned (fv fQ)/\Below W.heap.size W w') (cR:fv s=.pointer (some ⟨bq,0,none⟩)) (et:fv s2=.pointer (some ⟨bt2,0,none⟩))
  (d_:∀W,Below w.heap.size w W->Calls prog 92 #[.pointer (some ⟨bq,0,none⟩)] W fun e w'=>e=.returned (.pointer (some ⟨bp,0,none⟩))/\w'=W) {Q:World->Prop}
  (bJ:∀W,Below w.heap.size w W->∀gq gt gp,Blk W gq 97 #[.pointer (some ⟨bq,0,none⟩)]->Blk W gt 97 #[.pointer (some ⟨bt2,0,none⟩)]->Blk W gp 97 #[.pointer (some ⟨bp,0,none⟩)]->w.heap.size<=gq->w.heap.size<=gt->w.heap.size<=gp ->
   Calls prog 87 #[.pointer (some ⟨bt,0,none⟩),.func (.func 93) #[] #[.pointer (some ⟨gq,0,none⟩),.pointer (some ⟨gt,0,none⟩)],.func (.func 95) #[] #[.pointer (some ⟨gq,0,none⟩),.pointer (some ⟨gp,0,none⟩)]] W fun e w'=>e=.returned (.int .i64 er)/\Q w') :
  Calls prog 57 #[.pointer (some ⟨bt,0,none⟩),.string s,.string s2] w fun e w'=>e=.returned (.int .i64 er)/\Q w':=by
 have jL:∀(fn:Fn) (first cap:Array Value) (w:World),(Instr.makeFunc fn first cap).run prog w=.ok (.func fn first cap) w:=fun _ _ _ _=>rfl
 have cD:=xrb w _ (bG w (Below.refl _ _))
 simp only at cD
 go_enter func57,ntmps57
 go_upto_region 4 with (go_at_call 91;refine cr.mono ?_;rintro e W0 ⟨rfl,bj⟩)
 have fM:=bj.size;have pv:=bG W0 bj;have n1:¬(bt=W0.heap.size):=by omega
 have n2:¬(bt=W0.heap.size+1):=by omega
 go_cut [8,9] from 18 to 29 (fun x1 x2 wx=>∃g1 g2,x1=.pointer (some ⟨g1,0,none⟩)/\x2=.pointer (some ⟨g2,0,none⟩)/\Below w.heap.size w wx/\Blk wx g1 97 #[.pointer (some ⟨bq,0,none⟩)]/\Blk wx g2 97 #[.pointer (some ⟨bt2,0,none⟩)]/\w.heap.size<=g1/\w.heap.size<=g2)
 case first =>
  go_region_held3 (fun w'=>w'.cell? ⟨bt,0,none⟩=some (.pointer (some ⟨br,0,none⟩))) (first|go_keep|exact bG _ (by exact bel2))
   (first
   |(go_at_call 63;have _hh:=aM;refine(hf _ _ (by exact bel2) (by first|exact .inl rfl|exact .inr rfl)).mono ?_;rintro e w4 ⟨rfl,bf⟩;have dL:Below w.heap.size w w4:=qab (by exact bel2) bf;have qa:=dL.size;have iK:=bf.size;have jX:=bG w4 dL;have Db:¬(bt=w4.heap.size):=(by omega);have Dc:¬(bt=w4.heap.size+1):=(by omega);(try (refine qia (p:=Blk w4 (W0.heap.size) 97 #[.pointer none]) ?_ ?_;(focus (refine Blk.below ?_ bf ?_;(focus ((repeat (first|(with_reducible assumption)|((with_reducible refine Blk.new' ?_);simp;done)|(with_reducible refine Blk.alloc ?_ _)|(with_reducible refine Blk.drew ?_)|(with_reducible refine Blk.drewN ?_ _)));done));(focus (first|omega|(simp;done)|(simp;omega)))));intro y1;have xL:=y1.cell 0;have D2:=y1.frozen 0;have D3:=y1.lt;simp only[List.getElem?_toArray,List.getElem?_cons_zero]at xL));(try (refine qia (p:=Blk w4 (W0.heap.size+1) 97 #[.pointer none]) ?_ ?_;(focus (refine Blk.below ?_ bf ?_;(focus ((repeat (first|(with_reducible assumption)|((with_reducible refine Blk.new' ?_);simp;done)|(with_reducible refine Blk.alloc ?_ _)|(with_reducible refine Blk.drew ?_)|(with_reducible refine Blk.drewN ?_ _)));done));(focus (first|omega|(simp;done)|(simp;omega)))));intro y2;have xM:=y2.cell 0;have D5:=y2.frozen 0;have D6:=y2.lt;simp only[List.getElem?_toArray,List.getElem?_cons_zero]at xM));(try (refine qia (p:=Blk w4 (w3.heap.size) 97 #[.pointer none]) ?_ ?_;(focus (refine Blk.below ?_ bf ?_;(focus ((repeat (first|(with_reducible assumption)|((with_reducible refine Blk.new' ?_);simp;done)|(with_reducible refine Blk.alloc ?_ _)|(with_reducible refine Blk.drew ?_)|(with_reducible refine Blk.drewN ?_ _)));done));(focus (first|omega|(simp;done)|(simp;omega)))));intro y3;have xN:=y3.cell 0;have D8:=y3.frozen 0;have D9:=y3.lt;simp only[List.getElem?_toArray,List.getElem?_cons_zero]at xN));(try (refine qia (p:=Blk w4 (w3.heap.size+1) 97 #[.pointer none]) ?_ ?_;(focus (refine Blk.below ?_ bf ?_;(focus ((repeat (first|(with_reducible assumption)|((with_reducible refine Blk.new' ?_);simp;done)|(with_reducible refine Blk.alloc ?_ _)|(with_reducible refine Blk.drew ?_)|(with_reducible refine Blk.drewN ?_ _)));done));(focus (first|omega|(simp;done)|(simp;omega)))));intro y4;have xO:=y4.cell 0;have DB:=y4.frozen 0;have DC:=y4.lt;simp only[List.getElem?_toArray,List.getElem?_cons_zero]at xO)))
   |(go_at_call 63;refine(hf _ _ (by exact bel2) (by first|exact .inl rfl|exact .inr rfl)).mono ?_;rintro e w3 ⟨rfl,aM⟩;have bH:Below w.heap.size w w3:=qab (by exact bel2) aM;have lQ:=bH.size;have zx:=aM.size;have zz:=bG w3 bH;have C_:¬(bt=w3.heap.size):=(by omega);have Da:¬(bt=w3.heap.size+1):=(by omega);(try (refine qia (p:=Blk w3 (W0.heap.size) 97 #[.pointer none]) ?_ ?_;(focus (refine Blk.below ?_ aM ?_;(focus ((repeat (first|(with_reducible assumption)|((with_reducible refine Blk.new' ?_);simp;done)|(with_reducible refine Blk.alloc ?_ _)|(with_reducible refine Blk.drew ?_)|(with_reducible refine Blk.drewN ?_ _)));done));(focus (first|omega|(simp;done)|(simp;omega)))));intro z1;have xP:=z1.cell 0;have DE:=z1.frozen 0;have DG:=z1.lt;simp only[List.getElem?_toArray,List.getElem?_cons_zero]at xP));(try (refine qia (p:=Blk w3 (W0.heap.size+1) 97 #[.pointer none]) ?_ ?_;(focus (refine Blk.below ?_ aM ?_;(focus ((repeat (first|(with_reducible assumption)|((with_reducible refine Blk.new' ?_);simp;done)|(with_reducible refine Blk.alloc ?_ _)|(with_reducible refine Blk.drew ?_)|(with_reducible refine Blk.drewN ?_ _)));done));(focus (first|omega|(simp;done)|(simp;omega)))));intro z2;have xQ:=z2.cell 0;have DI:=z2.frozen 0;have DJ:=z2.lt;simp only[List.getElem?_toArray,List.getElem?_cons_zero]at xQ))))
  all_goals go_wp2_with fail
  all_goals go_meet
  all_goals refine⟨_,_,rfl,rfl,(by exact bel2),?_,?_,(by omega),(by omega)⟩
  all_goals (repeat (first|(with_reducible assumption)|(with_reducible refine qxe ?_ _)|((with_reducible refine Blk.new' ?_);first|(simp;done)|(simp;omega))|(with_reducible refine Blk.alloc ?_ _)|((with_reducible refine Blk.other ?_ _ _ ?_);rotate_left;(focus (first|omega|(simp;done)|(simp;omega))))))
 case rest =>
  obtain⟨g1,g2,rfl,rfl,dF,x1,x2,e1,e2⟩:=hcut;have c1:=x1.cell 0;have l1:=x1.lt;have l2:=x2.lt;have zJ:=dF.size;simp only[List.getElem?_toArray,List.getElem?_cons_zero]at c1;clear hf bG cr
  go_wp2_with (first
   |(go_at_call 92;refine(d_ _ dF).mono ?_;rintro e w5 ⟨rfl,xv⟩;subst xv;have oy:=bJ _ (dF.alloc zJ (.cells #[.pointer (some ⟨bp,0,none⟩)] 97)) g1 g2 _ (x1.alloc _) (x2.alloc _) (Blk.new _ 97 _) e1 e2 zJ)
   |(go_at_call 87;refine oy.mono ?_;rintro e w9 ⟨rfl,hM⟩))
  exact xrn (v:=.int .i64 er) (by simp[results,results57,go_sem]) rfl ⟨rfl,hM⟩
theorem qga{nodes:List Node}{s:Bs}(h:qdt nodes s s2=0):qar s=true/\s≠[]/\∃q tq,findKey nodes (qac s)=some q/\findKey nodes (qac s2)=some tq/\tq.leaf=false/\q.key.isPrefixOf tq.key=false/\findKey nodes (tq.key++[qad q.key])=none/\ql9 nodes q tq=false:=by
 unfold qdt at h
 by_cases h0:errP [s2,s] s=0
 ·rw[if_neg (by simpa using h0)]at h;obtain⟨hv,_,dw⟩:=qo7 h0
  refine⟨hv,dw,?_⟩
  cases hq:findKey nodes (qac s) with
  |none=>rw[hq]at h;cases h
  |some q =>
   rw[hq]at h
   simp only at h
   cases ht:findKey nodes (qac s2) with
   |none=>rw[ht]at h;cases h
   |some tq =>
    rw[ht]at h
    simp only at h
    by_cases c1:tq.leaf=true
    ·rw[if_pos c1]at h;cases h
    ·rw[if_neg c1]at h
     by_cases c2:q.key.isPrefixOf tq.key=true
     ·rw[if_pos c2]at h;cases h
     ·rw[if_neg c2]at h
      by_cases c3:(findKey nodes (tq.key++[qad q.key])).isSome=true
      ·rw[if_pos c3]at h;cases h
      ·rw[if_neg c3]at h
       by_cases c4:ql9 nodes q tq=true
       ·rw[if_pos c4]at h;cases h
       ·exact⟨q,tq,rfl,rfl,by simpa using c1,Bool.eq_false_iff.2 c2,by simpa using c3,by simpa using c4⟩
 ·rw[if_pos (by simpa using h0)]at h;exact absurd h h0
theorem Mv.of{nodes:List Node}(T:Tree nodes){q tq:Node}(hq:q∈nodes)(ht:tq∈nodes)(jU:q.key≠[])(h1:tq.leaf=false)(h2:q.key.isPrefixOf tq.key=false)(h3:findKey nodes (tq.key++[qad q.key])=none)(h4:ql9 nodes q tq=false):∃p ks i kt at_,Mv nodes q p tq (qad q.key) ks i kt at_:=by
 have h_:q.key=q.key.dropLast++[qad q.key]:=by
  have:=(List.dropLast_concat_getLast jU).symm
  conv=>lhs;rw[this]
  congr 2
  conv=>rhs;rw[this]
  rw[qaq]
 obtain⟨p,hp,dS,_,_⟩:=T.par q hq _ _ h_;obtain⟨ks,b1,b2,b3⟩:=T.kids p hp;obtain⟨kt,c1,c2,c3⟩:=T.kids tq ht;have dK:q.key=p.key++[qad q.key]:=by rw[dS];exact h_
 obtain⟨i,hi⟩:=xre ((b2 q).2 ⟨hq,_,dK⟩);have ay:∀n∈nodes,n.key≠tq.key++[qad q.key]:=fun n hn e=>by rw[qb0 T hn e]at h3;cases h3
 obtain⟨at_,hF⟩:=qlb (nm:=qad q.key) (kt.map fun k=>qad k.key) c3 (fun e=>by
  obtain⟨k,hk,e2⟩:=xrq.1 e;obtain⟨d1,x,d2⟩:=(c2 k).1 hk;have e2:qad k.key=qad q.key:=e2;rw[d2,qaq]at e2
  exact ay k d1 (by rw[d2,e2]))
 refine⟨p,ks,i,kt,at_,⟨T,hq,hp,ht,dK,h1,(fun e=>absurd (xrw.2 e) (Bool.eq_false_iff.1 h2)),ay,fun n hn c=>?_,b1,b2,b3,hi,c1,c2,c3,hF⟩⟩
 unfold ql9 at h4;have h5:(nodes.filter fun m=>q.key.isPrefixOf m.key).all (okD ((tq.key.length:Int)+1-q.key.length))=true:=by simpa using h4
 have h6:=List.all_eq_true.1 h5 n (xrr.2 ⟨hn,xrw.2 c⟩);unfold okD at h6;have h7:¬((n.key.length:Int)+((tq.key.length:Int)+1-q.key.length)>4):=by simpa using h6
 have:=c.length_le
 omega
section
variable {τ : Nat->Tag}{t:Nat}{w:World}{bt:Nat}{nodes:List Node}{last:Int}{vw va:Value}{ws as_:List Pw}{q p tq:Node}{nm:Bs}{ks kt:List Node}{i at_:Nat}
theorem qxu(h:qa2 τ t w bt nodes last vw va ws as_)(R:Rel nodes Ws ws as_)(s s2:ByteArray)(hs:s.size<=2000000)(dW:s2.size<=2000000)(he:qdt nodes (bl s) (bl s2)=0)(hq:findKey nodes (qac (bl s))=some q)(ht:findKey nodes (qac (bl s2))=some tq)(M:Mv nodes q p tq nm ks i kt at_)(hW:Wks (Ws.map (mvW q.key (tq.key++[nm]))))(BH:brkE ((nodes.map Node.ent).map (mvE q.key (tq.key++[nm]))) (Ws.map (mvW q.key (tq.key++[nm])))=er):
  Calls prog 57 #[.pointer (some ⟨bt,0,none⟩),.string s,.string s2] w fun e w'=>e=.returned (.int .i64 er)/\((er=0->∃aQ aR,PMid τ t w bt (nodes.map (gM q p tq nm i aQ at_ aR)) last vw va (ws.map (mvP q.key (tq.key++[nm]))) (as_.map (mvP q.key (tq.key++[nm]))) w')/\(er≠0->∃aE,aE.map Node.ent=nodes.map Node.ent/\(∀n∈nodes,∃n'∈aE,n'.blk=n.blk/\n'.key=n.key/\n'.leaf=n.leaf)/\PMid τ t w bt aE last vw va ws as_ w')):=by
 have T:=h.pr.tree;obtain⟨r,eT,hb⟩:=h.bk;obtain⟨hr,a_⟩:=qbp T eT;have cr:=qfm T h.pr.qdk hb hr a_ s s2 hs dW;rw[he]at cr;obtain⟨pp,a1,a2,_,di⟩:=T.par q M.hq p.key nm M.qp
 have:pp=p:=T.inj pp a1 p M.hp a2
 subst this;have d_:=fun W (hW:Below w.heap.size w W)=>qjy ((h.pr.ins q M.hq).below hW)
 rw[di]at d_;have iL:∀b,Tch3 q pp tq b->b<w.heap.size:=fun b hb=>by
  rcases hb with (e|e|e)|e|e
  ·rw[e];exact(h.pr.ins pp M.hp).lt
  ·rw[e];exact(h.pr.ins q M.hq).lt
  ·exact((h.pr.ins pp M.hp).row.lt b e).2
  ·rw[e];exact(h.pr.ins tq M.ht).lt
  ·exact((h.pr.ins tq M.ht).row.lt b e).2
 refine qte (br:=r.blk) (bq:=q.blk) (bt2:=tq.blk) (bp:=pp.blk) (fv:=fun fQ=>match findKey nodes (qac (bl fQ)) with|none=>.pointer none|some p=>nptr p.blk) s s2 cr (fun W aX=>(hb.below aX).bk.at_.cell 0) (fun W fQ aX pn=>qcr T hr a_ fQ (by rcases pn with rfl|rfl<;>assumption) W (hb.below aX).ins _ rfl) (by simp only[hq];rfl) (by simp only[ht];rfl) d_ (fun W aX gq gt gp b1 b2 b3 e1 e2 e3=>?_)
 have h6:=h.keep (τ':=qcq τ w.heap.size) (T:=fun _=>False) (Keep.new aX) (fun _ _ h=>h.elim) (fun b hb=>qa5 hb);have bJ:=ql2 h6 R M hW b1 b2 b3 (fun e=>by have:=iL _ e;omega) (fun e=>by have:=iL _ e;omega);rw[BH]at bJ
 refine bJ.mono ?_
 rintro e w' ⟨rfl,g1,g2⟩
 refine⟨rfl,fun e=>?_,fun e=>?_⟩
 ·obtain⟨aQ,aR,g3⟩:=g1 e
  exact⟨aQ,aR,PMid.from aX g3⟩
 ·obtain⟨aE,g3,g4,g5⟩:=g2 e
  exact⟨aE,g3,g4,PMid.from aX g5⟩
end
end Go.Proofs.YtphclnolomgjoaaGreatDoor
