import Derived.Test.YtphclnolomgjoaaGreatDoorB34
set_option linter.unusedVariables false
set_option linter.unusedSimpArgs false
set_option maxRecDepth 100000
set_option maxHeartbeats 4000000
namespace Go.Proofs.YtphclnolomgjoaaGreatDoor
open Tryz
open Go.RowKit
variable {ev v2:Value}{i k:Nat}{bU st zX zY:Int}{Wx w1:World}{A C:List Wk}{L:List Ent}{es lW:List (Int×Int)}{x y:Wk}{s s':SS}
section
variable {F:Nat->Prop}{W w':World}{rb:Nat}{R:KR}{P:Nat->Prop}{bt:Nat}{vp vw vl:Value}
theorem RunM.setw(h:RunM F W rb R P bt vp vw vl){works:List KW}(hk:Keep (fun b=>b=rb) W w')(bJ:Blk w' rb 50 #[.pointer (some ⟨bt,0,none⟩),vp,v2,.int .i64 R.qav,vl])(hr:w'.ownsRow 0 41 6 v2 works.length (qak works))(cn:∀b,v2.ownBlock=some b->W.heap.size<=b):RunM F w' rb {R with works:=works} P bt vp v2 vl:=by
 have hz:=h.size
 refine⟨h.tw.keep hk (fun b hb e=>h.nP b (.inl e) hb),bJ,qaf h.prow hk (fun b hb e=>h.ne.1 (e ▸ hb)),hr,qaf h.lrow hk (fun b hb e=>h.ne.2.2 (e ▸ hb)),fun b hb=>?_,fun b hb=>?_,fun b hb=>xrg (h.fo b hb) hk.size,⟨h.ne.1,fun e=>by have:=cn _ e;omega,h.ne.2.2⟩,fun b hb=>⟨fun e=>?_,(h.pw b hb).2⟩,fun b hb e=>?_⟩
 ·rcases hb with hb|hb|hb|hb
  ·exact h.nP b (.inl hb)
  ·exact h.nP b (.inr (.inl hb))
  ·exact fun e=>by have:=cn b hb;have:=h.tw.lt b e;omega
  ·exact h.nP b (.inr (.inr (.inr hb)))
 ·rcases hb with hb|hb|hb|hb|hb
  ·exact h.lo b (.inl hb)
  ·exact h.lo b (.inr (.inl hb))
  ·exact h.lo b (.inr (.inr (.inl hb)))
  ·exact fun e=>by have:=cn b hb;have:=h.fo b e;omega
  ·exact h.lo b (.inr (.inr (.inr (.inr hb))))
 ·have:=cn b e;have:=qap h.prow hb;omega
 ·have:=cn b hb;have:=qap h.lrow e;omega
theorem qxr(h:qau F W rb R){x:KW}(hi:R.works[i]?=some x)(jM:R.works.length<=24)(cJ:0<=R.qav/\R.qav<=1000000){o:Out}(ho:R.k.finish x.num=o)(he:o.err=0)(hm:o.evs.length<=1000){an:List KW}(db:qdj (R.works.take i++R.works.drop (i+1),R.qav) o.evs=some (an,bU)):
  Calls prog 42 #[.pointer (some ⟨rb,0,none⟩),.int .i64 i] W fun e w'=>e=.returned (.bool true)/\qau F w' rb ⟨o.ks,R.paths,an,bU,o.evs⟩/\Keep (fun b=>¬F b) W w':=by
 obtain⟨P,bt,vp,vw,vl,h⟩:=h;obtain⟨gw,cw,cV,bK,eL,fX,jE,q0,_⟩:=h.tk.cells hi;have ep:=(xr0.1 hi).1;have hz:=h.size;have gG:=h.tw.lt;obtain⟨n,hn⟩:∃n,n=R.works.length:=⟨_,rfl⟩;rw[<-hn]at cV fX ep jM;have HN:Hid (n=R.works.length):=hn;have aF:∀Wx,Below W.heap.size W Wx->Calls prog 28 #[.pointer (some ⟨bt,0,none⟩),.int .i64 x.num] Wx fun e w1=>∃a1 c1 P1,e=.returned (.tuple #[.slice a1 o.evs.length c1,.int .i64 0])/\Blk w1 rb 50 #[.pointer (some ⟨bt,0,none⟩),vp,vw,.int .i64 R.qav,vl]/\w1.cell? ⟨gw,i*6,none⟩=some (.int .i64 x.num) /\
   Hid (RunM F w1 rb {R with k:=o.ks} P1 bt vp vw vl/\w1.ownsRow 0 60 2 (.slice a1 o.evs.length c1) o.evs.length (qam o.evs)/\(∀b,(Value.slice a1 o.evs.length c1).ownBlock=some b->W.heap.size<=b/\¬P1 b)/\Keep (fun b=>¬F b) W w1/\W.heap.size<=w1.heap.size):=fun Wx hb=>by
  have hx:=h.below hb
  refine(qpg hx.tw x.num).mono ?_
  rw[ho,he]
  rintro e w1 ⟨ev,rfl,hO⟩
  obtain⟨P1,g1,g2,g3,g4⟩:=hx.called hO;obtain⟨a1,c1,rfl,_,_⟩:=qa7 g2;obtain⟨_,_,e1,_,_,_,_,q1,_⟩:=g1.tk.cells (k:=i) (x:=x) hi;have lV:=cV.symm.trans e1;injection lV with e2;injection e2 with e2;injection e2 with e2;subst e2;obtain⟨_,_,_,_,_,k5⟩:=hO
  exact⟨a1,c1,P1,rfl,g1.at_,q1,g1,g2,fun b bh=>⟨Nat.le_trans hb.size (g3 b bh).1,(g3 b bh).2⟩,(Keep.new hb).trans g4,Nat.le_trans hb.size k5.size⟩
 have bm:∀(w1:World) (P1:Nat->Prop),RunM F w1 rb {R with k:=o.ks} P1 bt vp vw vl->∀Wx,Below w1.heap.size w1 Wx->∀j u,(qak R.works)[j]?=some u->Wx.cell? ⟨gw,j,none⟩=some u:=fun w1 P1 hR Wx hW j u hu=>by
  have h1:=hR.wrow;rw[cV]at h1
  have:=h1.cells (g:=gw) rfl j u hu
  rw[Addr.add_lit,Nat.zero_add]at this
  exact(hW.cell (p:=⟨gw,j,none⟩) (qap h1 rfl)).trans this
 have yd:∀(w1:World) (P1:Nat->Prop),Hid (RunM F w1 rb {R with k:=o.ks} P1 bt vp vw vl)->∃v' w',(∀ty,(Builtin.append_ #[47,47] ty #[.slice none 0 0,.slice (some ⟨gw,0,none⟩) i cw]).run prog w1=.ok v' w')/\∃a' av,v'=.slice a' i av/\AppO w1 (Value.slice none 0 0).ownBlock 41 6 i (qak (R.works.take i)) a' av w':=fun w1 P1 hR=>by
  have:=qr1 un47 qxn (by omega) w1 none 0 0 (Nat.le_refl _) (Nat.zero_le _) [] (xrk _ _ _ _) (some ⟨gw,0,none⟩) i cw (qak (R.works.take i)) (by rw[qh0,List.length_take];rw[Nat.min_eq_left (by omega)])
   (fun _=>⟨_,rfl,fun j u hu=>by
    rw[Addr.add_lit,Nat.zero_add]
    refine bm w1 P1 hR.out w1 (Below.refl _ _) j u ?_
    rw[qvo]at hu;rw[List.getElem?_take]at hu
    split at hu
    ·exact hu
    ·cases hu⟩) (qn7 _) (by unfold maxLen;omega) (by omega)
  simpa only[Nat.zero_add,List.nil_append] using this
 have aa:∀(w1:World) a1 q1 w2,AppO w1 (Value.slice none 0 0).ownBlock 41 6 i (qak (R.works.take i)) a1 q1 w2->Below w1.heap.size w1 w2:=fun w1 a1 q1 w2 R=>⟨R.keep.os,R.keep.tape,R.keep.output,R.keep.size,fun k hk=>R.keep.block k hk (by simp[Value.ownBlock])⟩
 have ye:∀(w1:World) (P1:Nat->Prop),Hid (RunM F w1 rb {R with k:=o.ks} P1 bt vp vw vl)->∀a1 q1 w2,AppO w1 (Value.slice none 0 0).ownBlock 41 6 i (qak (R.works.take i)) a1 q1 w2->∀(x2:Option Addr) (c2:Nat),(0<n-(i+1)->x2=some ⟨gw,(i+1)*6,none⟩) ->
   ∃v' w',(∀ty,(Builtin.append_ #[47,47] ty #[.slice a1 i q1,.slice x2 (n-(i+1)) c2]).run prog w2=.ok v' w')/\∃a' av,v'=.slice a' (i+(n-(i+1))) av/\AppO w2 (Value.slice a1 i q1).ownBlock 41 6 (i+(n-(i+1))) (qak (R.works.take i)++qak (R.works.drop (i+1))) a' av w' :=
  fun w1 P1 hR a1 q1 w2 RR x2 c2 jh=>qr1 un47 qxn (by omega) w2 a1 i q1 RR.le RR.mx _ RR.own x2 (n-(i+1)) c2 (qak (R.works.drop (i+1))) (by rw[qh0,List.length_drop,<- HN.out])
   (fun hm=>⟨_,jh hm,fun j u hu=>by
    rw[qvn,List.getElem?_drop]at hu;rw[Addr.add_lit]
    exact bm w1 P1 hR.out w2 (aa _ _ _ _ RR) _ u hu⟩) (qn7 _) (by unfold maxLen;omega) (by omega)
 have aK:∀(w1:World) (P1:Nat->Prop) (ae:Option Addr) (ce:Nat),Hid (RunM F w1 rb {R with k:=o.ks} P1 bt vp vw vl/\w1.ownsRow 0 60 2 (.slice ae o.evs.length ce) o.evs.length (qam o.evs)/\(∀b,(Value.slice ae o.evs.length ce).ownBlock=some b->W.heap.size<=b/\¬P1 b)/\Keep (fun b=>¬F b) W w1/\W.heap.size<=w1.heap.size)->∀a1 q1 w2 a2 q2 w3,AppO w1 (Value.slice none 0 0).ownBlock 41 6 i (qak (R.works.take i)) a1 q1 w2->AppO w2 (Value.slice a1 i q1).ownBlock 41 6 (i+(n-(i+1))) (qak (R.works.take i)++qak (R.works.drop (i+1))) a2 q2 w3 ->
   Hid (Calls prog 48 #[.pointer (some ⟨rb,0,none⟩),.slice ae o.evs.length ce] (w3.setCell ⟨rb,2,none⟩ (.slice a2 (i+(n-(i+1))) q2)) fun e w4=>e=.returned (.bool true)/\Hid (qau F w4 rb ⟨o.ks,R.paths,an,bU,o.evs⟩/\Keep (fun b=>¬F b) W w4))/\Blk w3 rb 50 #[.pointer (some ⟨bt,0,none⟩),vp,vw,.int .i64 R.qav,vl]:=fun w1 P1 ae ce hH a1 q1 w2 a2 q2 w3 R1 R2=>by
  obtain⟨g1,g2,g3,g4,g5⟩:=hH.out;have au:=aa _ _ _ _ R1;have dz:=g1.size;have nV:∀y,(Value.slice a1 i q1).ownBlock=some y->w1.heap.size<=y:=fun y hy=>by
   rcases R1.new y hy with e|e
   ·simp[Value.ownBlock]at e
   ·exact e
  have aP:Below w1.heap.size w1 w3:=au.trans ⟨R2.keep.os,R2.keep.tape,R2.keep.output,R2.keep.size,fun k hk=>R2.keep.block k (by have:=au.size;omega) (fun e=>by have:=nV k e;omega)⟩;have ly:∀y,(Value.slice a2 (i+(n-(i+1))) q2).ownBlock=some y->w1.heap.size<=y:=fun y hy=>by
   rcases R2.new y hy with e|e
   ·exact nV y e
   ·have:=au.size;omega
  have a9:(R.works.take i++R.works.drop (i+1)).length=i+(n-(i+1)):=by
   have:=HN.out
   simp;omega
  have hk:Keep (fun y=>y=rb) w1 (w3.setCell ⟨rb,2,none⟩ (.slice a2 (i+(n-(i+1))) q2)):=(Keep.new (T:=fun y=>y=rb) aP).setCell (p:=⟨rb,2,none⟩) rfl _;have aM:=g1.at_.below aP dz.2;have hM:=g1.setw (works:=R.works.take i++R.works.drop (i+1)) hk (by have:=aM.set 2 (.slice a2 (i+(n-(i+1))) q2);simpa using this) (by rw[a9,qfi];exact xrl R2.own (fun e=>by have:=ly _ e;simp at this;omega) _) ly;have ej:∀b,(Value.slice ae o.evs.length ce).ownBlock=some b->¬F b/\¬P1 b/\b≠rb/\vp.ownBlock≠some b/\(Value.slice a2 (i+(n-(i+1))) q2).ownBlock≠some b:=fun b hb=>by
   have h1:=g3 b hb;have h2:=qap g2 hb
   refine⟨fun e=>by have:=h.fo b e;omega,h1.2,by omega,fun e=>?_,fun e=>?_⟩
   ·have:=qap h.prow e;omega
   ·have:=ly b e;omega
  refine⟨?_,aM⟩
  refine(hM.takes (qaf g2 hk (fun b hb e=>(ej b hb).2.2.1 e)) ej (by rw[a9];omega) hm cJ db).mono ?_
  rintro e w4 ⟨rfl,t1,t2⟩
  exact⟨rfl,⟨_,_,_,_,_,t1⟩,(g4.trans (hk.mono (fun b e=>by rw[e];exact hz.1))).trans t2⟩
 have c0:=h.at_.cell 0;have c2:=h.at_.cell 2;simp only[xq0,xq1,xq2]at c0 c2;rw[cV]at c2;have mX:(i:Int)<n:=by omega
 have mU:(0:Int)<=i:=by omega
 have mV:¬((i:Int)<0):=by omega
 have BP:(i:Int)<=cw:=by omega
 clear db hm he ho h hi bm hn
 go_enter func42,ntmps42
 go_upto_region 1 with fail
 go_region_held3 (fun w'=>w'.cell? ⟨rb,0,none⟩=some (.pointer (some ⟨bt,0,none⟩))/\w'.cell? ⟨rb,2,none⟩=some (.slice (some ⟨gw,0,none⟩) n cw)/\w'.cell? ⟨gw,i*6,none⟩=some (.int .i64 x.num)) (go_keep)
  (first
   |(go_at_call 28;refine(aF _ ?_).mono ?_;(focus exact bel2);rintro e w1 ⟨a1,dr,P1,rfl,bL,dV,dQ⟩;have d0:=bL.cell 0;have d2:=bL.cell 2;simp only[xq0,xq1,xq2]at d0 d2;rw[cV]at d2))
 clear c0 c2 aF q0;have lA:=aK w1 P1 a1 dr dQ;have eI:Hid (RunM F w1 rb {R with k:=o.ks} P1 bt vp vw vl):=dQ.out.1;have qq:=yd w1 P1 eI;have qs:=ye w1 P1 eI;clear yd ye aK
 go_upto_region 4 with (at_builtin;refine qbd (by rfl) _ _ _ _ rfl _ _ rfl (by rfl) qq ?_;rintro v1 w2 ⟨a2,q2,rfl,R1⟩)
 have au:=aa _ _ _ _ R1;have e2:=(au.cell (p:=⟨rb,2,none⟩) bL.lt).trans d2;have jA:=qs _ _ _ R1;have mm:=fun a3 q3 w3=>lA _ _ _ a3 q3 w3 R1
 have dV:=R1.le;have gU:=R1.mx;clear qq qs aa lA d0 d2 dQ eI
 by_cases jD:i+1=cw
 ·have kM:=jA (some ⟨gw,0,none⟩) 0 (fun h=>by omega);have gu:n-(i+1)=0:=by omega
  have zr:n=i+1:=by omega
  subst jD;rw[gu]at kM;rw[gu]at mm;rw[Nat.add_zero]at kM mm;clear jA gu
  go_wp2_with (first
   |(at_builtin;refine qbd (by rfl) _ _ _ _ rfl _ _ rfl (by rfl) kM ?_;rintro v2 w3 ⟨a3,q3,rfl,R2⟩;obtain⟨aJ,aM⟩:=mm _ _ _ R2;have f3:=aM.frozen 2;have z3:=aM.cell 2;simp only[xq0,xq1,xq2]at z3)
   |(go_at_call 48;refine aJ.out.mono ?_;rintro e w4 ⟨rfl,aV⟩))
  go_ret
  exact⟨rfl,aV.out⟩
 ·have yZ:¬((i:Int)+1=cw):=by omega
  have kM:=jA (some ⟨gw,(i+1)*6,none⟩) (cw-(i+1)) (fun _=>rfl);clear jA
  go_wp2_with (first
   |(at_builtin;refine qbd (by rfl) _ _ _ _ rfl _ _ rfl (by rfl) kM ?_;rintro v2 w3 ⟨a3,q3,rfl,R2⟩;obtain⟨aJ,aM⟩:=mm _ _ _ R2;have f3:=aM.frozen 2;have z3:=aM.cell 2;simp only[xq0,xq1,xq2]at z3)
   |(go_at_call 48;refine aJ.out.mono ?_;rintro e w4 ⟨rfl,aV⟩))
  go_ret
  exact⟨rfl,aV.out⟩
end
section
variable {F:Nat->Prop}{W w':World}{rb:Nat}{R:KR}{P:Nat->Prop}{bt:Nat}{vp vw vl:Value}
theorem RunM.qsb(h:RunM F W rb R P bt vp vw vl)(hb:Below W.heap.size W Wx){o:Out}(hO:KOut P Wx bt o ev w1)(hn:R.works.length<=24)(cJ:0<=R.qav/\R.qav<=1000000)(hm:o.evs.length<=1000){an:List KW}(db:qdj (R.works,R.qav) o.evs=some (an,bU)):
  Blk w1 rb 50 #[.pointer (some ⟨bt,0,none⟩),vp,vw,.int .i64 R.qav,vl]/\(∀g j u,vp.ownBlock=some g->Wx.cell? ⟨g,j,none⟩=some u->w1.cell? ⟨g,j,none⟩=some u)/\Hid (∀w2,Below w1.heap.size w1 w2->Calls prog 48 #[.pointer (some ⟨rb,0,none⟩),ev] w2 fun e w3=>e=.returned (.bool true)/\Hid (qau F w3 rb ⟨o.ks,R.paths,an,bU,o.evs⟩/\Keep (fun b=>¬F b) W w3)):=by
 have hx:=h.below hb;have hz:=h.size;obtain⟨P1,g1,g2,g3,g4⟩:=hx.called hO;obtain⟨_,_,_,_,_,k5⟩:=hO;have cY:=hb.size
 refine⟨g1.at_,fun g j u hg hc=>(k5.cell (p:=⟨g,j,none⟩) (qap hx.prow hg) (hx.nP g (.inr (.inl hg)))).trans hc,fun w2 ag=>?_⟩
 refine((g1.below ag).takes (qfq g2 ag) (fun b bh=>?_) hn hm cJ db).mono ?_
 ·have h1:=g3 b bh
  refine⟨fun e=>by have:=h.fo b e;omega,h1.2,by omega,fun e=>?_,fun e=>?_⟩
  ·have:=qap h.prow e;omega
  ·have:=qap h.wrow e;omega
 ·rintro e w3 ⟨rfl,t1,t2⟩
  exact⟨rfl,⟨_,_,_,_,_,t1⟩,((Keep.new hb).trans (g4.trans (Keep.new ag))).trans t2⟩
def qA0 (i:Nat)(B C:Int):Int:=if 5<=i then 0 else pkN B 30
def qA1 (i:Nat)(B C:Int):Int:=if 5<=i then 0 else pkN C 30
theorem qzi(h:qau F W rb R){p:List Bs}(hp:R.paths[i]?=some p)(dg:(sb (qaa p)).size<=2000000)(dU:R.paths.length<=100)(jM:R.works.length<=24)(cJ:0<=R.qav/\R.qav<=1000000)(K A B C:Int)(hB:I64 B)(hC:I64 C){o:Out}(ho:R.k.qbb (qaa p) (qA0 i B C) (qA1 i B C) (pkN C 25) (pkN B 25)=o)(he:o.err=0\/(o.err=11/\o.evs=[]))(hm:o.evs.length<=1000){an:List KW}(db:qdj (R.works,R.qav) o.evs=some (an,bU)):
  Calls prog 43 #[.pointer (some ⟨rb,0,none⟩),.int .i64 i,.agg #[.int .i64 K,.int .i64 A,.int .i64 B,.int .i64 C]] W fun e w'=>e=.returned (.bool true)/\qau F w' rb ⟨o.ks,R.paths,an,bU,o.evs⟩/\Keep (fun b=>¬F b) W w':=by
 obtain⟨P,bt,vp,vw,vl,h⟩:=h;obtain⟨gp,cp,cu,bK,eL,b_,cO,q0⟩:=h.path hp;have mZ:=(xr0.1 hp).1;have hz:=h.size;have aJ:∀Wx,Below W.heap.size W Wx->∀x0 x1,x0=qA0 i B C->x1=qA1 i B C->Calls prog 29 #[.pointer (some ⟨bt,0,none⟩),.string (sb (qaa p)),.agg #[.int .i64 x0,.int .i64 x1],.agg #[.int .i64 (pkN C 25),.int .i64 (pkN B 25)]] Wx fun e w1=>∃a1 c1,e=.returned (.tuple #[.slice a1 o.evs.length c1,.int .i64 o.err])/\Blk w1 rb 50 #[.pointer (some ⟨bt,0,none⟩),vp,vw,.int .i64 R.qav,vl]/\w1.cell? ⟨gp,i,none⟩=some (.string (sb (qaa p)))/\Keep P Wx w1/\Hid (∀w2,Below w1.heap.size w1 w2->Calls prog 48 #[.pointer (some ⟨rb,0,none⟩),.slice a1 o.evs.length c1] w2 fun e w3=>e=.returned (.bool true)/\Hid (qau F w3 rb ⟨o.ks,R.paths,an,bU,o.evs⟩/\Keep (fun b=>¬F b) W w3)):=fun Wx hb x0 x1 e0 e1=>by
  subst e0 e1;have hx:=h.below hb
  refine(qs3 hx.tw (sb (qaa p)) dg _ _ _ _).mono ?_
  rw[qbs,ho]
  rintro e w1 ⟨ev,rfl,hO⟩
  obtain⟨t1,t2,t3⟩:=h.qsb hb hO jM cJ hm db;obtain⟨P',g1,g2,g3,g4,k5⟩:=hO;obtain⟨a1,c1,rfl,_,_⟩:=qa7 g3
  exact⟨a1,c1,rfl,t1,t2 gp i _ (by rw[cu];rfl) ((hb.cell (p:=⟨gp,i,none⟩) bK).trans q0),k5,t3⟩
 have gG:=h.tw.lt;have mK:=qli B C 30 hB hC (by omega) (by omega);have mL:=qli C B 25 hC hB (by omega) (by omega);have b0:Blk (W.alloc (.cells #[.int .i64 K,.int .i64 A,.int .i64 B,.int .i64 C] 32)) W.heap.size 32 #[.int .i64 K,.int .i64 A,.int .i64 B,.int .i64 C]:=Blk.new W 32 _;have c0:=h.at_.cell 0;have c1:=h.at_.cell 1;simp only[xq0,xq1,xq2]at c0 c1;rw[cu]at c1;have fF:(i:Int)<R.paths.length:=by omega
 have jJ:(0:Int)<=i:=by omega
 generalize R.paths.length=np at *;have tr:Hid (∀Wx,Below W.heap.size W Wx->Wx.cell? ⟨rb,0,none⟩=some (.pointer (some ⟨bt,0,none⟩))/\Wx.cell? ⟨rb,1,none⟩=some (.slice (some ⟨gp,0,none⟩) np cp)/\Wx.cell? ⟨gp,i,none⟩=some (.string (sb (qaa p)))):=fun Wx hb=>⟨(hb.cell (p:=⟨rb,0,none⟩) hz.2).trans c0,(hb.cell (p:=⟨rb,1,none⟩) hz.2).trans c1,(hb.cell (p:=⟨gp,i,none⟩) bK).trans q0⟩
 clear db hm ho h hp c0 c1 q0
 by_cases h5:5<=i
 ·have pO:(5:Int)<=i:=by omega
  have e0:qA0 i B C=0:=by unfold qA0;rw[if_pos h5]
  have e1:qA1 i B C=0:=by unfold qA1;rw[if_pos h5]
  have dm:=fun Wx hb=>aJ Wx hb 0 0 e0.symm e1.symm
  clear aJ e0 e1
  go_enter func43,ntmps43
  go_upto_region 5 with (first
   |(go_at_call 41;refine(mK _).mono ?_;clear mK;rintro e w1 ⟨rfl,aa⟩;have au:Below W.heap.size W w1:=qab (by exact bel2) aa;have b1:=b0.below aa (by simp);have z2:=b1.cell 2;have z3:=b1.cell 3;have l1:=b1.lt;simp only[xq0,xq1,xq2]at z2 z3)
   |(go_at_call 41;refine(mL _).mono ?_;clear mL;rintro e w2 ⟨rfl,ag⟩;have bA:=(Blk.new w1 35 #[.int .i64 (pkN B 30),.int .i64 (pkN C 30)]).below ag (by simp);have y0:=bA.cell 0;have y1:=bA.cell 1;have f0:=bA.frozen 0;have f1:=bA.frozen 1;have la:=bA.lt;have aP:Below W.heap.size W w2:=qab (by exact bel2) ag;simp only[xq0,xq1,xq2]at y0 y1))
  have iM:Blk (((w2.setCell ⟨w1.heap.size,0,none⟩ (.int .i64 0)).setCell ⟨w1.heap.size,1,none⟩ (.int .i64 0)).alloc (.cells #[.int .i64 (pkN C 25),.int .i64 (pkN B 25)] 35)) w1.heap.size 35 #[.int .i64 0,.int .i64 0]:=by have:=((bA.set 0 (.int .i64 0)).set 1 (.int .i64 0)).alloc (.cells #[.int .i64 (pkN C 25),.int .i64 (pkN B 25)] 35);simpa using this
  have iN:Blk (((w2.setCell ⟨w1.heap.size,0,none⟩ (.int .i64 0)).setCell ⟨w1.heap.size,1,none⟩ (.int .i64 0)).alloc (.cells #[.int .i64 (pkN C 25),.int .i64 (pkN B 25)] 35)) w2.heap.size 35 #[.int .i64 (pkN C 25),.int .i64 (pkN B 25)]:=Blk.new' (by simp);have dE:Below W.heap.size W (((w2.setCell ⟨w1.heap.size,0,none⟩ (.int .i64 0)).setCell ⟨w1.heap.size,1,none⟩ (.int .i64 0)).alloc (.cells #[.int .i64 (pkN C 25),.int .i64 (pkN B 25)] 35)):=by exact bel2
  have AM:W.heap.size<=w1.heap.size:=au.size;have AN:W.heap.size<=w2.heap.size:=aP.size;generalize ((w2.setCell ⟨w1.heap.size,0,none⟩ (.int .i64 0)).setCell ⟨w1.heap.size,1,none⟩ (.int .i64 0)).alloc (.cells #[.int .i64 (pkN C 25),.int .i64 (pkN B 25)] 35)=W5 at iM iN dE ⊢;generalize w1.heap.size=ga at *;generalize w2.heap.size=gb at *;obtain⟨c0,c1,q0⟩:=tr.out W5 dE;have u0:=iM.cell 0;have u1:=iM.cell 1;have u2:=iN.cell 0;have u3:=iN.cell 1;simp only[xq0,xq1,xq2]at u0 u1 u2 u3;have nf:¬P ga:=fun e=>by have:=gG _ e;omega
  have ng:¬P gb:=fun e=>by have:=gG _ e;omega
  clear bA y0 y1 f0 f1 b1 z2 z3 aa ag b0 tr
  rcases he with he|⟨he,ej⟩
  ·rw[he]at dm
   go_region_held3 (fun w'=>w'.cell? ⟨rb,0,none⟩=some (.pointer (some ⟨bt,0,none⟩))/\w'.cell? ⟨rb,1,none⟩=some (.slice (some ⟨gp,0,none⟩) np cp)/\w'.cell? ⟨gp,i,none⟩=some (.string (sb (qaa p)))/\w'.cell? ⟨ga,0,none⟩=some (.int .i64 0)/\w'.cell? ⟨ga,1,none⟩=some (.int .i64 0)/\w'.cell? ⟨gb,0,none⟩=some (.int .i64 (pkN C 25))/\w'.cell? ⟨gb,1,none⟩=some (.int .i64 (pkN B 25))) (go_keep)
    (first
     |(go_at_call 29;refine(dm _ ?_).mono ?_;(focus exact bel2);rintro e w3 ⟨a1,dr,rfl,bL,dV,fP,fy⟩;have d0:=bL.cell 0;have d1:=bL.cell 1;have k0:=(fP.cell (p:=⟨ga,0,none⟩) iM.lt nf).trans u0;have k1:=(fP.cell (p:=⟨ga,1,none⟩) iM.lt nf).trans u1;have k2:=(fP.cell (p:=⟨gb,0,none⟩) iN.lt ng).trans u2;have k3:=(fP.cell (p:=⟨gb,1,none⟩) iN.lt ng).trans u3;simp only[xq0,xq1,xq2]at d0 d1;rw[cu]at d1))
   go_wp2_with (go_at_call 48;refine(fy.out _ ?_).mono ?_;(focus exact bel2);rintro e w4 ⟨rfl,aV⟩)
   go_ret
   exact⟨rfl,aV.out⟩
  ·have tQ:o.evs.length=0:=by rw[ej];rfl
   rw[he,tQ]at dm
   go_region_held3 (fun w'=>w'.cell? ⟨rb,0,none⟩=some (.pointer (some ⟨bt,0,none⟩))/\w'.cell? ⟨rb,1,none⟩=some (.slice (some ⟨gp,0,none⟩) np cp)/\w'.cell? ⟨gp,i,none⟩=some (.string (sb (qaa p)))/\w'.cell? ⟨ga,0,none⟩=some (.int .i64 0)/\w'.cell? ⟨ga,1,none⟩=some (.int .i64 0)/\w'.cell? ⟨gb,0,none⟩=some (.int .i64 (pkN C 25))/\w'.cell? ⟨gb,1,none⟩=some (.int .i64 (pkN B 25))) (go_keep)
    (first
     |(go_at_call 29;refine(dm _ ?_).mono ?_;(focus exact bel2);rintro e w3 ⟨a1,dr,rfl,bL,dV,fP,fy⟩;have d0:=bL.cell 0;have d1:=bL.cell 1;have k0:=(fP.cell (p:=⟨ga,0,none⟩) iM.lt nf).trans u0;have k1:=(fP.cell (p:=⟨ga,1,none⟩) iM.lt nf).trans u1;have k2:=(fP.cell (p:=⟨gb,0,none⟩) iN.lt ng).trans u2;have k3:=(fP.cell (p:=⟨gb,1,none⟩) iN.lt ng).trans u3;simp only[xq0,xq1,xq2]at d0 d1;rw[cu]at d1))
   go_wp2_with (go_at_call 48;refine(fy.out _ ?_).mono ?_;(focus exact bel2);rintro e w4 ⟨rfl,aV⟩)
   go_ret
   exact⟨rfl,aV.out⟩
 ·have pO:¬((5:Int)<=i):=by omega
  have e0:qA0 i B C=pkN B 30:=by unfold qA0;rw[if_neg h5]
  have e1:qA1 i B C=pkN C 30:=by unfold qA1;rw[if_neg h5]
  have dm:=fun Wx hb=>aJ Wx hb (pkN B 30) (pkN C 30) e0.symm e1.symm
  clear aJ e0 e1
  go_enter func43,ntmps43
  go_upto_region 5 with (first
   |(go_at_call 41;refine(mK _).mono ?_;clear mK;rintro e w1 ⟨rfl,aa⟩;have au:Below W.heap.size W w1:=qab (by exact bel2) aa;have b1:=b0.below aa (by simp);have z2:=b1.cell 2;have z3:=b1.cell 3;have l1:=b1.lt;simp only[xq0,xq1,xq2]at z2 z3)
   |(go_at_call 41;refine(mL _).mono ?_;clear mL;rintro e w2 ⟨rfl,ag⟩;have bA:=(Blk.new w1 35 #[.int .i64 (pkN B 30),.int .i64 (pkN C 30)]).below ag (by simp);have y0:=bA.cell 0;have y1:=bA.cell 1;have f0:=bA.frozen 0;have f1:=bA.frozen 1;have la:=bA.lt;have aP:Below W.heap.size W w2:=qab (by exact bel2) ag;simp only[xq0,xq1,xq2]at y0 y1))
  have iM:Blk (w2.alloc (.cells #[.int .i64 (pkN C 25),.int .i64 (pkN B 25)] 35)) w1.heap.size 35 #[.int .i64 (pkN B 30),.int .i64 (pkN C 30)]:=bA.alloc _;have iN:Blk (w2.alloc (.cells #[.int .i64 (pkN C 25),.int .i64 (pkN B 25)] 35)) w2.heap.size 35 #[.int .i64 (pkN C 25),.int .i64 (pkN B 25)]:=Blk.new' (by simp);have dE:Below W.heap.size W (w2.alloc (.cells #[.int .i64 (pkN C 25),.int .i64 (pkN B 25)] 35)):=by exact bel2
  have AM:W.heap.size<=w1.heap.size:=au.size;have AN:W.heap.size<=w2.heap.size:=aP.size;generalize w2.alloc (.cells #[.int .i64 (pkN C 25),.int .i64 (pkN B 25)] 35)=W5 at iM iN dE ⊢;generalize w1.heap.size=ga at *;generalize w2.heap.size=gb at *;obtain⟨c0,c1,q0⟩:=tr.out W5 dE;have u0:=iM.cell 0;have u1:=iM.cell 1;have u2:=iN.cell 0;have u3:=iN.cell 1;simp only[xq0,xq1,xq2]at u0 u1 u2 u3;have nf:¬P ga:=fun e=>by have:=gG _ e;omega
  have ng:¬P gb:=fun e=>by have:=gG _ e;omega
  clear bA y0 y1 f0 f1 b1 z2 z3 aa ag b0 tr
  rcases he with he|⟨he,ej⟩
  ·rw[he]at dm
   go_region_held3 (fun w'=>w'.cell? ⟨rb,0,none⟩=some (.pointer (some ⟨bt,0,none⟩))/\w'.cell? ⟨rb,1,none⟩=some (.slice (some ⟨gp,0,none⟩) np cp)/\w'.cell? ⟨gp,i,none⟩=some (.string (sb (qaa p)))/\w'.cell? ⟨ga,0,none⟩=some (.int .i64 (pkN B 30))/\w'.cell? ⟨ga,1,none⟩=some (.int .i64 (pkN C 30))/\w'.cell? ⟨gb,0,none⟩=some (.int .i64 (pkN C 25))/\w'.cell? ⟨gb,1,none⟩=some (.int .i64 (pkN B 25))) (go_keep)
    (first
     |(go_at_call 29;refine(dm _ ?_).mono ?_;(focus exact bel2);rintro e w3 ⟨a1,dr,rfl,bL,dV,fP,fy⟩;have d0:=bL.cell 0;have d1:=bL.cell 1;have k0:=(fP.cell (p:=⟨ga,0,none⟩) iM.lt nf).trans u0;have k1:=(fP.cell (p:=⟨ga,1,none⟩) iM.lt nf).trans u1;have k2:=(fP.cell (p:=⟨gb,0,none⟩) iN.lt ng).trans u2;have k3:=(fP.cell (p:=⟨gb,1,none⟩) iN.lt ng).trans u3;simp only[xq0,xq1,xq2]at d0 d1;rw[cu]at d1))
   go_wp2_with (go_at_call 48;refine(fy.out _ ?_).mono ?_;(focus exact bel2);rintro e w4 ⟨rfl,aV⟩)
   go_ret
   exact⟨rfl,aV.out⟩
  ·have tQ:o.evs.length=0:=by rw[ej];rfl
   rw[he,tQ]at dm
   go_region_held3 (fun w'=>w'.cell? ⟨rb,0,none⟩=some (.pointer (some ⟨bt,0,none⟩))/\w'.cell? ⟨rb,1,none⟩=some (.slice (some ⟨gp,0,none⟩) np cp)/\w'.cell? ⟨gp,i,none⟩=some (.string (sb (qaa p)))/\w'.cell? ⟨ga,0,none⟩=some (.int .i64 (pkN B 30))/\w'.cell? ⟨ga,1,none⟩=some (.int .i64 (pkN C 30))/\w'.cell? ⟨gb,0,none⟩=some (.int .i64 (pkN C 25))/\w'.cell? ⟨gb,1,none⟩=some (.int .i64 (pkN B 25))) (go_keep)
    (first
     |(go_at_call 29;refine(dm _ ?_).mono ?_;(focus exact bel2);rintro e w3 ⟨a1,dr,rfl,bL,dV,fP,fy⟩;have d0:=bL.cell 0;have d1:=bL.cell 1;have k0:=(fP.cell (p:=⟨ga,0,none⟩) iM.lt nf).trans u0;have k1:=(fP.cell (p:=⟨ga,1,none⟩) iM.lt nf).trans u1;have k2:=(fP.cell (p:=⟨gb,0,none⟩) iN.lt ng).trans u2;have k3:=(fP.cell (p:=⟨gb,1,none⟩) iN.lt ng).trans u3;simp only[xq0,xq1,xq2]at d0 d1;rw[cu]at d1))
   go_wp2_with (go_at_call 48;refine(fy.out _ ?_).mono ?_;(focus exact bel2);rintro e w4 ⟨rfl,aV⟩)
   go_ret
   exact⟨rfl,aV.out⟩
end
theorem qph(p a:ByteArray)(w:World)(_hp:p.size<=2000000)(_ha:a.size<=2000000):
  Calls prog 35 #[.string p,.string a] w fun e w'=>e=.returned (.bool (inB (bl p) (bl a)))/\w'=w:=by
 have HI:Hid (inB (bl p) (bl a)=(a.toList.isEmpty||(p.toList == a.toList)||(decide (a.size<p.size)&&((p.extract 0 a.size).toList == a.toList)&&(if h:a.size<p.size then((p[a.size].toNat:Int) == 47) else false)))):=qxm p a
 cases hz:a.toList.isEmpty<;>cases he:(p.toList == a.toList)
 all_goals
  go_enter func35,ntmps35
  go_wp2
  all_goals go_ret
  all_goals refine⟨qbt ?_,rfl⟩
  all_goals rw[HI.out]
  all_goals simp[*]
theorem qk9(s:ByteArray)(k:Nat):s.extract k s.size=sb ((bl s).drop k):=by
 refine qd8 ?_
 rw[qbs,qc6]
 exact xrd (by rw[List.length_drop,qcl];omega)
theorem q0n(s:ByteArray)(hs:s.size<=2000000)(w:World):
  Calls prog 76 #[.string s] w fun e w'=>(∃k,k<=s.size/\e=.returned (.string (sb ((bl s).drop k)))/\¬qd5 ((bl s).drop k)/\(k=0\/(bl s)[k-1]?=some 47))/\w'=w:=by
 go_enter func76,ntmps76
 go_wp2
 go_loopw [3] (fun i wr=>∃k:Nat,k<=s.size/\i=.int .i64 k/\Hid (¬qd5 ((bl s).drop k))/\wr=w) (fun i _=>(intOf i).toNat)
 case atStart=>exact⟨s.size,Nat.le_refl _,rfl,by show ¬qd5 _;rw[<-qcl,List.drop_length];simp[qd5],rfl⟩
 case round =>
  obtain⟨k,hk,rfl,ay,rfl⟩:=hrel
  match k,hk,ay with
  |0,hk,ay =>
   have HS:Hid (s=sb ((bl s).drop 0)):=by show s=_;rw[List.drop_zero,qtz]
   go_wp2
   go_ret
   exact⟨⟨0,Nat.zero_le _,congrArg (fun x=>Ending.returned (.string x)) HS.out,ay.out,.inl rfl⟩,rfl⟩
  |m+1,hk,ay =>
   have h1:(m:Int)<s.size:=by omega
   have h2:(0:Int)<=m:=by omega
   have h3:((m+1:Nat):Int)-1=m:=by omega
   have h4:(0:Int)<((m+1:Nat):Int):=by omega
   have hm:m<s.size:=by omega
   have HG:Hid ((bl s)[m]?=some s[m]):=by
    show _=_
    rw[xr1 (by rw[qcl];exact hm),qr8]
   have HD:Hid ((bl s).drop m=s[m]::(bl s).drop (m+1)):=qns HG.out;have HU:Hid (((s[m].toNat:Int))=47↔s[m]=47):=quh _ 47 (by omega)
   by_cases c:((s[m].toNat:Int))=47
   ·have HE:Hid (s.extract (m+1) s.size=sb ((bl s).drop (m+1))):=qk9 s (m+1);have HC:Hid (s[m]=47):=HU.out.1 c
    go_wp2
    go_ret
    exact⟨⟨m+1,hk,congrArg (fun x=>Ending.returned (.string x)) HE.out,ay.out,.inr (by simp only[Nat.add_sub_cancel];rw[HG.out,HC.out])⟩,rfl⟩
   ·have HC:Hid (¬(s[m]=47)):=fun e=>c (HU.out.2 e)
    go_wp2
    refine⟨⟨m,by omega,rfl,?_,trivial⟩,by simp[intOf]⟩
    show ¬qd5 _
    rw[HD.out];unfold qd5;rw[List.mem_cons]
    rintro(e|e)
    ·exact HC.out e.symm
    ·exact ay.out e
theorem qmv{l a n:Bs}(hl:l=a++n)(ha:a=[]\/∃a',a=a'++[47])(hn:¬qd5 n)(h1:¬qd5 (l.drop k))(h2:k=0\/l[k-1]?=some 47):l.drop k=n:=by
 rcases Nat.lt_trichotomy k a.length with ak|gm|wv
 ·exfalso
  rcases ha with rfl|⟨a',rfl⟩
  ·simp at ak
  ·refine h1 ?_
   unfold qd5;rw[hl,List.drop_append_of_le_length (by omega),List.drop_append_of_le_length (by simp at ak;omega)]
   simp
 ·rw[hl,gm,List.drop_left]
 ·exfalso
  rcases h2 with rfl|h2
  ·omega
  ·rw[hl,xro (by omega)]at h2
   exact hn (xr2 h2)
theorem qs5{p:List Bs}(hp:qbx p=true)(gd:p≠[])(hs:(sb (qaa p)).size<=2000000)(w:World):Calls prog 76 #[.string (sb (qaa p))] w fun e w'=>e=.returned (.string (sb (qad p)))/\w'=w:=by
 refine(q0n _ hs w).mono ?_
 rintro e w' ⟨⟨k,hk,rfl,h1,h2⟩,rfl⟩
 rw[qbs]at h1 h2 ⊢
 refine⟨?_,rfl⟩
 congr 3
 rcases List.eq_nil_or_concat p with rfl|⟨q,n,rfl⟩
 ·exact absurd rfl gd
 ·rw[List.concat_eq_append]at hp h1 h2 ⊢;rw[qaq];have hn:¬qd5 n:=by
   have:=List.all_eq_true.1 hp n (by simp)
   exact qec this
  by_cases hq:q=[]
  ·subst hq
   exact qmv (a:=[]) (by simp[qaa]) (.inl rfl) hn h1 h2
  ·exact qmv (a:=qaa q++[47]) (by rw[qhg q n hq];simp) (.inr ⟨_,rfl⟩) hn h1 h2
section
variable {F:Nat->Prop}{W w':World}{rb:Nat}{R:KR}{P:Nat->Prop}{bt:Nat}{vp vw vl:Value}
theorem qvl(h:qau F W rb R){p:List Bs}(hp:R.paths[i]?=some p)(dg:(sb (qaa p)).size<=2000000)(dU:R.paths.length<=100)(ts:ByteArray)(p_:ts.size<=2000000){o:Out}(ho:R.k.move (qaa p) (bl ts)=o)(he:o.err≠0)(ej:o.evs=[])(zl:o.ks=R.k):
  Calls prog 44 #[.pointer (some ⟨rb,0,none⟩),.int .i64 i,.string ts] W fun e w'=>e=.returned (.bool true)/\qau F w' rb R/\Keep (fun b=>¬F b) W w':=by
 obtain⟨P,bt,vp,vw,vl,h⟩:=h;obtain⟨gp,cp,cu,bK,eL,b_,cO,q0⟩:=h.path hp;have mZ:=(xr0.1 hp).1;have hz:=h.size;have aJ:∀Wx,Below W.heap.size W Wx->Calls prog 30 #[.pointer (some ⟨bt,0,none⟩),.string (sb (qaa p)),.string ts] Wx fun e w1=>∃a1 c1,e=.returned (.tuple #[.slice a1 0 c1,.int .i64 o.err])/\Blk w1 rb 50 #[.pointer (some ⟨bt,0,none⟩),vp,vw,.int .i64 R.qav,vl]/\w1.cell? ⟨gp,i,none⟩=some (.string (sb (qaa p)))/\Hid (qau F w1 rb R/\Keep (fun b=>¬F b) W w1):=fun Wx hb=>by
  have hx:=h.below hb
  refine(qs2 hx.tw (sb (qaa p)) ts dg p_).mono ?_
  rw[qbs,ho]
  rintro e w1 ⟨ev,rfl,hO⟩
  obtain⟨P1,g1,g2,g3,g4⟩:=hx.called hO;rw[ej]at g2;obtain⟨a1,c1,rfl,_,_⟩:=qa7 g2;obtain⟨_,_,e1,_,_,_,_,q1⟩:=g1.path (i:=i) (p:=p) hp;have lV:=cu.symm.trans e1;injection lV with e2;injection e2 with e2;injection e2 with e2;subst e2;rw[zl]at g1
  exact⟨a1,c1,rfl,g1.at_,q1,⟨_,_,_,_,_,g1⟩,(Keep.new hb).trans g4⟩
 have c0:=h.at_.cell 0;have c1:=h.at_.cell 1;simp only[xq0,xq1,xq2]at c0 c1;rw[cu]at c1;have fF:(i:Int)<R.paths.length:=by omega
 have jJ:(0:Int)<=i:=by omega
 generalize R.paths.length=np at *;generalize o.err=er at *;clear h hp ho ej zl
 go_enter func44,ntmps44
 go_upto_region 1 with fail
 go_region_held3 (fun w'=>w'.cell? ⟨rb,0,none⟩=some (.pointer (some ⟨bt,0,none⟩))/\w'.cell? ⟨rb,1,none⟩=some (.slice (some ⟨gp,0,none⟩) np cp)/\w'.cell? ⟨gp,i,none⟩=some (.string (sb (qaa p)))) (go_keep)
  (first
   |(go_at_call 30;refine(aJ _ ?_).mono ?_;(focus exact bel2);rintro e w1 ⟨a1,dr,rfl,bL,dV,dQ⟩;have d0:=bL.cell 0;have d1:=bL.cell 1;simp only[xq0,xq1,xq2]at d0 d1;rw[cu]at d1))
 go_wp2_with fail
 go_ret
 exact⟨rfl,dQ.out⟩
structure PwAt (w:World) (vp:Value) (ps:List (List Bs)) (W:World):Prop where
 row:W.ownsRow 0 9 1 vp ps.length (qfl ps)
 keep:Keep (fun b=>vp.ownBlock=some b) w W
theorem RunM.setp(h:RunM F W rb R P bt vp vw vl){ps:List (List Bs)}(hp:PwAt W vp ps w'):RunM F w' rb {R with paths:=ps} P bt vp vw vl/\Keep (fun b=>¬F b) W w':=by
 have hz:=h.size
 refine⟨⟨h.tw.keep hp.keep (fun b hb e=>h.nP b (.inr (.inl e)) hb),h.at_.keep hp.keep h.ne.1,hp.row,qaf h.wrow hp.keep (fun b hb e=>(h.pw b e).1 hb),qaf h.lrow hp.keep (fun b hb e=>(h.pw b e).2 hb),h.nP,h.lo,fun b hb=>xrg (h.fo b hb) hp.keep.size,h.ne,h.pw,h.wl⟩,hp.keep.mono (fun b e=>h.lo b (.inr (.inr (.inl e))))⟩
end
def qhc (L:List Ent)(A:List Wk)(v:Wk):Prop :=
 (ws0 (qae A (qaa v.key))>es0 (qai L (qaa v.key))/\v.d0>0/\∀y∈A,y.key=v.key->0<y.st->y.d0>0->y.st<=v.st) \/
 (ws1 (qae A (qaa v.key))>es1 (qai L (qaa v.key))/\v.d1>0/\∀y∈A,y.key=v.key->0<y.st->y.d1>0->y.st<=v.st)
inductive Ev (L:List Ent):Bool->List Wk->Int->List (Int×Int)->List Wk->Int->Prop
 |nil {A B:List Wk} {st:Int}:A.Perm B->Ev L false A st [] B st
 |adm {p:Bool} {A B:List Wk} {st bU:Int} {es:List (Int×Int)} {x:Wk}:x∈A->x.st=0->(p=true->ownW L A x=true)->Ev L false (qd7 A x.num (st+1)) (st+1) es B bU->Ev L p A st ((1,x.num)::es) B bU
 |evi {p:Bool} {A B:List Wk} {st bU:Int} {es:List (Int×Int)} {v:Wk}:v∈A->0<v.st->qhc L A v->Ev L true (qd7 A v.num 0) st es B bU->Ev L p A st ((2,v.num)::es) B bU
theorem qdb{B:List Wk}(h:A.Perm B)(k:Bs):(qae A k).Perm (qae B k):=h.filter _
theorem qv0{B:List Wk}(h:A.Perm B)(x:Wk):ownW L A x=ownW L B x:=by
 unfold ownW;rw[qe8 (qdb h _),qe9 (qdb h _)]
theorem qhc.perm{B:List Wk}(h:A.Perm B){v:Wk}(hf:qhc L A v):qhc L B v:=by
 unfold qhc at hf ⊢;rw[<-qe8 (qdb h _),<- qe9 (qdb h _)]
 rcases hf with ⟨a,b,c⟩|⟨a,b,c⟩
 ·exact Or.inl ⟨a,b,fun y hy=>c y (h.mem_iff.2 hy)⟩
 ·exact Or.inr ⟨a,b,fun y hy=>c y (h.mem_iff.2 hy)⟩
theorem qex{B:List Wk}(h:A.Perm B)(n t:Int):(qd7 A n t).Perm (qd7 B n t):=h.map _
theorem Ev.perm{p:Bool}{B:List Wk}(h:Ev L p A st es B bU):∀ {A':List Wk},A'.Perm A->Ev L p A' st es B bU:=by
 induction h with
 |nil h=>intro A' hp;exact .nil (hp.trans h)
 |adm h1 h2 h3 h4 ih=>intro A' hp;exact .adm (hp.mem_iff.2 h1) h2 (fun e=>by rw[qv0 hp];exact h3 e) (ih (qex hp _ _))
 |evi h1 h2 h3 h4 ih=>intro A' hp;exact .evi (hp.mem_iff.2 h1) h2 (h3.perm hp.symm) (ih (qex hp _ _))
theorem Ev.trans{p:Bool}{B:List Wk}(h:Ev L p A st es B zX):Ev L false B zX lW C zY->Ev L p A st (es++lW) C zY:=by
 induction h with
 |nil h=>intro h2;exact h2.perm h
 |adm h1 h2 h3 h4 ih=>intro h5;exact .adm h1 h2 h3 (ih h5)
 |evi h1 h2 h3 h4 ih=>intro h5;exact .evi h1 h2 h3 (ih h5)
theorem qqf{Ws:List Wk}(hn:(Ws.map (·.num)).Nodup){v:Wk}(hi:Ws[i]?=some v):(v.adm 0::(Ws.take i++Ws.drop (i+1))).Perm (qd7 Ws v.num 0):=by
 rw[qcg hn hi,qfr hi]
 exact List.perm_middle.symm
theorem qwy{α : Type}{l:List α}{x : α}(h:l[i]?=some x):x∈l:=xr2 h
theorem qos{Ws:List Wk}(hS:WkS Ws st){v:Wk}(h:qda L Ws x=some i)(hi:Ws[i]?=some v)(hw:way L Ws x v=true):qhc L Ws v:=by
 have eX:∀u∈Ws,u.st≠0->way L Ws x u=true->u.st<=v.st:=fun u hu h0 xy=>by
  obtain⟨k,hk,wH⟩:=List.getElem_of_mem hu;have cx:Ws[k]?=some u:=by rw[xr1 hk,wH]
  obtain⟨b,z,e1,e2,e3⟩:=qdh L Ws x Ws.length k u hk cx h0 xy
  have:some b=some i:=e1.symm.trans h
  injection this with this;subst this;rw[hi]at e2;cases e2
  exact e3
 unfold way at hw;rw[xs0]at hw;obtain⟨e,he,hw⟩:=hw;rw[Bool.or_eq_true]at hw
 rcases hw with hw|hw
 ·left
  have h2:=hw;unfold way0 at h2;simp only[Bool.and_eq_true,decide_eq_true_eq]at h2
  refine⟨h2.2.2.2.1,h2.2.2.2.2,fun y hy hk h0 hd=>eX y hy (by omega) ?_⟩
  unfold way;rw[xs0]
  refine⟨e,he,?_⟩
  rw[Bool.or_eq_true];left;unfold way0;simp only[Bool.and_eq_true,decide_eq_true_eq,hk]
  exact⟨h2.1,h2.2.1,h2.2.2.1,h2.2.2.2.1,hd⟩
 ·right
  have h2:=hw;unfold way1 at h2;simp only[Bool.and_eq_true,decide_eq_true_eq]at h2
  refine⟨h2.2.2.2.1,h2.2.2.2.2,fun y hy hk h0 hd=>eX y hy (by omega) ?_⟩
  unfold way;rw[xs0]
  refine⟨e,he,?_⟩
  rw[Bool.or_eq_true];right;unfold way1;simp only[Bool.and_eq_true,decide_eq_true_eq,hk]
  exact⟨h2.1,h2.2.1,h2.2.2.1,h2.2.2.2.1,hd⟩
theorem qtv:∀(n:Nat) (s:MS) (p:Bool) (C:List Wk) (bU:Int) (lW:List (Int×Int)),RInv L x st s.Ws->(∀p,Ev L p (room L x n s).Ws st lW C bU)->∃es,(room L x n s).evs=s.evs++es/\Ev L p s.Ws st (es++lW) C bU
 |0,s,p,C,bU,lW,R,h=>⟨[],by simp[room],h p⟩
 |n+1,s,p,C,bU,lW,R,h=>by
  cases hr:qa3 L x s with
  |none=>rw[room_end hr]at h ⊢;exact⟨[],by simp,h p⟩
  |some s' =>
   rw[qlu hr]at h ⊢;obtain⟨i,v,h1,h2,h3,h4,h5,h6⟩:=qdo hr;obtain⟨es,g1,g2⟩:=qtv n s' true C bU lW (R.step hr).1 h;have hv:=qwy h3;have jw:0<v.st:=by have:=(R.wks.st v hv).1;omega
   refine⟨(2,v.num)::es,by rw[g1,h6];simp,.evi hv jw (qos R.wks h1 h3 h5) ?_⟩
   refine g2.perm ?_
   rw[h6]
   exact(qqf R.wks.nums h3).symm
theorem qzl(h:SInv s)(he:qbc L s=some s'):∃es,s'.evs=s.evs++es/\Ev L false s.Ws s.st es s'.Ws s'.st:=by
 obtain⟨b,x,h1,h2,h3,h4,rfl⟩:=qee he;have R:=h.rinv h2 h3 h4;have R2:=(R.room (admN s.Ws) ⟨s.Ws,s.evs⟩).1;obtain⟨m1,m2,_⟩:=qaj R2.head;obtain⟨es,g1,g2⟩:=qtv (admN s.Ws) ⟨s.Ws,s.evs⟩ false _ (s.st+1) [(1,x.num)] R (fun p=>.adm m1 m2 (fun _=>R2.own) (.nil (List.Perm.refl _)))
 exact⟨es++[(1,x.num)],by simp only[qdz];rw[g1];simp,g2⟩
theorem qxl(h:SInv s)(he:qat L s=some s'):∃es,s'.evs=s.evs++es/\Ev L false s.Ws s.st es s'.Ws s'.st:=by
 obtain⟨b,x,h1,h2,h3,h4,rfl⟩:=qcz he
 refine⟨[(1,x.num)],rfl,.adm (qwy h2) (qgt h3) (fun e=>by cases e) (.nil ?_)⟩
 rw[qcg h.wks.nums h2]
 exact List.Perm.refl _
theorem qn4{f:SS->Option SS}(hI:∀s s',SInv s->f s=some s'->SInv s'/\∃es,s'.evs=s.evs++es/\Ev L false s.Ws s.st es s'.Ws s'.st):∀(n:Nat) (s:SS),SInv s->∃es,(qbf f n s).evs=s.evs++es/\Ev L false s.Ws s.st es (qbf f n s).Ws (qbf f n s).st
 |0,s,h=>⟨[],by simp[qbf],.nil (List.Perm.refl _)⟩
 |n+1,s,h=>by
  unfold qbf
  cases hf:f s with
  |none=>exact⟨[],by simp,.nil (List.Perm.refl _)⟩
  |some s' =>
   obtain⟨h1,es,h2,h3⟩:=hI s s' h hf;obtain⟨lW,g2,g3⟩:=qn4 hI n s' h1
   exact⟨es++lW,by simp only;rw[g2,h2];simp,h3.trans g3⟩
theorem qt2(L:List Ent){Ws:List Wk}(h:SInv ⟨Ws,st,[]⟩):Ev L false Ws st (qal L ⟨Ws,st,[]⟩).evs (qal L ⟨Ws,st,[]⟩).Ws (qal L ⟨Ws,st,[]⟩).st:=by
 have e:qal L ⟨Ws,st,[]⟩=qbf (qat L) Ws.length (qbf (qbc L) Ws.length ⟨Ws,st,[]⟩):=rfl;rw[e];obtain⟨e1,a1,a2⟩:=qn4 (f:=qbc L) (fun a b ha he=>⟨(ha.own he).1,qzl ha he⟩) Ws.length ⟨Ws,st,[]⟩ h;have hI:=qdv (f:=qbc L) (I:=SInv) (fun a b ha he=>(ha.own he).1) Ws.length ⟨Ws,st,[]⟩ h;obtain⟨e2,b1,b2⟩:=qn4 (f:=qat L) (fun a b ha he=>⟨(ha.idle he).1,qxl ha he⟩) Ws.length _ hI
 have:=a2.trans b2
 rw[b1,a1]
 simpa using this
def NB (L:List Ent)(Ws:List Wk):Prop:=∀e∈L,ws0 (qae Ws (qaa e.key))<=es0 (qai L (qaa e.key))+e.b0/\ws1 (qae Ws (qaa e.key))<=es1 (qai L (qaa e.key))+e.b1
theorem qw0{Ws:List Wk}:qct L Ws=false↔NB L Ws:=by
 unfold qct NB;rw[List.any_eq_false]
 constructor
 ·intro h e he
  have:=h e he
  unfold qtk sh0 sh1 at this;simp only[Bool.or_eq_true,decide_eq_true_eq,not_or]at this
  omega
 ·intro h e he
  have:=h e he
  unfold qtk sh0 sh1;simp only[Bool.or_eq_true,decide_eq_true_eq,not_or]
  omega
theorem NB.qjs{Ws:List Wk}(h:NB L Ws)(hW:Wks Ws){v:Wk}(hi:Ws[i]?=some v)(hv:0<v.st):NB L (v.adm 0::(Ws.take i++Ws.drop (i+1))):=fun e he=>by
 have h1:=h e he;have u:=qjn hi hv (qaa e.key);have h2:=hW.num v (xr2 hi)
 revert u
 split<;>intro u<;>omega
theorem NB.admit{Ws:List Wk}(h:NB L Ws)(hi:Ws[i]?=some x)(hx:x.st=0){t:Int}(ht:0<t)(hf:qbv L Ws x=true):NB L (Ws.set i (x.adm t)):=fun e he=>by
 have h1:=h e he;have u:=qfu hi hx ht (qaa e.key);unfold qbv at hf;rw[List.all_eq_true]at hf;have hf:=hf e he;unfold tight sh0 sh1 at hf
 cases bD:inB (qaa x.key) (qaa e.key)
 ·rw[bD]at u;simp at u;omega
 ·rw[bD]at u hf;simp at u hf;omega
theorem qor{α : Type}[DecidableEq α](f : α -> Int)(d:Int)(k0 : α):∀(K:List α),K.Nodup->k0∈K->(K.map fun k=>(if k0=k then d else 0)+f k).sum=d+(K.map f).sum
 | [],_,h=>by cases h
 |a::K,hn,h=>by
  rw[List.nodup_cons]at hn;simp only[List.map_cons,List.sum_cons]
  by_cases e:k0=a
  ·subst e
   have:(K.map fun k=>(if k0=k then d else 0)+f k)=K.map f:=List.map_congr_left fun k hk=>by
    have aW:¬(k0=k):=fun e=>hn.1 (by rw[e];exact hk)
    rw[if_neg aW];omega
   rw[this,if_pos rfl];omega
  ·rw[if_neg e,qor f d k0 K hn.2 (by rcases List.mem_cons.1 h with e'|e';exact absurd e' e;exact e')]
   omega
theorem qw5{α : Type}(f g : α -> Int):∀(K:List α),(∀k∈K,f k<=g k)->(K.map f).sum<=(K.map g).sum
 | [],_=>by simp
 |a::K,h=>by
  have h1:=h a (by simp);have h2:=qw5 f g K (fun k hk=>h k (by simp[hk]));simp only[List.map_cons,List.sum_cons]
  omega
theorem qne(d:Wk->Int)(K:List (List Bs))(hK:K.Nodup):∀A:List Wk,(∀y∈A,y.key∈K)->(A.map d).sum=(K.map fun k=>((A.filter fun y=>decide (y.key=k)).map d).sum).sum
 | [],_=>by
  have:∀K:List (List Bs),(K.map fun k=>(([]:List Wk).filter (fun y=>decide (y.key=k)) |>.map d).sum).sum=0:=by
   intro K;induction K with
   |nil=>rfl
   |cons a K ih=>simp only[List.map_cons,List.sum_cons,ih];rfl
  rw[this];rfl
 |a::A,h=>by
  have ih:=qne d K hK A (fun y hy=>h y (by simp[hy]));have e:(K.map fun k=>(((a::A).filter fun y=>decide (y.key=k)).map d).sum)=K.map fun k=>(if a.key=k then d a else 0)+((A.filter fun y=>decide (y.key=k)).map d).sum:=by
   refine List.map_congr_left fun k hk=>?_
   rw[xrz]
   by_cases e:a.key=k
   ·simp[e]
   ·simp[e]
  rw[e,qor _ _ _ K hK (h a (by simp)),<- ih]
  simp
theorem qqh(h:(L.map (·.key)).Nodup){m:Ent}(hm:m∈L):(L.filter fun e=>decide (e.key=m.key))=[m]:=by
 induction L with
 |nil=>cases hm
 |cons a L ih =>
  rw[List.map_cons,List.nodup_cons]at h;rw[xrz]
  rcases List.mem_cons.1 hm with e|e
  ·subst e
   have:(L.filter fun e=>decide (e.key=m.key))=[]:=by
    rw[List.filter_eq_nil_iff];intro y hy;simp only[decide_eq_true_eq];intro e
    exact h.1 (e ▸ xrj hy)
   rw[this];simp
  ·have aW:a.key≠m.key:=fun e'=>h.1 (e' ▸ xrj e)
   simp only[aW,decide_false,Bool.false_eq_true,if_false]
   exact ih h.2 e
section
variable {nodes:List Node}{Ws:List Wk}{cnt:Int}
theorem qjk(T:Tree nodes):((nodes.map Node.ent).map (·.key)).Nodup:=by
 rw[List.map_map];exact T.nodup
theorem qhp(T:Tree nodes){m:Ent}(hm:m∈nodes.map Node.ent)(hl:m.leaf=true):qai (nodes.map Node.ent) (qaa m.key)=[m]:=by
 rw[<-qqh (qjk T) hm];unfold qai
 refine List.filter_congr fun e he=>?_
 obtain⟨n,hn,rfl⟩:=xrq.1 he;obtain⟨p,hp,rfl⟩:=xrq.1 hm
 show(n.leaf&&inB (qaa n.key) (qaa p.key))=decide (n.key=p.key)
 by_cases e:n.key=p.key
 ·have:n=p:=T.inj n hn p hp e
  subst this;have mi:n.leaf=true:=hl;rw[mi,qie];simp
 ·have:inB (qaa n.key) (qaa p.key)=false:=by
   cases hb:inB (qaa n.key) (qaa p.key)
   ·rfl
   ·exact absurd (qif T hp hl _ n hn rfl ((qe1 (T.ok n hn).1 (T.ok p hp).1).1 hb)).symm e
  rw[this];simp[e]
theorem quq(T:Tree nodes)(W:WkL nodes Ws cnt)(hy:y∈Ws):∃m∈nodes.map Node.ent,m.leaf=true/\m.key=y.key:=by
 obtain⟨n,hn,e1,e2⟩:=W.leaf y hy
 exact⟨n.ent,xrj hn,e2,e1⟩
theorem qgg(T:Tree nodes)(W:WkL nodes Ws cnt){m:Ent}(hm:m∈nodes.map Node.ent)(hl:m.leaf=true):qae Ws (qaa m.key)=Ws.filter fun y=>decide (0<y.st)&&decide (y.key=m.key):=by
 unfold qae
 refine List.filter_congr fun y hy=>?_
 obtain⟨n,hn,e1,e2⟩:=W.leaf y hy;obtain⟨p,hp,rfl⟩:=xrq.1 hm
 show(decide (0<y.st)&&inB (qaa y.key) (qaa p.key))=(decide (0<y.st)&&decide (y.key=p.key))
 congr 1
 rw[<-e1]
 by_cases e:n.key=p.key
 ·rw[e,qie];simp
 ·have:inB (qaa n.key) (qaa p.key)=false:=by
   cases hb:inB (qaa n.key) (qaa p.key)
   ·rfl
   ·exact absurd (qif T hp hl _ n hn rfl ((qe1 (T.ok n hn).1 (T.ok p hp).1).1 hb)).symm e
  rw[this];simp[e]
theorem qdp{s:Bs}{m:Ent}:m∈qai L s↔m∈L/\m.leaf=true/\inB (qaa m.key) s=true:=by
 unfold qai;rw[xrr,Bool.and_eq_true]
theorem qpb(T:Tree nodes)(W:WkL nodes Ws cnt)(d:Wk->Int)(n:Ent->Int)(s:Bs)(x:Wk)(hx:x∈Ws)(bD:inB (qaa x.key) s=true)(dx:Int)
  (h:∀m∈qai (nodes.map Node.ent) s,(if x.key=m.key then dx else 0)+((qae Ws (qaa m.key)).map d).sum<=n m):((qae Ws s).map d).sum+dx<=((qai (nodes.map Node.ent) s).map n).sum:=by
 have hK:((qai (nodes.map Node.ent) s).map (·.key)).Nodup:=by
  refine List.Nodup.sublist ?_ (qjk T)
  exact List.Sublist.map _ List.filter_sublist
 have af:∀y∈Ws,inB (qaa y.key) s=true->y.key∈(qai (nodes.map Node.ent) s).map (·.key):=fun y hy hi=>by
  obtain⟨m,hm,hl,hk⟩:=quq T W hy
  exact xrq.2 ⟨m,qdp.2 ⟨hm,hl,by rw[hk];exact hi⟩,hk⟩
 rw[qne d _ hK (qae Ws s) (fun y hy=>by
  have:=xrr.1 hy
  rw[Bool.and_eq_true]at this
  exact af y this.1 this.2.2)]
 rw[Int.add_comm,<- qor _ dx x.key _ hK (af x hx bD),List.map_map]
 refine qw5 _ _ _ fun m hm=>?_
 have h1:=h m hm;obtain⟨m1,m2,m3⟩:=qdp.1 hm;have e:((qae Ws s).filter fun y=>decide (y.key=m.key))=qae Ws (qaa m.key):=by
  rw[qgg T W m1 m2];unfold qae;rw[List.filter_filter]
  refine List.filter_congr fun y hy=>?_
  by_cases e:y.key=m.key
  ·rw[e,m3];simp
  ·simp[e]
 show(if x.key=m.key then dx else 0)+(((qae Ws s).filter fun y=>decide (y.key=m.key)).map d).sum<=n m
 rw[e];exact h1
theorem qoi(d:Wk->Int):∀l:List Wk,0<(l.map d).sum->∃y∈l,0<d y
 | [],h=>by simp at h
 |a::l,h=>by
  by_cases e:0<d a
  ·exact⟨a,by simp,e⟩
  ·simp only[List.map_cons,List.sum_cons]at h;obtain⟨y,hy,h2⟩:=qoi d l (by omega)
   exact⟨y,by simp[hy],h2⟩
end
end Go.Proofs.YtphclnolomgjoaaGreatDoor
