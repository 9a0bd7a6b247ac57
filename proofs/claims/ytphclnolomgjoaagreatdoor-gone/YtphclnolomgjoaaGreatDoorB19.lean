import Derived.Test.YtphclnolomgjoaaGreatDoorB18
set_option linter.unusedVariables false
set_option linter.unusedSimpArgs false
set_option maxRecDepth 100000
set_option maxHeartbeats 4000000
namespace Go.Proofs.YtphclnolomgjoaaGreatDoor
open Tryz
open Go.RowKit
variable {nodes:List Node}{W W' w:World}{bt i k:Nat}{n r:Node}{aI aO ai sU va vw:Value}{aL an as_ l ws:List Pw}{p:Pw}{ok:Bool}{Ws:List Wk}{x:Wk}{st:Int}
def qjf:Array Value:=#[.string ⟨#[]⟩,.bool false,.int .i64 0,.int .i64 0,.int .i64 0,.int .i64 0,.int .i64 0,.int .i64 0,.slice none 0 0]
def QueR (nodes:List Node)(ws as_:List Pw)(s:Bs)(w:World)(e:Ending)(w':World):Prop :=
 if qar s=false then e=.returned (.tuple #[.agg qjf,.int .i64 1])/\Below w.heap.size w w' else match findKey nodes (qac s) with
  |none=>e=.returned (.tuple #[.agg qjf,.int .i64 3])/\Below w.heap.size w w'
  |some n=>∃v',e=.returned (.tuple #[.agg (qrb (qaa n.key) n.leaf (pn0 nodes n.key) (pn1 nodes n.key) n.b0 n.b1 (ws0 (pun as_ n.key)) (ws1 (pun as_ n.key)) v'),.int .i64 0])/\w'.ownsRow 0 3 1 v' (qba ws n.blk).length (qg0 (qba ws n.blk))/\Below w.heap.size w w'/\(∀b,v'.ownBlock=some b->w.heap.size<=b)
theorem qoj(T0:Tree nodes)(hB:qa1 nodes)(h:TwAt w nodes bt r ai vw va ws as_)(hr:r∈nodes)(a_:r.key=[])(s:ByteArray)(hs:s.size<=2000000):
  Calls prog 34 #[.pointer (some ⟨bt,0,none⟩),.string s] w (QueR nodes ws as_ (bl s) w):=by
 have aA:=fun W=>qg9 s hs W
 have cD:=h.bk.at_.lt;have bG:∀W,Below w.heap.size w W->W.cell? ⟨bt,0,none⟩=some (nptr r.blk):=fun W (hW:Below w.heap.size w W)=>(h.below hW).bk.at_.cell 0
 have aj:=fun W (hW:Below w.heap.size w W) v hv=>qcr T0 hr a_ s hs W (h.below hW).ins v hv
 have hq:Calls prog 34 #[.pointer (some ⟨bt,0,none⟩),.string s] w (fun e w'=>QueR nodes ws as_ (bl s) w e w')=Calls prog 34 #[.pointer (some ⟨bt,0,none⟩),.string s] w (QueR nodes ws as_ (bl s) w):=rfl;rw[<-hq];clear hq;unfold QueR;have b0:Blk (w.alloc (.cells qjf 37)) w.heap.size 37 qjf:=Blk.new w 37 _;unfold qjf at b0
 cases hv:qar (bl s)
 ·rw[hv]at aA;simp only[if_true];clear aj bG;unfold qjf
  go_enter func34,ntmps34
  go_wp2_with (go_at_call 62;refine(aA _).mono ?_;rintro e w1 ⟨rfl,aa⟩;have b1:=b0.below aa (by simp);have bm:=b1.cell;have en:=b1.frozen)
  have aF:=(((((((((b1.set 0 (.string ⟨#[]⟩)).set 1 (.bool false)).set 2 (.int .i64 0)).set 3 (.int .i64 0)).set 4 (.int .i64 0)).set 5 (.int .i64 0)).set 6 (.int .i64 0)).set 7 (.int .i64 0)).set 8 (.slice none 0 0));have hc:=aF.cell;clear bm en;have au:Below w.heap.size w w1:=qab (by exact bel2) aa
  exact xrn (v:=.tuple #[.agg #[.string ⟨#[]⟩,.bool false,.int .i64 0,.int .i64 0,.int .i64 0,.int .i64 0,.int .i64 0,.int .i64 0,.slice none 0 0],.int .i64 1]) (by simp[results,results34,go_sem,hc]) rfl ⟨rfl,by exact bel2⟩
 ·rw[hv]at aA;simp only[Bool.true_eq_false,if_false]
  cases hf:findKey nodes (qac (bl s)) with
  |none =>
   rw[hf]at aj;clear hf;unfold nptr at aj bG;unfold qjf
   go_enter func34,ntmps34
   go_wp2_with (first
    |(go_at_call 62;refine(aA _).mono ?_;rintro e w1 ⟨rfl,aa⟩;have au:Below w.heap.size w w1:=qab (by exact bel2) aa;have b1:=b0.below aa (by simp);have gX:=bG w1 au)
    |(go_at_call 63;refine(aj _ au (.pointer none) rfl).mono ?_;rintro e w2 ⟨rfl,ag⟩;have aP:Below w.heap.size w w2:=qab au ag;have b2:=b1.below ag (by have:=aa.size;simp at this;omega);have bm:=b2.cell;have en:=b2.frozen;clear aj bG))
   have aF:=(((((((((b2.set 0 (.string ⟨#[]⟩)).set 1 (.bool false)).set 2 (.int .i64 0)).set 3 (.int .i64 0)).set 4 (.int .i64 0)).set 5 (.int .i64 0)).set 6 (.int .i64 0)).set 7 (.int .i64 0)).set 8 (.slice none 0 0));have hc:=aF.cell;clear bm en
   exact xrn (v:=.tuple #[.agg #[.string ⟨#[]⟩,.bool false,.int .i64 0,.int .i64 0,.int .i64 0,.int .i64 0,.int .i64 0,.int .i64 0,.slice none 0 0],.int .i64 3]) (by simp[results,results34,go_sem,hc]) rfl ⟨rfl,by exact bel2⟩
  |some n =>
   obtain⟨hn,bX⟩:=qan hf;rw[hf]at aj;clear hf;have dy:=fun W (hW:Below w.heap.size w W)=>qro T0 hB (h.below hW) hn
   simp only[nptr]at aj;unfold nptr at bG dy
   dsimp only
   unfold qrb at dy ⊢;generalize pn0 nodes n.key=s0 at *;generalize pn1 nodes n.key=s1 at *;generalize ws0 (pun as_ n.key)=u0 at *;generalize ws1 (pun as_ n.key)=u1 at *;generalize sb (qaa n.key)=e_ at *;generalize (qba ws n.blk).length=wl at *;generalize qg0 (qba ws n.blk)=wn at *
   go_enter func34,ntmps34
   go_wp2_with (first
    |(go_at_call 62;refine(aA _).mono ?_;rintro e w1 ⟨rfl,aa⟩;have au:Below w.heap.size w w1:=qab (by exact bel2) aa;have b1:=b0.below aa (by simp);have gX:=bG w1 au)
    |(go_at_call 63;refine(aj _ au (.pointer (some ⟨n.blk,0,none⟩)) rfl).mono ?_;rintro e w2 ⟨rfl,ag⟩;have aP:Below w.heap.size w w2:=qab au ag;have b2:=b1.below ag (by have:=aa.size;simp at this;omega))
    |(go_at_call 64;refine(dy _ aP).mono ?_;rintro e w3 ⟨v3,rfl,pX,aM,zA⟩;have bH:Below w.heap.size w w3:=qab aP aM;obtain⟨a3,c3,sy,_,_⟩:=qa6 pX;subst sy;have b3:=b2.below aM (by have:=aa.size;have:=ag.size;simp at *;omega);have bm:=b3.cell;have en:=b3.frozen;clear aj bG dy))
   have aF:=(((((((((b3.set 0 (.string e_)).set 1 (.bool n.leaf)).set 2 (.int .i64 s0)).set 3 (.int .i64 s1)).set 4 (.int .i64 n.b0)).set 5 (.int .i64 n.b1)).set 6 (.int .i64 u0)).set 7 (.int .i64 u1)).set 8 (.slice a3 wl c3));have hc:=aF.cell;have hk:=(((((((((Keep.refl (fun b=>b=w.heap.size) w3).setCell (p:=⟨w.heap.size,0,none⟩) rfl (.string e_)).setCell (p:=⟨w.heap.size,1,none⟩) rfl (.bool n.leaf)).setCell (p:=⟨w.heap.size,2,none⟩) rfl (.int .i64 s0)).setCell (p:=⟨w.heap.size,3,none⟩) rfl (.int .i64 s1)).setCell (p:=⟨w.heap.size,4,none⟩) rfl (.int .i64 n.b0)).setCell (p:=⟨w.heap.size,5,none⟩) rfl (.int .i64 n.b1)).setCell (p:=⟨w.heap.size,6,none⟩) rfl (.int .i64 u0)).setCell (p:=⟨w.heap.size,7,none⟩) rfl (.int .i64 u1)).setCell (p:=⟨w.heap.size,8,none⟩) rfl (.slice a3 wl c3);have ak:w.heap.size<w2.heap.size:=by have:=aa.size;have:=ag.size;simp at *;omega
   clear bm en
   exact xrn (v:=.tuple #[.agg #[.string e_,.bool n.leaf,.int .i64 s0,.int .i64 s1,.int .i64 n.b0,.int .i64 n.b1,.int .i64 u0,.int .i64 u1,.slice a3 wl c3],.int .i64 0]) (by simp[results,results34,go_sem,hc]) rfl ⟨_,rfl,qaf pX hk (fun b hb e=>by have:=zA b hb;omega),bH.trans (hk.toBelow bH.size (fun b hb e=>by omega)),fun b hb=>by have:=zA b hb;omega⟩
def qfd (nodes:List Node)(cnt:Nat)(s:Bs)(ok:Bool):Int :=
 if qar s=false then 1 else match findKey nodes (qac s) with
 |none=>3
 |some n=>if n.leaf=false then 5 else if ok=false then 6 else if 24<=cnt then 7 else 0
theorem qfn(T0:Tree nodes)(h:TwAt w nodes bt r ai vw va ws as_)(hr:r∈nodes)(a_:r.key=[])(s:ByteArray)(hs:s.size<=2000000)(a b:Int):
  Calls prog 99 #[.pointer (some ⟨bt,0,none⟩),.string s,.agg #[.int .i64 a,.int .i64 b]] w fun e w'=>e=.returned (.int .i64 (qfd nodes (ws.length+as_.length) (bl s) (qao a b)))/\Below w.heap.size w w':=by
 have aA:=fun W=>qg9 s hs W
 have cD:=h.bk.at_.lt;have a9:=h.bk.len;have bG:∀W,Below w.heap.size w W->W.cell? ⟨bt,0,none⟩=some (nptr r.blk):=fun W (hW:Below w.heap.size w W)=>(h.below hW).bk.at_.cell 0
 have aj:=fun W (hW:Below w.heap.size w W) v hv=>qcr T0 hr a_ s hs W (h.below hW).ins v hv
 have fB:=fun W=>qip a b W
 have eK:=fun W (hW:Below w.heap.size w W)=>qp9 (h.below hW).bk
 have aZ:=fun n (hn:n∈nodes) W (hW:Below w.heap.size w W)=>qgx n.blk n.leaf W (((h.below hW).ins n hn).cell rfl)
 have b0:Blk (w.alloc (.cells #[.int .i64 a,.int .i64 b] 35)) w.heap.size 35 #[.int .i64 a,.int .i64 b]:=Blk.new w 35 _;generalize ws.length+as_.length=cnt at eK a9 ⊢;unfold qfd;unfold nptr at bG
 cases hv:qar (bl s)
 ·rw[hv]at aA;simp only[if_true];clear aj bG eK fB aZ
  go_enter func99,ntmps99
  go_wp2_with (go_at_call 62;refine(aA _).mono ?_;rintro e w1 ⟨rfl,aa⟩)
  refine xrn (v:=.int .i64 1) (by simp[results,results99,go_sem]) rfl ⟨rfl,?_⟩
  exact qab (by exact bel2) aa
 ·rw[hv]at aA;simp only[Bool.true_eq_false,if_false]
  cases hf:findKey nodes (qac (bl s)) with
  |none =>
   rw[hf]at aj;clear hf eK fB aZ;unfold nptr at aj
   go_enter func99,ntmps99
   go_wp2_with (first
    |(go_at_call 62;refine(aA _).mono ?_;rintro e w1 ⟨rfl,aa⟩;have au:Below w.heap.size w w1:=qab (by exact bel2) aa;have gX:=bG w1 au)
    |(go_at_call 63;refine(aj _ au (.pointer none) rfl).mono ?_;rintro e w2 ⟨rfl,ag⟩;have aP:Below w.heap.size w w2:=qab au ag))
   refine xrn (v:=.int .i64 3) (by simp[results,results99,go_sem]) rfl ⟨rfl,?_⟩
   exact aP
  |some n =>
   obtain⟨hn,bX⟩:=qan hf;rw[hf]at aj
   replace aZ:=aZ n hn
   clear hf;simp only[nptr]at aj
   dsimp only
   cases hl:n.leaf
   ·rw[hl]at aZ;simp only[if_true];clear eK fB
    go_enter func99,ntmps99
    go_wp2_with (first
     |(go_at_call 62;refine(aA _).mono ?_;rintro e w1 ⟨rfl,aa⟩;have au:Below w.heap.size w w1:=qab (by exact bel2) aa;have gX:=bG w1 au)
     |(go_at_call 63;refine(aj _ au (.pointer (some ⟨n.blk,0,none⟩)) rfl).mono ?_;rintro e w2 ⟨rfl,ag⟩;have aP:Below w.heap.size w w2:=qab au ag)
     |(go_at_call 105;refine(aZ _ aP).mono ?_;rintro e w3 ⟨rfl,gj⟩;subst gj))
    refine xrn (v:=.int .i64 5) (by simp[results,results99,go_sem]) rfl ⟨rfl,?_⟩
    exact aP
   ·rw[hl]at aZ;simp only[Bool.true_eq_false,if_false]
    cases en:qao a b
    ·rw[en]at fB;simp only[if_true];clear eK
     go_enter func99,ntmps99
     go_wp2_with (first
      |(go_at_call 62;refine(aA _).mono ?_;rintro e w1 ⟨rfl,aa⟩;have au:Below w.heap.size w w1:=qab (by exact bel2) aa;have gX:=bG w1 au;have b1:=b0.below aa (by simp))
      |(go_at_call 63;refine(aj _ au (.pointer (some ⟨n.blk,0,none⟩)) rfl).mono ?_;rintro e w2 ⟨rfl,ag⟩;have aP:Below w.heap.size w w2:=qab au ag;have b2:=b1.below ag (by have:=aa.size;simp at this;omega);have bm:=b2.cell)
      |(go_at_call 105;refine(aZ _ aP).mono ?_;rintro e w3 ⟨rfl,gj⟩;subst gj)
      |(go_at_call 147;refine(fB _).mono ?_;rintro e w4 ⟨rfl,bf⟩;have dL:Below w.heap.size w w4:=qab aP bf))
     refine xrn (v:=.int .i64 6) (by simp[results,results99,go_sem]) rfl ⟨rfl,?_⟩
     exact dL
    ·rw[en]at fB;simp only[Bool.true_eq_false,if_false];have oI:(decide ((24:Int)<=(cnt:Int)))=decide (24<=cnt):=by simp only[decide_eq_decide];omega
     go_enter func99,ntmps99
     go_wp2_with (first
      |(go_at_call 62;refine(aA _).mono ?_;rintro e w1 ⟨rfl,aa⟩;have au:Below w.heap.size w w1:=qab (by exact bel2) aa;have gX:=bG w1 au;have b1:=b0.below aa (by simp))
      |(go_at_call 63;refine(aj _ au (.pointer (some ⟨n.blk,0,none⟩)) rfl).mono ?_;rintro e w2 ⟨rfl,ag⟩;have aP:Below w.heap.size w w2:=qab au ag;have b2:=b1.below ag (by have:=aa.size;simp at this;omega);have bm:=b2.cell)
      |(go_at_call 105;refine(aZ _ aP).mono ?_;rintro e w3 ⟨rfl,gj⟩;subst gj)
      |(go_at_call 147;refine(fB _).mono ?_;rintro e w4 ⟨rfl,bf⟩;have dL:Below w.heap.size w w4:=qab aP bf)
      |(go_at_call 148;refine(eK _ dL).mono ?_;rintro e w5 ⟨rfl,m,xv⟩;subst xv))
     ·exact xrn (v:=.int .i64 7) (by simp[results,results99,go_sem]) rfl ⟨rfl,xrm dL _⟩
     ·exact xrn (v:=.int .i64 0) (by simp[results,results99,go_sem]) rfl ⟨rfl,xrm dL _⟩
theorem qu8{r:Value}(h:BkAt w bt r ai vw va ws as_)(hi:ws[i]?=some p):
  Calls prog 83 #[.pointer (some ⟨bt,1,none⟩),nptr p.blk] w fun e w'=>e=.returned (.tuple #[])/\∃aI,BkAt w' bt r ai aI va (ws.take i++ws.drop (i+1)) as_/\Keep (BkT bt vw va) w w'/\aI.ownBlock=vw.ownBlock:=by
 have cI:=xr2 hi;have nt:=h.works p (xr9 _ cI);have ak:=h.at_.lt;have a9:=h.len;have lO:ws.length<=100:=by omega
 have pU:p ∉ as_:=fun e=>(List.nodup_append.1 h.nd).2.2 p cI p e rfl
 have gk:=qcy ⟨h.wrow,fun q hq=>h.works q (xr9 _ hq)⟩ lO nt (fun a ha e=>h.inj a (xr9 _ ha) p (xr9 _ cI) e) (List.nodup_append.1 h.nd).1;have dJ:vw.ownBlock≠some bt:=qah h.wrow h.at_ (by decide);have dO:va.ownBlock≠some bt:=qah h.arow h.at_ (by decide);have c2:=h.at_.cell 2;simp only[xq0,xq1,xq2]at c2;unfold nptr at gk ⊢
 go_enter func83,ntmps83
 go_wp2_with fail
 refine gk.mono ?_
 rintro e w1 (⟨ay,rfl,hB⟩|⟨i',v1,fD,rfl,dt,dD,bO⟩)
 ·exact absurd cI ay
 ·have mX:i'=i:=(List.getElem?_inj (xr0.1 fD).1 (List.nodup_append.1 h.nd).1).1 (fD.trans hi.symm);subst mX;have cM:=h.at_.keep dD dJ;have f2:=cM.frozen 2;have k2:=cM.cell 2;have k3:=cM.cell 3;simp only[xq0,xq1,xq2]at k2 k3;have dA:Blk (w1.setCell ⟨bt,2,none⟩ v1) bt 102 #[r,ai,v1,va]:=by have:=cM.set 2 v1;simpa using this
  have fW:(w1.setCell ⟨bt,2,none⟩ v1).ownsRow 0 95 1 va as_.length (qa0 as_):=xrl (qaf h.arow dD (fun g hg e=>h.sep g e hg)) (fun e=>dO e) _;have gl:(w1.setCell ⟨bt,2,none⟩ v1).ownsRow 0 95 1 v1 (ws.take i'++ws.drop (i'+1)).length (qa0 (ws.take i'++ws.drop (i'+1))):=xrl dt.row (fun e=>dJ (by rw[<-bO];exact e)) _;have fL:∀q∈ws++as_,Blk (w1.setCell ⟨bt,2,none⟩ v1) q.blk 105 q.cells:=fun q hq=>((h.works q hq).keep dD (qah h.wrow (h.works q hq) (by decide))).other _ _ (fun e=>by
   have h1:=h.works q hq;rw[show q.blk=bt from e]at h1
   have:=h1.symm.trans h.at_
   injection this with this;injection this with _ h2 _
   exact absurd h2 (by decide))
  have dN:Keep (BkT bt vw va) w (w1.setCell ⟨bt,2,none⟩ v1):=(dD.mono (fun y e=>.inr (.inl e))).setCell (p:=⟨bt,2,none⟩) (.inl rfl) _;have jC:BkAt (w1.setCell ⟨bt,2,none⟩ v1) bt r ai v1 va (ws.take i'++ws.drop (i'+1)) as_:=by
   have af:∀q,q∈(ws.take i'++ws.drop (i'+1))++as_->q∈ws++as_:=fun q hq=>(xri.1 hq).elim (fun e=>xr9 _ (qbl e)) (fun e=>xra _ e)
   have aD:List.Sublist ((ws.take i'++ws.drop (i'+1))++as_) (ws++as_):=by
    refine List.Sublist.append ?_ (List.Sublist.refl _)
    have:=qen hi
    conv=>rhs;rw[this]
    exact List.Sublist.append (List.Sublist.refl _) (List.sublist_cons_self _ _)
   refine⟨dA,gl,fW,fun q hq=>fL q (af q hq),fun b hb=>h.sep b (by rw[<-bO];exact hb),aD.nodup h.nd,fun a ha b hb e=>h.inj a (af a ha) b (af b hb) e,?_⟩
   have:=aD.length_le
   simp only[List.length_append]at this ⊢
   omega
  have jg:=qcy ⟨jC.arow,fun q hq=>jC.works q (xra _ hq)⟩ (by omega) (fL p (xr9 _ cI)) (fun a ha e=>h.inj a (xra _ ha) p (xr9 _ cI) e) (List.nodup_append.1 h.nd).2.1;obtain⟨a1,sZ,cR,_,_⟩:=qa6 jC.wrow;obtain⟨a2,zO,et,_,_⟩:=qa6 jC.arow;have p8:∃n1,v1=.slice a1 n1 sZ:=⟨_,cR⟩;have xt:∃n2,va=.slice a2 n2 zO:=⟨_,et⟩;have aK:∀w2,Below (w1.setCell ⟨bt,2,none⟩ v1).heap.size (w1.setCell ⟨bt,2,none⟩ v1) w2->Blk w2 bt 102 #[r,ai,v1,va]/\Hid (BkAt (w2.setCell ⟨bt,3,none⟩ va) bt r ai v1 va (ws.take i'++ws.drop (i'+1)) as_/\Keep (BkT bt vw va) w (w2.setCell ⟨bt,3,none⟩ va)):=by
   intro w2 hB;have dG:=dA.below hB dA.lt;have aM:=jC.keep (T:=fun _=>False) (Keep.new hB) id (fun _ _=>id) (fun _ _=>id) (fun _ _=>id)
   refine⟨dG,⟨?_,?_,?_,?_,aM.sep,aM.nd,aM.inj,aM.len⟩,(dN.qj3 hB).setCell (p:=⟨bt,3,none⟩) (.inl rfl) _⟩
   ·have:=dG.set 3 va
    simpa using this
   ·exact xrl aM.wrow (fun e=>dJ (by rw[<-bO];exact e)) _
   ·exact xrl aM.arow (fun e=>dO e) _
   ·exact fun q hq=>(aM.works q hq).other _ _ (qaw (aM.works q hq) dG (by decide))
  clear h dt fW gl fL dN jC gk cR et;obtain⟨n1,rfl⟩:=p8;obtain⟨n2,rfl⟩:=xt;unfold nptr at jg
  go_wp2_with fail
  refine jg.mono ?_
  rintro e w2 (⟨_,rfl,hB⟩|⟨i',v2,rn,_⟩)
  ·obtain⟨dG,hp⟩:=aK w2 hB;have f3:=dG.frozen 3;have fw:=dG.cell 3;simp only[xq0,xq1,xq2]at fw;clear aK jg
   go_wp2_with fail
   go_end0
   exact⟨rfl,_,hp.out.1,hp.out.2,bO⟩
  ·exact absurd (xr2 rn) pU
theorem qu7{r:Value}(h:BkAt w bt r ai vw va ws as_)(hi:as_[i]?=some p):
  Calls prog 83 #[.pointer (some ⟨bt,1,none⟩),nptr p.blk] w fun e w'=>e=.returned (.tuple #[])/\∃aO,BkAt w' bt r ai vw aO ws (as_.take i++as_.drop (i+1))/\Keep (BkT bt vw va) w w'/\aO.ownBlock=va.ownBlock:=by
 have cI:=xr2 hi;have nt:=h.works p (xra _ cI);have ak:=h.at_.lt;have a9:=h.len;have lO:ws.length<=100:=by omega
 have fI:p ∉ ws:=fun e=>(List.nodup_append.1 h.nd).2.2 p e p cI rfl
 have gk:=qcy ⟨h.wrow,fun q hq=>h.works q (xr9 _ hq)⟩ lO nt (fun a ha e=>h.inj a (xr9 _ ha) p (xra _ cI) e) (List.nodup_append.1 h.nd).1;have dJ:vw.ownBlock≠some bt:=qah h.wrow h.at_ (by decide);have dO:va.ownBlock≠some bt:=qah h.arow h.at_ (by decide);have c2:=h.at_.cell 2;simp only[xq0,xq1,xq2]at c2;obtain⟨a1,sZ,cR,_,_⟩:=qa6 h.wrow;have p8:∃n1,vw=.slice a1 n1 sZ:=⟨_,cR⟩;clear cR;unfold nptr at gk ⊢
 go_enter func83,ntmps83
 go_wp2_with fail
 refine gk.mono ?_
 rintro e w1 (⟨_,rfl,hB⟩|⟨i',v2,rn,_⟩)
 ·have cM:=h.at_.below hB ak;have f2:=cM.frozen 2;have k2:=cM.cell 2;have k3:=cM.cell 3;simp only[xq0,xq1,xq2]at k2 k3;have aa:=h.keep (T:=fun _=>False) (Keep.new hB) id (fun _ _=>id) (fun _ _=>id) (fun _ _=>id);have dD:Keep (BkT bt vw va) w (w1.setCell ⟨bt,2,none⟩ vw):=(Keep.new (T:=BkT bt vw va) hB).setCell (p:=⟨bt,2,none⟩) (.inl rfl) _;have ag:BkAt (w1.setCell ⟨bt,2,none⟩ vw) bt r ai vw va ws as_:=by
   refine⟨?_,xrl aa.wrow (fun e=>dJ e) _,xrl aa.arow (fun e=>dO e) _,fun q hq=>(aa.works q hq).other _ _ (qaw (aa.works q hq) cM (by decide)),h.sep,h.nd,h.inj,h.len⟩
   have:=cM.set 2 vw
   simpa using this
  have jg:=qcy ⟨ag.arow,fun q hq=>ag.works q (xra _ hq)⟩ (by omega) (ag.works p (xra _ cI)) (fun a ha e=>h.inj a (xra _ ha) p (xra _ cI) e) (List.nodup_append.1 h.nd).2.1;have aK:∀w2 v1,WRow w2 v1 (as_.take i++as_.drop (i+1))->Keep (fun y=>va.ownBlock=some y) (w1.setCell ⟨bt,2,none⟩ vw) w2->v1.ownBlock=va.ownBlock->Blk w2 bt 102 #[r,ai,vw,va]/\(∃a n c,v1=.slice a n c)/\Hid (BkAt (w2.setCell ⟨bt,3,none⟩ v1) bt r ai vw v1 ws (as_.take i++as_.drop (i+1))/\Keep (BkT bt vw va) w (w2.setCell ⟨bt,3,none⟩ v1)):=by
   intro w2 v1 hW hk ho;have dG:=ag.at_.keep hk dO;have af:∀q,q∈ws++(as_.take i++as_.drop (i+1))->q∈ws++as_:=fun q hq=>(xri.1 hq).elim (fun e=>xr9 _ e) (fun e=>xra _ (qbl e))
   have aD:List.Sublist (ws++(as_.take i++as_.drop (i+1))) (ws++as_):=by
    refine List.Sublist.append (List.Sublist.refl _) ?_
    have:=qen hi
    conv=>rhs;rw[this]
    exact List.Sublist.append (List.Sublist.refl _) (List.sublist_cons_self _ _)
   have ue:∀q∈ws++as_,Blk w2 q.blk 105 q.cells:=fun q hq=>(ag.works q hq).keep hk (qah ag.arow (ag.works q hq) (by decide))
   obtain⟨a,c,hv,_,_⟩:=qa6 hW.row
   refine⟨dG,⟨a,_,c,hv⟩,⟨?_,?_,?_,?_,?_,?_,?_,?_⟩,(dD.qbm hk (fun b _ e=>.inr (.inr e))).setCell (p:=⟨bt,3,none⟩) (.inl rfl) _⟩
   ·have:=dG.set 3 v1
    simpa using this
   ·exact xrl (qaf ag.wrow hk (fun g hg e=>h.sep g hg e)) (fun e=>dJ e) _
   ·exact xrl hW.row (fun e=>dO (by rw[<-ho];exact e)) _
   ·exact fun q hq=>(ue q (af q hq)).other _ _ (qaw (ue q (af q hq)) dG (by decide))
   ·exact fun b hb e=>h.sep b hb (by rw[<-ho];exact e)
   ·exact aD.nodup h.nd
   ·exact fun a ha b hb e=>h.inj a (af a ha) b (af b hb) e
   ·have:=aD.length_le
    simp only[List.length_append]at this ⊢
    omega
  have wS:=(List.nodup_append.1 h.nd).2.1;clear h aa ag dD gk;obtain⟨n1,rfl⟩:=p8;unfold nptr at jg
  go_wp2_with fail
  refine jg.mono ?_
  rintro e w2 (⟨ay,_,_⟩|⟨i',v1,fD,rfl,dt,cf,bO⟩)
  ·exact absurd cI ay
  ·have mX:i'=i:=(List.getElem?_inj (xr0.1 fD).1 wS).1 (fD.trans hi.symm);subst mX;obtain⟨dG,⟨a,n,c,rfl⟩,hp⟩:=aK w2 v1 dt cf bO;have f3:=dG.frozen 3;have fw:=dG.cell 3;simp only[xq0,xq1,xq2]at fw;clear aK jg dt
   go_wp2_with fail
   go_end0
   exact⟨rfl,_,hp.out.1,hp.out.2,bO⟩
 ·exact absurd (xr2 rn) fI
theorem qoq{r:Value}{last:Int}(h:BkAt w bt r (.int .i64 last) vw va ws as_)(hl:ws.length+as_.length<24)(h0:0<=last)(h1:last<=2000000)(q:Nat)(x:Wk)(hx:x.num=last+1):
  Calls prog 100 #[.pointer (some ⟨bt,1,none⟩),.pointer (some ⟨q,0,none⟩),.agg #[.int .i64 x.d0,.int .i64 x.d1]] w fun e w'=>e=.returned (.int .i64 (last+1))/\∃aI,BkAt w' bt r (.int .i64 (last+1)) aI va (ws++[⟨w.heap.size+1,x,q⟩]) as_/\Keep (BkT bt vw va) w w'/\(∀b,aI.ownBlock=some b->vw.ownBlock=some b\/w.heap.size<=b):=by
 have dJ:vw.ownBlock≠some bt:=qah h.wrow h.at_ (by decide);have dO:va.ownBlock≠some bt:=qah h.arow h.at_ (by decide);have ak:=h.at_.lt;obtain⟨a1,sZ,cR,rD,wP⟩:=qa6 h.wrow;have c1:=h.at_.cell 1;have c2:=h.at_.cell 2;have f1:=h.at_.frozen 1;simp only[xq0,xq1,xq2]at c1 c2;have n0:¬(bt=w.heap.size):=by omega
 have n1:¬(bt=w.heap.size+1):=by omega
 have n2:¬(bt=w.heap.size+1+1):=by omega
 have m0:¬(w.heap.size=bt):=by omega
 have m1:¬(w.heap.size+1=bt):=by omega
 have m2:¬(w.heap.size+1+1=bt):=by omega
 go_enter func100,ntmps100
 go_upto_region 2 with fail
 have n9:Value.int .i64 (last+1)=.int .i64 x.num:=by rw[hx]
 have aa:BkAt (w.setCell ⟨bt,1,none⟩ (.int .i64 (last+1))) bt r (.int .i64 (last+1)) vw va ws as_:=by
  refine⟨?_,xrl h.wrow (fun e=>dJ e) _,xrl h.arow (fun e=>dO e) _,fun q hq=>(h.works q hq).other _ _ (qaw (h.works q hq) h.at_ (by decide)),h.sep,h.nd,h.inj,h.len⟩
  have:=h.at_.set 1 (.int .i64 (last+1))
  simpa using this
 have nZ:(w.setCell ⟨bt,1,none⟩ (.int .i64 (last+1))).heap.size=w.heap.size:=by simp
 have bj:Below (w.setCell ⟨bt,1,none⟩ (.int .i64 (last+1))).heap.size (w.setCell ⟨bt,1,none⟩ (.int .i64 (last+1))) ((w.setCell ⟨bt,1,none⟩ (.int .i64 (last+1))).alloc (.cells #[.int .i64 x.d0,.int .i64 x.d1] 35)):=(Below.refl _ _).alloc (Nat.le_refl _) _;have ag:=aa.keep (T:=fun _=>False) (Keep.new bj) id (fun _ _=>id) (fun _ _=>id) (fun _ _=>id);have dA:=ag.at_;have aY:Keep (BkT bt vw va) w ((w.setCell ⟨bt,1,none⟩ (.int .i64 (last+1))).alloc (.cells #[.int .i64 x.d0,.int .i64 x.d1] 35)):=((Keep.refl (BkT bt vw va) w).setCell (p:=⟨bt,1,none⟩) (.inl rfl) _).qj3 bj;have mc:Blk ((w.setCell ⟨bt,1,none⟩ (.int .i64 (last+1))).alloc (.cells #[.int .i64 x.d0,.int .i64 x.d1] 35)) w.heap.size 35 #[.int .i64 x.d0,.int .i64 x.d1]:=by
  have:=Blk.new (w.setCell ⟨bt,1,none⟩ (.int .i64 (last+1))) 35 #[.int .i64 x.d0,.int .i64 x.d1]
  rwa[nZ]at this
 have dW:((w.setCell ⟨bt,1,none⟩ (.int .i64 (last+1))).alloc (.cells #[.int .i64 x.d0,.int .i64 x.d1] 35)).heap.size=w.heap.size+1:=by simp
 clear aa bj nZ;generalize ((w.setCell ⟨bt,1,none⟩ (.int .i64 (last+1))).alloc (.cells #[.int .i64 x.d0,.int .i64 x.d1] 35))=W2 at dA ag aY mc dW ⊢;have HS:Hid (W2.heap.size=w.heap.size+1):=dW;have Bz:=dA.lt;have BE:=mc.lt;have cB:=fun (W:World) (hB:Below W2.heap.size W2 W) (nb:Nat) (dI:Blk W nb 95 #[.pointer (some ⟨W2.heap.size,0,none⟩)])=>qey un94 qxo (by omega) W vw ws.length (qa0 ws) (qaf (T:=fun _=>False) ag.wrow (Keep.new hB) (fun _ _ e=>e)) nb 1 1 (by omega) [.pointer (some ⟨W2.heap.size,0,none⟩)] rfl dI (fun u hu=>by simp at hu;subst hu;rfl) (by unfold maxLen;omega) (by omega)
 have aK:∀W,Below W2.heap.size W2 W->Blk W W2.heap.size 105 #[.int .i64 (last+1),.pointer (some ⟨q,0,none⟩),.int .i64 x.d0,.int .i64 x.d1]->∀g' av w',AppR W vw.ownBlock 95 1 (ws.length+1) (qa0 ws++[.pointer (some ⟨W2.heap.size,0,none⟩)]) g' av w'->Blk w' bt 102 #[r,.int .i64 (last+1),vw,va]/\Blk w' w.heap.size 35 #[.int .i64 x.d0,.int .i64 x.d1]/\Hid (∀W3,Below (w'.setCell ⟨bt,2,none⟩ (.slice (some ⟨g',0,none⟩) (ws.length+1) av)).heap.size (w'.setCell ⟨bt,2,none⟩ (.slice (some ⟨g',0,none⟩) (ws.length+1) av)) W3->∃aI,BkAt W3 bt r (.int .i64 (last+1)) aI va (ws++[⟨w.heap.size+1,x,q⟩]) as_/\Keep (BkT bt vw va) w W3/\(∀b,aI.ownBlock=some b->vw.ownBlock=some b\/w.heap.size<=b)):=by
  intro W hB nt g' av w' R;have hz:=hB.size;have dG:=(dA.below hB dA.lt).keep R.keep dJ;have bT:vw.ownBlock≠some w.heap.size:=fun e=>by
   have:=qah ag.wrow mc (by decide)
   exact this e
  have rQ:vw.ownBlock≠some W2.heap.size:=fun e=>by have:=qap ag.wrow e;omega
  have qX:=(mc.below hB mc.lt).keep R.keep bT;have w_:=nt.keep R.keep rQ;have cd:g'≠bt:=fun e=>by
   rcases R.new with e2|e2
   ·rw[e]at e2;exact dJ e2
   ·omega
  have wu:vw.ownBlock=some g'\/W2.heap.size<=g':=R.new.imp id (fun e=>by omega);have wF:Keep (fun b=>vw.ownBlock=some b) W2 w':=(Keep.new (T:=fun b=>vw.ownBlock=some b) hB).qbm R.keep (fun b _ e=>e)
  refine⟨dG,qX,fun W3 dZ=>?_⟩
  have iS:(⟨w.heap.size+1,x,q⟩:Pw).cells=#[.int .i64 (last+1),.pointer (some ⟨q,0,none⟩),.int .i64 x.d0,.int .i64 x.d1]:=by
   simp[Pw.cells,nptr,hx]
  have fG:∀y∈ws++as_,Blk w' y.blk 105 y.cells/\y.blk<W2.heap.size:=fun y hy=>⟨(ag.works y hy).keep wF (qah ag.wrow (ag.works y hy) (by decide)),(ag.works y hy).lt⟩
  have aC:∀y∈ws++[⟨w.heap.size+1,x,q⟩]++as_,Blk w' y.blk 105 y.cells:=fun y hy=>by
   rcases xri.1 hy with e|e
   ·rcases xri.1 e with e|e
    ·exact(fG y (xr9 _ e)).1
    ·simp at e;subst e;rw[iS,<- dW];exact w_
   ·exact(fG y (xra _ e)).1
  have im:BkAt (w'.setCell ⟨bt,2,none⟩ (.slice (some ⟨g',0,none⟩) (ws.length+1) av)) bt r (.int .i64 (last+1)) (.slice (some ⟨g',0,none⟩) (ws.length+1) av) va (ws++[⟨w.heap.size+1,x,q⟩]) as_:=by
   refine⟨?_,?_,?_,?_,?_,?_,?_,?_⟩
   ·have:=dG.set 2 (.slice (some ⟨g',0,none⟩) (ws.length+1) av)
    simpa using this
   ·have:qa0 (ws++[⟨w.heap.size+1,x,q⟩])=qa0 ws++[.pointer (some ⟨W2.heap.size,0,none⟩)]:=by simp[qa0,nptr,dW]
    rw[this,show(ws++[(⟨w.heap.size+1,x,q⟩:Pw)]).length=ws.length+1 by simp]
    exact xrl R.own (by simp[Value.ownBlock];exact cd) _
   ·exact xrl (qaf ag.arow wF (fun g hg e=>ag.sep g e hg)) (fun e=>dO e) _
   ·exact fun y hy=>(aC y hy).other _ _ (qaw (aC y hy) dG (by decide))
   ·intro b hb e
    simp[Value.ownBlock]at hb
    subst hb
    rcases wu with e2|e2
    ·exact ag.sep _ e2 e
    ·have:=qap ag.arow e;omega
   ·have cn:(⟨w.heap.size+1,x,q⟩:Pw) ∉ ws++as_:=fun e=>by have:=(fG _ e).2;simp at this;omega
    have:(ws++[(⟨w.heap.size+1,x,q⟩:Pw)]++as_).Perm ((⟨w.heap.size+1,x,q⟩:Pw)::(ws++as_)):=by
     rw[List.append_assoc];exact List.perm_middle
    rw[this.nodup_iff]
    exact List.nodup_cons.2 ⟨cn,ag.nd⟩
   ·have bR:∀y∈ws++[⟨w.heap.size+1,x,q⟩]++as_,y=⟨w.heap.size+1,x,q⟩\/y∈ws++as_:=fun y hy=>by
     simp only[xri,List.mem_singleton]at hy ⊢
     rcases hy with (e|e)|e
     ·exact .inr (.inl e)
     ·exact .inl e
     ·exact .inr (.inr e)
    intro a ha b hb e
    rcases bR a ha with ea|ea<;>rcases bR b hb with eb|eb
    ·rw[ea,eb]
    ·have:=(fG b eb).2;rw[ea]at e;simp at e;omega
    ·have:=(fG a ea).2;rw[eb]at e;simp at e;omega
    ·exact ag.inj a ea b eb e
   ·simp only[List.length_append,List.length_singleton];omega
  refine⟨_,im.keep (T:=fun _=>False) (Keep.new dZ) id (fun _ _=>id) (fun _ _=>id) (fun _ _=>id),((aY.qbm wF (fun b _ e=>.inr (.inl e))).setCell (p:=⟨bt,2,none⟩) (.inl rfl) _).qj3 dZ,fun b hb=>?_⟩
  simp[Value.ownBlock]at hb
  subst hb
  exact wu.imp id (fun e=>by omega)
 have e1:=dA.cell 1;have e2:=dA.cell 2;have e3:=mc.cell 0;have e4:=mc.cell 1;simp only[xq0,xq1,xq2]at e1 e2 e3 e4;generalize qa0 ws=pp at cB aK;rw[cR]at e2;have dk:=dA.lt;clear h ag aY c1 c2 f1 dA;generalize hn:ws.length=n at cB aK e2 cR rD;clear hn n9 rD wP;subst cR;have k0:¬(bt=W2.heap.size):=by omega
 have k1:¬(bt=W2.heap.size+1):=by omega
 have k2:¬(w.heap.size=W2.heap.size):=by omega
 have k3:¬(w.heap.size=W2.heap.size+1):=by omega
 clear n0 n1 n2 m0 m1 m2 dW;have Fb:=World.new_ne W2 ⟨bt,1,none⟩ e1;have Fc:=World.new_ne W2 ⟨w.heap.size,0,none⟩ e3
 go_region_law (refine qa8 rfl (.tmp 18) (.tmp 27) 98 98 rfl _ _ ?_ ?_ (cB _ ?_ ?_ ?_) ?_;(focus (simp[Act.eval,Act.put]));(focus ((try simp[Act.eval,Act.put]);(try rfl)));(focus exact bel2);(focus exact blk2);rintro v1 w1 ⟨g1,q1,rfl,R1⟩;obtain⟨aa,vY,iP⟩:=aK _ (by exact bel2) (by exact blk2) _ _ _ R1;have f2:=aa.frozen 2;have fw:=aa.cell 2;have bm:=aa.cell 1;have dV:=R1.le;have gU:=R1.mx;simp only[xq0,xq1,xq2]at fw bm)
 all_goals (go_wp2_with fail;go_ret;refine⟨rfl,iP.out _ ?_⟩;exact bel2)
theorem TwAt.qja(h:TwAt W nodes bt r ai vw va ws as_):∀n∈nodes,¬BkT bt vw va n.blk/\∀g,n.sl.ownBlock=some g->¬BkT bt vw va g:=fun n hn=>by
 have bJ:Blk W n.blk 136 n.cells:=(h.ins n hn).at_;have aS:=(h.ins n hn).row
 refine⟨?_,fun g hg=>?_⟩
 ·rintro(e|e|e)
  ·exact qaw bJ h.bk.at_ (by decide) e
  ·exact qah h.bk.wrow bJ (by decide) e
  ·exact qah h.bk.arow bJ (by decide) e
 ·rintro(e|e|e)
  ·subst e;exact qah aS h.bk.at_ (by decide) hg
  ·exact qd2 aS h.bk.wrow (by decide) hg e
  ·exact qd2 aS h.bk.arow (by decide) hg e
theorem TwAt.next(h:TwAt W nodes bt r ai vw va ws as_)(h2:BkAt W' bt (nptr r.blk) sU aI aO an aL)(hk:Keep (BkT bt vw va) W W')
  (hm:∀p∈an++aL,p∈ws++as_\/((∃n∈nodes,n.blk=p.q/\n.key=p.x.key)/\(0<=p.x.d0/\p.x.d0<=1000)/\(0<=p.x.d1/\p.x.d1<=1000))):TwAt W' nodes bt r sU aI aO an aL :=
 ⟨qe2 h.qja h.ins hk,h2,fun p hp=>(hm p hp).elim (h.lf p) (fun e=>e.1),fun p hp=>(hm p hp).elim (h.nm p) (fun e=>e.2)⟩
theorem qhe{cnt:Nat}{s:Bs}(h:qfd nodes cnt s ok=0):∃n,findKey nodes (qac s)=some n/\n.leaf=true/\ok=true/\cnt<24:=by
 unfold qfd at h
 split at h
 ·cases h
 ·split at h
  ·cases h
  ·rename_i n hn
   refine⟨n,hn,?_⟩
   cases hl:n.leaf<;>cases ok<;>simp[hl]at h<;>simp
   omega
theorem qrj(T0:Tree nodes)(h:TwAt w nodes bt r ai vw va ws as_)(hr:r∈nodes)(a_:r.key=[])(s:ByteArray)(hs:s.size<=2000000)(a b:Int)(he:qfd nodes (ws.length+as_.length) (bl s) (qao a b)≠0):
  Calls prog 59 #[.pointer (some ⟨bt,0,none⟩),.string s,.agg #[.int .i64 a,.int .i64 b]] w fun e w'=>e=.returned (.tuple #[.int .i64 0,.int .i64 (qfd nodes (ws.length+as_.length) (bl s) (qao a b))])/\Below w.heap.size w w':=by
 have cr:=fun W (hW:Below w.heap.size w W)=>qfn T0 (h.below hW) hr a_ s hs a b
 have cD:=h.bk.at_.lt;generalize qfd nodes (ws.length+as_.length) (bl s) (qao a b)=err at *;have aW:(err == 0)=false:=by simp[he]
 have b0:Blk (w.alloc (.cells #[.int .i64 a,.int .i64 b] 35)) w.heap.size 35 #[.int .i64 a,.int .i64 b]:=Blk.new w 35 _;have bm:=b0.cell
 go_enter func59,ntmps59
 go_wp2_with (first
  |(go_at_call 99;refine(cr _ ?_).mono ?_;(focus exact bel2);rintro e w1 ⟨rfl,aa⟩))
 exact xrn (v:=.tuple #[.int .i64 0,.int .i64 err]) (by simp[results,results59,go_sem]) rfl ⟨rfl,qab (by exact bel2) aa⟩
theorem qrk(T0:Tree nodes){last:Int}(h:TwAt w nodes bt r (.int .i64 last) vw va ws as_)(h0:0<=last)(h1:last<=2000000)(hr:r∈nodes)(a_:r.key=[])(s:ByteArray)(hs:s.size<=2000000)(a b:Int)(he:qfd nodes (ws.length+as_.length) (bl s) (qao a b)=0)(hn:findKey nodes (qac (bl s))=some n):
  Calls prog 59 #[.pointer (some ⟨bt,0,none⟩),.string s,.agg #[.int .i64 a,.int .i64 b]] w fun e w'=>e=.returned (.tuple #[.int .i64 (last+1),.int .i64 0])/\∃aI k,w.heap.size<=k/\TwAt w' nodes bt r (.int .i64 (last+1)) aI va (ws++[⟨k,⟨last+1,qac (bl s),a,b,0⟩,n.blk⟩]) as_/\Keep (BkT bt vw va) w w'/\(∀b,aI.ownBlock=some b->vw.ownBlock=some b\/w.heap.size<=b):=by
 have cr:=fun W (hW:Below w.heap.size w W)=>qfn T0 (h.below hW) hr a_ s hs a b
 rw[he]at cr;obtain⟨n',dp,eS,en,ko⟩:=qhe he;obtain⟨bQ,bX⟩:=qan hn;have aj:=fun W (hW:Below w.heap.size w W) v hv=>qcr T0 hr a_ s hs W (h.below hW).ins v hv
 rw[hn]at aj;have aD:=fun W (hW:Below w.heap.size w W)=>qoq (h.below hW).bk ko h0 h1 n.blk ⟨last+1,qac (bl s),a,b,0⟩ rfl
 have cD:=h.bk.at_.lt;have bG:∀W,Below w.heap.size w W->W.cell? ⟨bt,0,none⟩=some (nptr r.blk):=fun W (hW:Below w.heap.size w W)=>(h.below hW).bk.at_.cell 0
 have b0:Blk (w.alloc (.cells #[.int .i64 a,.int .i64 b] 35)) w.heap.size 35 #[.int .i64 a,.int .i64 b]:=Blk.new w 35 _;have bm:=b0.cell;simp only[nptr]at aj aD bG;clear he dp;have jO:¬BkT bt vw va w.heap.size:=by
  rintro(e|e|e)
  ·omega
  ·have:=qap h.bk.wrow e;omega
  ·have:=qap h.bk.arow e;omega
 go_enter func59,ntmps59
 go_upto_region 4 with (first
  |(go_at_call 99;refine(cr _ ?_).mono ?_;(focus exact bel2);rintro e w1 ⟨rfl,aa⟩;have au:Below w.heap.size w w1:=qab (by exact bel2) aa;have b1:=b0.below aa (by simp);have gX:=bG w1 au;have d0:=b1.cell 0;have d1:=b1.cell 1;simp only[xq0,xq1,xq2]at d0 d1))
 go_region_held3 (fun w'=>w'.cell? ⟨bt,0,none⟩=some (.pointer (some ⟨r.blk,0,none⟩))/\w'.cell? ⟨w.heap.size,0,none⟩=some (.int .i64 a)/\w'.cell? ⟨w.heap.size,1,none⟩=some (.int .i64 b)) (go_keep)
  (first
   |(go_at_call 63;refine(aj _ ?_ (.pointer (some ⟨n.blk,0,none⟩)) rfl).mono ?_;(focus exact au.drew);rintro e w2 ⟨rfl,ag⟩;have aP:Below w.heap.size w w2:=qab au.drew ag;have b2:=Blk.below (show Blk w1.drew w.heap.size 35 #[.int .i64 a,.int .i64 b] from b1) ag b1.lt;have ub:=bG w2 aP;have f0:=b2.cell 0;have f1:=b2.cell 1;simp only[xq0,xq1,xq2]at f0 f1)
   |(go_at_call 100;refine(aD _ aP).mono ?_;rintro e w3 ⟨rfl,kv,bW,eH,AY⟩;have b3:=b2.keep eH jO;have zz:=bW.at_.cell 0;have g0:=b3.cell 0;have g1:=b3.cell 1;simp only[xq0,xq1,xq2,nptr]at zz g0 g1))
 go_wp2_with fail
 have fq:=aP.size;have hK:Keep (BkT bt vw va) w w3:=(Keep.new aP).qbm eH (fun b hb e=>e)
 refine xrn (v:=.tuple #[.int .i64 (last+1),.int .i64 0]) (by simp[results,results59,go_sem]) rfl ⟨rfl,kv,w2.heap.size+1,by omega,h.next bW hK (fun p hp=>?_),hK,fun b hb=>?_⟩
 ·rcases xri.1 hp with h1|h1
  ·rcases xri.1 h1 with h2|h2
   ·exact .inl (xr9 _ h2)
   ·simp only[List.mem_singleton]at h2;subst h2
    refine .inr ⟨⟨n,bQ,rfl,bX⟩,?_⟩
    simp[qao]at en
    simp only
    omega
  ·exact .inl (xra _ h1)
 ·rcases AY b hb with e|e
  ·exact .inl e
  ·exact .inr (by omega)
theorem Rel.append(R:Rel nodes Ws ws as_)(hx:x.st=0)(hn:n∈nodes)(hk:n.key=x.key):Rel nodes (Ws++[x]) (ws++[⟨k,x,n.blk⟩]) as_:=by
 obtain⟨az,h1,h2,h3⟩:=R.a
 refine⟨?_,⟨az,h1,?_,h3⟩,fun p hp=>?_⟩
 ·rw[List.map_append,List.filter_append,R.w]
  simp[hx]
 ·rw[List.filter_append]
  simpa [hx] using h2
 ·rcases xri.1 hp with e|e
  ·rcases xri.1 e with e|e
   ·exact R.leaf p (xr9 _ e)
   ·simp only[List.mem_singleton]at e;subst e
    exact⟨n,hn,rfl,hk⟩
  ·exact R.leaf p (xra _ e)
def SetT (nodes:List Node)(bt:Nat)(r:Node)(ai vw va:Value)(ws as_:List Pw)(aT:SS)(ev:Value)(w w':World):Prop :=
 ∃aI aO an aL,TwAt w' nodes bt r ai aI aO an aL/\w'.ownsRow 0 60 2 ev aT.evs.length (qam aT.evs)/\Rel nodes aT.Ws an aL/\Keep (BkT bt vw va) w w'/\(∀b,aI.ownBlock=some b\/aO.ownBlock=some b->vw.ownBlock=some b\/va.ownBlock=some b\/w.heap.size<=b)/\(∀b,ev.ownBlock=some b->w.heap.size<=b)/\(∀p∈an++aL,p∈ws++as_\/w.heap.size<=p.blk)
theorem qp0(T0:Tree nodes)(h:TwAt w nodes bt r ai vw va ws as_)(hr:r∈nodes)(a_:r.key=[])(s:ByteArray)(hs:s.size<=2000000)(a b:Int)(he:qfd nodes (ws.length+as_.length) (bl s) (qao a b)≠0):
  Calls prog 32 #[.pointer (some ⟨bt,0,none⟩),.string s,.agg #[.int .i64 a,.int .i64 b]] w fun e w'=>e=.returned (.tuple #[.int .i64 0,.slice none 0 0,.int .i64 (qfd nodes (ws.length+as_.length) (bl s) (qao a b))])/\Below w.heap.size w w':=by
 have aD:=fun W (hW:Below w.heap.size w W)=>qrj T0 (h.below hW) hr a_ s hs a b he
 have cD:=h.bk.at_.lt;generalize qfd nodes (ws.length+as_.length) (bl s) (qao a b)=err at *;have eJ:=fun W=>qcp (w:=W) (bt:=bt) he
 have b0:Blk (w.alloc (.cells #[.int .i64 a,.int .i64 b] 35)) w.heap.size 35 #[.int .i64 a,.int .i64 b]:=Blk.new w 35 _;have bm:=b0.cell
 go_enter func32,ntmps32
 go_wp2_with (first
  |(go_at_call 59;refine(aD _ ?_).mono ?_;(focus exact bel2);rintro e w1 ⟨rfl,aa⟩)
  |(go_at_call 51;refine(eJ _).mono ?_;rintro e w2 ⟨rfl,eG⟩;subst eG))
 exact xrn (v:=.tuple #[.int .i64 0,.slice none 0 0,.int .i64 err]) (by simp[results,results32,go_sem]) rfl ⟨rfl,qab (by exact bel2) aa⟩
theorem qp1(T0:Tree nodes)(hB:qa1 nodes){last:Int}(h:TwAt w nodes bt r (.int .i64 last) vw va ws as_)(h0:0<=last)(h1:last<=2000000)(hr:r∈nodes)(a_:r.key=[])(s:ByteArray)(hs:s.size<=2000000)(a b:Int)(he:qfd nodes (ws.length+as_.length) (bl s) (qao a b)=0)(R:Rel nodes Ws ws as_)(I:SInv ⟨Ws++[qe4 last (bl s) a b],st,[]⟩):
  Calls prog 32 #[.pointer (some ⟨bt,0,none⟩),.string s,.agg #[.int .i64 a,.int .i64 b]] w fun e w'=>∃ev,e=.returned (.tuple #[.int .i64 (last+1),ev,.int .i64 0])/\SetT nodes bt r (.int .i64 (last+1)) vw va ws as_ (qal (nodes.map Node.ent) ⟨Ws++[qe4 last (bl s) a b],st,[]⟩) ev w w':=by
 obtain⟨n,hn,eS,en,ko⟩:=qhe he;obtain⟨bQ,bX⟩:=qan hn;have aD:=fun W (hW:Below w.heap.size w W)=>qrk T0 (h.below hW) h0 h1 hr a_ s hs a b he hn
 have eJ:=fun W aI k (hT:TwAt W nodes bt r (.int .i64 (last+1)) aI va (ws++[⟨k,⟨last+1,qac (bl s),a,b,0⟩,n.blk⟩]) as_)=>qfc T0 hB hT hr a_ (s0:=⟨Ws++[qe4 last (bl s) a b],st,[]⟩) (R.append (x:=qe4 last (bl s) a b) rfl bQ bX) I rfl
 generalize qal (nodes.map Node.ent) ⟨Ws++[qe4 last (bl s) a b],st,[]⟩=aT at eJ ⊢;have cD:=h.bk.at_.lt;have b0:Blk (w.alloc (.cells #[.int .i64 a,.int .i64 b] 35)) w.heap.size 35 #[.int .i64 a,.int .i64 b]:=Blk.new w 35 _;have bm:=b0.cell
 go_enter func32,ntmps32
 go_wp2_with (first
  |(go_at_call 59;refine(aD _ ?_).mono ?_;(focus exact bel2);rintro e w1 ⟨rfl,eU,k1,cf,l_,dD,yM⟩)
  |(go_at_call 51;refine(eJ _ _ _ l_).mono ?_;rintro e w2 ⟨ff,fe,ei,eC,fR,rfl,m1,m2,m3,m4,m5,m6,m7⟩))
 have cN:Below w.heap.size w (w.alloc (.cells #[.int .i64 a,.int .i64 b] 35)):=by exact bel2
 have qE:Keep (BkT bt vw va) w w1:=(Keep.new cN).qbm dD (fun b hb e=>e);have dz:=qE.size
 refine xrn (v:=.tuple #[.int .i64 (last+1),ei,.int .i64 0]) (by simp[results,results32,go_sem]) rfl ⟨ei,rfl,ff,fe,eC,fR,m1,m2,m3,qE.qbm m4 (fun b hb e=>?_),fun b hb=>?_,fun b hb=>Nat.le_trans dz (m6 b hb),fun p hp=>?_⟩
 ·rcases e with e|e|e
  ·exact .inl e
  ·rcases yM b e with e2|e2
   ·exact .inr (.inl e2)
   ·simp at e2;omega
  ·exact .inr (.inr e)
 ·rcases m5 b hb with e|e|e
  ·rcases yM b e with e2|e2
   ·exact .inl e2
   ·simp at e2;exact .inr (.inr (by omega))
  ·exact .inr (.inl e)
  ·exact .inr (.inr (by omega))
 ·rcases xri.1 (m7 p hp) with e|e
  ·rcases xri.1 e with e|e
   ·exact .inl (xr9 _ e)
   ·simp only[List.mem_singleton]at e;subst e
    simp at cf
    exact .inr (by simp only;omega)
  ·exact .inl (xra _ e)
theorem qde{α : Type}(g : α -> Int):∀ {l:List α},(l.map g).Nodup->∀ {i:Nat} {x : α},l[i]?=some x->l.take i++l.drop (i+1)=l.filter (fun y=>!(g y == g x))
 | [],_,i,x,h=>by simp at h
 |a::l,hn,0,x,h=>by
  simp only[List.getElem?_cons_zero,Option.some.injEq]at h;subst h;simp only[List.map_cons,List.nodup_cons]at hn;simp only[List.take_zero,List.nil_append,Nat.zero_add,List.drop_succ_cons,List.drop_zero];rw[List.filter_cons_of_neg (by simp)]
  symm
  rw[List.filter_eq_self];intro b hb
  have:g b≠g a:=fun e=>hn.1 (e ▸ xrj hb)
  simp[this]
 |a::l,hn,i+1,x,h=>by
  simp only[List.getElem?_cons_succ]at h;simp only[List.map_cons,List.nodup_cons]at hn;have hx:g a≠g x:=fun e=>hn.1 (e ▸ xrj (xr2 h))
  simp only[List.take_succ_cons,List.drop_succ_cons,List.cons_append];rw[List.filter_cons_of_pos (by simp[hx]),qde g hn.2 h]
theorem Rel.qyc(R:Rel nodes Ws ws as_)(m:Int):Rel nodes (Ws.filter fun y=>!(y.num == m)) (ws.filter fun p=>!(p.x.num == m)) (as_.filter fun p=>!(p.x.num == m)):=by
 obtain⟨az,h1,h2,h3⟩:=R.a;have hf:∀l:List Pw,(l.filter fun p=>!(p.x.num == m)).map (·.x)=(l.map (·.x)).filter fun y=>!(y.num == m):=fun l=>by rw[List.filter_map];rfl
 refine⟨?_,⟨az.filter fun y=>!(y.num == m),?_,?_,h3.sublist List.filter_sublist⟩,fun p hp=>?_⟩
 ·rw[hf,R.w,List.filter_filter,List.filter_filter]
  exact List.filter_congr fun x _=>Bool.and_comm _ _
 ·rw[hf,h1,List.filter_map];rfl
 ·rw[List.filter_filter]
  have:=h2.filter fun y=>!(y.num == m)
  rw[List.filter_filter]at this
  refine this.trans (List.Perm.of_eq (List.filter_congr fun x _=>Bool.and_comm _ _))
 ·rw[<-List.filter_append]at hp
  exact R.leaf p (xrr.1 hp).1
theorem qq6(R:Rel nodes Ws ws as_)(hS:WkS Ws st):((ws++as_).map (·.x.num)).Nodup:=(R.nums (fun x hx=>(hS.st x hx).1)).nodup_iff.2 hS.nums
theorem qpl{m:Int}(h:∀p∈l,p.x.num≠m):(l.filter fun p=>!(p.x.num == m))=l:=by
 rw[List.filter_eq_self];intro p hp
 simp[h p hp]
theorem Rel.found(R:Rel nodes Ws ws as_)(hS:WkS Ws st)(hi:Ws[i]?=some x):
  ∃p b,qgr ws as_ x.num=(nptr p.blk,b)/\((∃j,ws[j]?=some p/\Rel nodes (Ws.take i++Ws.drop (i+1)) (ws.take j++ws.drop (j+1)) as_)\/(∃j,as_[j]?=some p/\Rel nodes (Ws.take i++Ws.drop (i+1)) ws (as_.take j++as_.drop (j+1)))):=by
 have bT:=qq6 R hS;rw[List.map_append,List.nodup_append]at bT;obtain⟨dH,dR,zo⟩:=bT;have hx:x.num∈(ws++as_).map (·.x.num):=(R.nums (fun x hx=>(hS.st x hx).1)).mem_iff.2 (xrj (xr2 hi));have hW:=R.qyc x.num;rw[<-qde (·.num) hS.nums hi]at hW
 cases ha:qgd as_ x.num with
 |some p =>
  have hp:p∈as_:=List.mem_of_find?_eq_some ha;have gx:p.x.num=x.num:=by have:=List.find?_some ha;simpa using this
  obtain⟨j,hj⟩:=xre hp
  refine⟨p,true,by simp[qgr,ha],.inr ⟨j,hj,?_⟩⟩
  have e1:=qde (·.x.num) dR hj;rw[gx]at e1;rw[<-e1,qpl (fun q hq=>fun e=>zo _ (xrj hq) _ (xrj hp) (e.trans gx.symm))]at hW
  exact hW
 |none =>
  have ay:∀q∈as_,q.x.num≠x.num:=fun q hq e=>by
   have:=List.find?_eq_none.1 ha q hq
   simp[e]at this
  obtain⟨q,hq,tV⟩:=xrq.1 hx;have hq:q∈ws:=(xri.1 hq).resolve_right (fun h=>ay q h tV)
  cases hw:qgd ws x.num with
  |none =>
   have:=List.find?_eq_none.1 hw q hq
   simp[tV]at this
  |some p =>
   have hp:p∈ws:=List.mem_of_find?_eq_some hw;have gx:p.x.num=x.num:=by have:=List.find?_some hw;simpa using this
   obtain⟨j,hj⟩:=xre hp
   refine⟨p,false,by simp[qgr,ha,hw,optP],.inl ⟨j,hj,?_⟩⟩
   have e1:=qde (·.x.num) dH hj;rw[gx]at e1;rw[<-e1,qpl ay]at hW
   exact hW
theorem Rel.lost(R:Rel nodes Ws ws as_)(hS:WkS Ws st){m:Int}(h:∀x∈Ws,x.num≠m):qgr ws as_ m=(.pointer none,false):=by
 have ay:∀q∈ws++as_,q.x.num≠m:=fun q hq e=>by
  have:=(R.nums (fun x hx=>(hS.st x hx).1)).mem_iff.1 (xrj hq)
  obtain⟨x,hx,C6⟩:=xrq.1 this
  exact h x hx (C6.trans e)
 have ha:qgd as_ m=none:=List.find?_eq_none.2 fun q hq=>by simp[ay q (xra _ hq)]
 have hw:qgd ws m=none:=List.find?_eq_none.2 fun q hq=>by simp[ay q (xr9 _ hq)]
 simp[qgr,ha,hw,optP]
end Go.Proofs.YtphclnolomgjoaaGreatDoor
