import Derived.Test.YtphclnolomgjoaaGreatDoorG18
set_option linter.unusedVariables false
set_option linter.unusedSimpArgs false
set_option maxRecDepth 100000
set_option maxHeartbeats 4000000
namespace Go.Proofs.YtphclnolomgjoaaGreatDoor
open Tryz
open Go.RowKit
variable {nodes:List Node}{W W' w:World}{bt i:Nat}{n r:Node}{aH aO ai sR va vw:Value}{aK aj as_ l ws:List Pw}{p:Pw}{ok:Bool}{Ws:List Wk}{x:Wk}{st:Int}
def qji:Array Value:=#[.string ⟨#[]⟩,.bool false,.int .i64 0,.int .i64 0,.int .i64 0,.int .i64 0,.int .i64 0,.int .i64 0,.slice none 0 0]
def QueR (nodes:List Node)(ws as_:List Pw)(s:Bs)(w:World)(e:Ending)(w':World):Prop :=
 if qas s=false then e=.returned (.tuple #[.agg qji,.int .i64 1])/\Below w.heap.size w w' else match findKey nodes (qab s) with
  |none=>e=.returned (.tuple #[.agg qji,.int .i64 3])/\Below w.heap.size w w'
  |some n=>∃v',e=.returned (.tuple #[.agg (qq6 (qaa n.key) n.leaf (pn0 nodes n.key) (pn1 nodes n.key) n.b0 n.b1 (ws0 (pun as_ n.key)) (ws1 (pun as_ n.key)) v'),.int .i64 0])/\w'.ownsRow 0 3 1 v' (qba ws n.blk).length (qg1 (qba ws n.blk))/\Below w.heap.size w w'/\(∀b,v'.ownBlock=some b->w.heap.size<=b)
theorem qol(T0:Tree nodes)(hB:qa2 nodes)(h:TwAt w nodes bt r ai vw va ws as_)(hr:r∈nodes)(a_:r.key=[])(s:ByteArray)(hs:s.size<=2000000):
  Calls prog 34 #[.pointer (some ⟨bt,0,none⟩),.string s] w (QueR nodes ws as_ (bl s) w):=by
 have a9:=fun W=>qhc s hs W
 have cC:=h.bk.at_.lt;have bC:∀W,Below w.heap.size w W->W.cell? ⟨bt,0,none⟩=some (nptr r.blk):=fun W (hW:Below w.heap.size w W)=>(h.below hW).bk.at_.cell 0
 have ak:=fun W (hW:Below w.heap.size w W) v hv=>qcs T0 hr a_ s hs W (h.below hW).ins v hv
 have hq:Calls prog 34 #[.pointer (some ⟨bt,0,none⟩),.string s] w (fun e w'=>QueR nodes ws as_ (bl s) w e w')=Calls prog 34 #[.pointer (some ⟨bt,0,none⟩),.string s] w (QueR nodes ws as_ (bl s) w):=rfl;rw[<-hq];clear hq;unfold QueR;have b0:Blk (w.alloc (.cells qji 37)) w.heap.size 37 qji:=Blk.new w 37 _;unfold qji at b0
 cases hv:qas (bl s)
 ·rw[hv]at a9;simp only[if_true];clear ak bC;unfold qji
  go_enter func34,ntmps34
  go_wp2_with (go_at_call 62;refine(a9 _).mono ?_;rintro e w1 ⟨rfl,aa⟩;have b1:=b0.below aa (by simp);have bj:=b1.cell;have eh:=b1.frozen)
  have aI:=(((((((((b1.set 0 (.string ⟨#[]⟩)).set 1 (.bool false)).set 2 (.int .i64 0)).set 3 (.int .i64 0)).set 4 (.int .i64 0)).set 5 (.int .i64 0)).set 6 (.int .i64 0)).set 7 (.int .i64 0)).set 8 (.slice none 0 0));have hc:=aI.cell;clear bj eh;have au:Below w.heap.size w w1:=qac (by exact bel2) aa
  exact xrn (v:=.tuple #[.agg #[.string ⟨#[]⟩,.bool false,.int .i64 0,.int .i64 0,.int .i64 0,.int .i64 0,.int .i64 0,.int .i64 0,.slice none 0 0],.int .i64 1]) (by simp[results,results34,go_sem,hc]) rfl ⟨rfl,by exact bel2⟩
 ·rw[hv]at a9;simp only[Bool.true_eq_false,if_false]
  cases hf:findKey nodes (qab (bl s)) with
  |none =>
   rw[hf]at ak;clear hf;unfold nptr at ak bC;unfold qji
   go_enter func34,ntmps34
   go_wp2_with (first
    |(go_at_call 62;refine(a9 _).mono ?_;rintro e w1 ⟨rfl,aa⟩;have au:Below w.heap.size w w1:=qac (by exact bel2) aa;have b1:=b0.below aa (by simp);have gV:=bC w1 au)
    |(go_at_call 63;refine(ak _ au (.pointer none) rfl).mono ?_;rintro e w2 ⟨rfl,ag⟩;have aR:Below w.heap.size w w2:=qac au ag;have b2:=b1.below ag (by have:=aa.size;simp at this;omega);have bj:=b2.cell;have eh:=b2.frozen;clear ak bC))
   have aI:=(((((((((b2.set 0 (.string ⟨#[]⟩)).set 1 (.bool false)).set 2 (.int .i64 0)).set 3 (.int .i64 0)).set 4 (.int .i64 0)).set 5 (.int .i64 0)).set 6 (.int .i64 0)).set 7 (.int .i64 0)).set 8 (.slice none 0 0));have hc:=aI.cell;clear bj eh
   exact xrn (v:=.tuple #[.agg #[.string ⟨#[]⟩,.bool false,.int .i64 0,.int .i64 0,.int .i64 0,.int .i64 0,.int .i64 0,.int .i64 0,.slice none 0 0],.int .i64 3]) (by simp[results,results34,go_sem,hc]) rfl ⟨rfl,by exact bel2⟩
  |some n =>
   obtain⟨hn,bR⟩:=qan hf;rw[hf]at ak;clear hf;have du:=fun W (hW:Below w.heap.size w W)=>qrh T0 hB (h.below hW) hn
   simp only[nptr]at ak;unfold nptr at bC du
   dsimp only
   unfold qq6 at du ⊢;generalize pn0 nodes n.key=s0 at *;generalize pn1 nodes n.key=s1 at *;generalize ws0 (pun as_ n.key)=u0 at *;generalize ws1 (pun as_ n.key)=u1 at *;generalize sb (qaa n.key)=iM at *;generalize (qba ws n.blk).length=wl at *;generalize qg1 (qba ws n.blk)=wn at *
   go_enter func34,ntmps34
   go_wp2_with (first
    |(go_at_call 62;refine(a9 _).mono ?_;rintro e w1 ⟨rfl,aa⟩;have au:Below w.heap.size w w1:=qac (by exact bel2) aa;have b1:=b0.below aa (by simp);have gV:=bC w1 au)
    |(go_at_call 63;refine(ak _ au (.pointer (some ⟨n.blk,0,none⟩)) rfl).mono ?_;rintro e w2 ⟨rfl,ag⟩;have aR:Below w.heap.size w w2:=qac au ag;have b2:=b1.below ag (by have:=aa.size;simp at this;omega))
    |(go_at_call 64;refine(du _ aR).mono ?_;rintro e w3 ⟨v3,rfl,pY,aM,zw⟩;have bE:Below w.heap.size w w3:=qac aR aM;obtain⟨a3,c3,sz,_,_⟩:=qa7 pY;subst sz;have b3:=b2.below aM (by have:=aa.size;have:=ag.size;simp at *;omega);have bj:=b3.cell;have eh:=b3.frozen;clear ak bC du))
   have aI:=(((((((((b3.set 0 (.string iM)).set 1 (.bool n.leaf)).set 2 (.int .i64 s0)).set 3 (.int .i64 s1)).set 4 (.int .i64 n.b0)).set 5 (.int .i64 n.b1)).set 6 (.int .i64 u0)).set 7 (.int .i64 u1)).set 8 (.slice a3 wl c3));have hc:=aI.cell;have hk:=(((((((((Keep.refl (fun b=>b=w.heap.size) w3).setCell (p:=⟨w.heap.size,0,none⟩) rfl (.string iM)).setCell (p:=⟨w.heap.size,1,none⟩) rfl (.bool n.leaf)).setCell (p:=⟨w.heap.size,2,none⟩) rfl (.int .i64 s0)).setCell (p:=⟨w.heap.size,3,none⟩) rfl (.int .i64 s1)).setCell (p:=⟨w.heap.size,4,none⟩) rfl (.int .i64 n.b0)).setCell (p:=⟨w.heap.size,5,none⟩) rfl (.int .i64 n.b1)).setCell (p:=⟨w.heap.size,6,none⟩) rfl (.int .i64 u0)).setCell (p:=⟨w.heap.size,7,none⟩) rfl (.int .i64 u1)).setCell (p:=⟨w.heap.size,8,none⟩) rfl (.slice a3 wl c3);have an:w.heap.size<w2.heap.size:=by have:=aa.size;have:=ag.size;simp at *;omega
   clear bj eh
   exact xrn (v:=.tuple #[.agg #[.string iM,.bool n.leaf,.int .i64 s0,.int .i64 s1,.int .i64 n.b0,.int .i64 n.b1,.int .i64 u0,.int .i64 u1,.slice a3 wl c3],.int .i64 0]) (by simp[results,results34,go_sem,hc]) rfl ⟨_,rfl,qae pY hk (fun b hb e=>by have:=zw b hb;omega),bE.trans (hk.toBelow bE.size (fun b hb e=>by omega)),fun b hb=>by have:=zw b hb;omega⟩
def qfd (nodes:List Node)(cnt:Nat)(s:Bs)(ok:Bool):Int :=
 if qas s=false then 1 else match findKey nodes (qab s) with
 |none=>3
 |some n=>if n.leaf=false then 5 else if ok=false then 6 else if 24<=cnt then 7 else 0
theorem qfo(T0:Tree nodes)(h:TwAt w nodes bt r ai vw va ws as_)(hr:r∈nodes)(a_:r.key=[])(s:ByteArray)(hs:s.size<=2000000)(a b:Int):
  Calls prog 99 #[.pointer (some ⟨bt,0,none⟩),.string s,.agg #[.int .i64 a,.int .i64 b]] w fun e w'=>e=.returned (.int .i64 (qfd nodes (ws.length+as_.length) (bl s) (qao a b)))/\Below w.heap.size w w':=by
 have a9:=fun W=>qhc s hs W
 have cC:=h.bk.at_.lt;have ay:=h.bk.len;have bC:∀W,Below w.heap.size w W->W.cell? ⟨bt,0,none⟩=some (nptr r.blk):=fun W (hW:Below w.heap.size w W)=>(h.below hW).bk.at_.cell 0
 have ak:=fun W (hW:Below w.heap.size w W) v hv=>qcs T0 hr a_ s hs W (h.below hW).ins v hv
 have fy:=fun W=>qiu a b W
 have d_:=fun W (hW:Below w.heap.size w W)=>qp5 (h.below hW).bk
 have aZ:=fun n (hn:n∈nodes) W (hW:Below w.heap.size w W)=>qgy n.blk n.leaf W (((h.below hW).ins n hn).cell rfl)
 have b0:Blk (w.alloc (.cells #[.int .i64 a,.int .i64 b] 35)) w.heap.size 35 #[.int .i64 a,.int .i64 b]:=Blk.new w 35 _;generalize ws.length+as_.length=cnt at d_ ay ⊢;unfold qfd;unfold nptr at bC
 cases hv:qas (bl s)
 ·rw[hv]at a9;simp only[if_true];clear ak bC d_ fy aZ
  go_enter func99,ntmps99
  go_wp2_with (go_at_call 62;refine(a9 _).mono ?_;rintro e w1 ⟨rfl,aa⟩)
  refine xrn (v:=.int .i64 1) (by simp[results,results99,go_sem]) rfl ⟨rfl,?_⟩
  exact qac (by exact bel2) aa
 ·rw[hv]at a9;simp only[Bool.true_eq_false,if_false]
  cases hf:findKey nodes (qab (bl s)) with
  |none =>
   rw[hf]at ak;clear hf d_ fy aZ;unfold nptr at ak
   go_enter func99,ntmps99
   go_wp2_with (first
    |(go_at_call 62;refine(a9 _).mono ?_;rintro e w1 ⟨rfl,aa⟩;have au:Below w.heap.size w w1:=qac (by exact bel2) aa;have gV:=bC w1 au)
    |(go_at_call 63;refine(ak _ au (.pointer none) rfl).mono ?_;rintro e w2 ⟨rfl,ag⟩;have aR:Below w.heap.size w w2:=qac au ag))
   refine xrn (v:=.int .i64 3) (by simp[results,results99,go_sem]) rfl ⟨rfl,?_⟩
   exact aR
  |some n =>
   obtain⟨hn,bR⟩:=qan hf;rw[hf]at ak
   replace aZ:=aZ n hn
   clear hf;simp only[nptr]at ak
   dsimp only
   cases hl:n.leaf
   ·rw[hl]at aZ;simp only[if_true];clear d_ fy
    go_enter func99,ntmps99
    go_wp2_with (first
     |(go_at_call 62;refine(a9 _).mono ?_;rintro e w1 ⟨rfl,aa⟩;have au:Below w.heap.size w w1:=qac (by exact bel2) aa;have gV:=bC w1 au)
     |(go_at_call 63;refine(ak _ au (.pointer (some ⟨n.blk,0,none⟩)) rfl).mono ?_;rintro e w2 ⟨rfl,ag⟩;have aR:Below w.heap.size w w2:=qac au ag)
     |(go_at_call 105;refine(aZ _ aR).mono ?_;rintro e w3 ⟨rfl,fI⟩;subst fI))
    refine xrn (v:=.int .i64 5) (by simp[results,results99,go_sem]) rfl ⟨rfl,?_⟩
    exact aR
   ·rw[hl]at aZ;simp only[Bool.true_eq_false,if_false]
    cases eh:qao a b
    ·rw[eh]at fy;simp only[if_true];clear d_
     go_enter func99,ntmps99
     go_wp2_with (first
      |(go_at_call 62;refine(a9 _).mono ?_;rintro e w1 ⟨rfl,aa⟩;have au:Below w.heap.size w w1:=qac (by exact bel2) aa;have gV:=bC w1 au;have b1:=b0.below aa (by simp))
      |(go_at_call 63;refine(ak _ au (.pointer (some ⟨n.blk,0,none⟩)) rfl).mono ?_;rintro e w2 ⟨rfl,ag⟩;have aR:Below w.heap.size w w2:=qac au ag;have b2:=b1.below ag (by have:=aa.size;simp at this;omega);have bj:=b2.cell)
      |(go_at_call 105;refine(aZ _ aR).mono ?_;rintro e w3 ⟨rfl,fI⟩;subst fI)
      |(go_at_call 147;refine(fy _).mono ?_;rintro e w4 ⟨rfl,bm⟩;have dO:Below w.heap.size w w4:=qac aR bm))
     refine xrn (v:=.int .i64 6) (by simp[results,results99,go_sem]) rfl ⟨rfl,?_⟩
     exact dO
    ·rw[eh]at fy;simp only[Bool.true_eq_false,if_false];have oL:(decide ((24:Int)<=(cnt:Int)))=decide (24<=cnt):=by simp only[decide_eq_decide];omega
     go_enter func99,ntmps99
     go_wp2_with (first
      |(go_at_call 62;refine(a9 _).mono ?_;rintro e w1 ⟨rfl,aa⟩;have au:Below w.heap.size w w1:=qac (by exact bel2) aa;have gV:=bC w1 au;have b1:=b0.below aa (by simp))
      |(go_at_call 63;refine(ak _ au (.pointer (some ⟨n.blk,0,none⟩)) rfl).mono ?_;rintro e w2 ⟨rfl,ag⟩;have aR:Below w.heap.size w w2:=qac au ag;have b2:=b1.below ag (by have:=aa.size;simp at this;omega);have bj:=b2.cell)
      |(go_at_call 105;refine(aZ _ aR).mono ?_;rintro e w3 ⟨rfl,fI⟩;subst fI)
      |(go_at_call 147;refine(fy _).mono ?_;rintro e w4 ⟨rfl,bm⟩;have dO:Below w.heap.size w w4:=qac aR bm)
      |(go_at_call 148;refine(d_ _ dO).mono ?_;rintro e w5 ⟨rfl,m,xu⟩;subst xu))
     ·exact xrn (v:=.int .i64 7) (by simp[results,results99,go_sem]) rfl ⟨rfl,xrm dO _⟩
     ·exact xrn (v:=.int .i64 0) (by simp[results,results99,go_sem]) rfl ⟨rfl,xrm dO _⟩
theorem quz{r:Value}(h:BkAt w bt r ai vw va ws as_)(hi:ws[i]?=some p):
  Calls prog 83 #[.pointer (some ⟨bt,1,none⟩),nptr p.blk] w fun e w'=>e=.returned (.tuple #[])/\∃aH,BkAt w' bt r ai aH va (ws.take i++ws.drop (i+1)) as_/\Keep (BkT bt vw va) w w'/\aH.ownBlock=vw.ownBlock:=by
 have cm:=xr2 hi;have ng:=h.works p (xr9 _ cm);have an:=h.at_.lt;have ay:=h.len;have lJ:ws.length<=100:=by omega
 have pV:p ∉ as_:=fun e=>(List.nodup_append.1 h.nd).2.2 p cm p e rfl
 have gh:=qc0 ⟨h.wrow,fun q hq=>h.works q (xr9 _ hq)⟩ lJ ng (fun a ha e=>h.inj a (xr9 _ ha) p (xr9 _ cm) e) (List.nodup_append.1 h.nd).1;have dG:vw.ownBlock≠some bt:=qag h.wrow h.at_ (by decide);have dK:va.ownBlock≠some bt:=qag h.arow h.at_ (by decide);have c2:=h.at_.cell 2;simp only[xq0,xq1,xq2]at c2;unfold nptr at gh ⊢
 go_enter func83,ntmps83
 go_wp2_with fail
 refine gh.mono ?_
 rintro e w1 (⟨aA,rfl,hB⟩|⟨i',v1,ez,rfl,dp,dA,bN⟩)
 ·exact absurd cm aA
 ·have mV:i'=i:=(List.getElem?_inj (xr0.1 ez).1 (List.nodup_append.1 h.nd).1).1 (ez.trans hi.symm);subst mV;have cK:=h.at_.keep dA dG;have f2:=cK.frozen 2;have k2:=cK.cell 2;have k3:=cK.cell 3;simp only[xq0,xq1,xq2]at k2 k3;have dw:Blk (w1.setCell ⟨bt,2,none⟩ v1) bt 102 #[r,ai,v1,va]:=by have:=cK.set 2 v1;simpa using this
  have fX:(w1.setCell ⟨bt,2,none⟩ v1).ownsRow 0 95 1 va as_.length (qa1 as_):=xrl (qae h.arow dA (fun g hg e=>h.sep g e hg)) (fun e=>dK e) _;have gi:(w1.setCell ⟨bt,2,none⟩ v1).ownsRow 0 95 1 v1 (ws.take i'++ws.drop (i'+1)).length (qa1 (ws.take i'++ws.drop (i'+1))):=xrl dp.row (fun e=>dG (by rw[<-bN];exact e)) _;have fJ:∀q∈ws++as_,Blk (w1.setCell ⟨bt,2,none⟩ v1) q.blk 105 q.cells:=fun q hq=>((h.works q hq).keep dA (qag h.wrow (h.works q hq) (by decide))).other _ _ (fun e=>by
   have h1:=h.works q hq;rw[show q.blk=bt from e]at h1
   have:=h1.symm.trans h.at_
   injection this with this;injection this with _ h2 _
   exact absurd h2 (by decide))
  have dJ:Keep (BkT bt vw va) w (w1.setCell ⟨bt,2,none⟩ v1):=(dA.mono (fun y e=>.inr (.inl e))).setCell (p:=⟨bt,2,none⟩) (.inl rfl) _;have jD:BkAt (w1.setCell ⟨bt,2,none⟩ v1) bt r ai v1 va (ws.take i'++ws.drop (i'+1)) as_:=by
   have af:∀q,q∈(ws.take i'++ws.drop (i'+1))++as_->q∈ws++as_:=fun q hq=>(xri.1 hq).elim (fun e=>xr9 _ (qbl e)) (fun e=>xra _ e)
   have aD:List.Sublist ((ws.take i'++ws.drop (i'+1))++as_) (ws++as_):=by
    refine List.Sublist.append ?_ (List.Sublist.refl _)
    have:=qeo hi
    conv=>rhs;rw[this]
    exact List.Sublist.append (List.Sublist.refl _) (List.sublist_cons_self _ _)
   refine⟨dw,gi,fX,fun q hq=>fJ q (af q hq),fun b hb=>h.sep b (by rw[<-bN];exact hb),aD.nodup h.nd,fun a ha b hb e=>h.inj a (af a ha) b (af b hb) e,?_⟩
   have:=aD.length_le
   simp only[List.length_append]at this ⊢
   omega
  have jh:=qc0 ⟨jD.arow,fun q hq=>jD.works q (xra _ hq)⟩ (by omega) (fJ p (xr9 _ cm)) (fun a ha e=>h.inj a (xra _ ha) p (xr9 _ cm) e) (List.nodup_append.1 h.nd).2.1;obtain⟨a1,sW,cQ,_,_⟩:=qa7 jD.wrow;obtain⟨a2,zN,en,_,_⟩:=qa7 jD.arow;have pC:∃n1,v1=.slice a1 n1 sW:=⟨_,cQ⟩;have xr:∃n2,va=.slice a2 n2 zN:=⟨_,en⟩;have aJ:∀w2,Below (w1.setCell ⟨bt,2,none⟩ v1).heap.size (w1.setCell ⟨bt,2,none⟩ v1) w2->Blk w2 bt 102 #[r,ai,v1,va]/\Hid (BkAt (w2.setCell ⟨bt,3,none⟩ va) bt r ai v1 va (ws.take i'++ws.drop (i'+1)) as_/\Keep (BkT bt vw va) w (w2.setCell ⟨bt,3,none⟩ va)):=by
   intro w2 hB;have dE:=dw.below hB dw.lt;have aM:=jD.keep (T:=fun _=>False) (Keep.new hB) id (fun _ _=>id) (fun _ _=>id) (fun _ _=>id)
   refine⟨dE,⟨?_,?_,?_,?_,aM.sep,aM.nd,aM.inj,aM.len⟩,(dJ.qj5 hB).setCell (p:=⟨bt,3,none⟩) (.inl rfl) _⟩
   ·have:=dE.set 3 va
    simpa using this
   ·exact xrl aM.wrow (fun e=>dG (by rw[<-bN];exact e)) _
   ·exact xrl aM.arow (fun e=>dK e) _
   ·exact fun q hq=>(aM.works q hq).other _ _ (qaw (aM.works q hq) dE (by decide))
  clear h dp fX gi fJ dJ jD gh cQ en;obtain⟨n1,rfl⟩:=pC;obtain⟨n2,rfl⟩:=xr;unfold nptr at jh
  go_wp2_with fail
  refine jh.mono ?_
  rintro e w2 (⟨_,rfl,hB⟩|⟨i',v2,rq,_⟩)
  ·obtain⟨dE,hp⟩:=aJ w2 hB;have f3:=dE.frozen 3;have ft:=dE.cell 3;simp only[xq0,xq1,xq2]at ft;clear aJ jh
   go_wp2_with fail
   go_end0
   exact⟨rfl,_,hp.out.1,hp.out.2,bN⟩
  ·exact absurd (xr2 rq) pV
theorem quy{r:Value}(h:BkAt w bt r ai vw va ws as_)(hi:as_[i]?=some p):
  Calls prog 83 #[.pointer (some ⟨bt,1,none⟩),nptr p.blk] w fun e w'=>e=.returned (.tuple #[])/\∃aO,BkAt w' bt r ai vw aO ws (as_.take i++as_.drop (i+1))/\Keep (BkT bt vw va) w w'/\aO.ownBlock=va.ownBlock:=by
 have cm:=xr2 hi;have ng:=h.works p (xra _ cm);have an:=h.at_.lt;have ay:=h.len;have lJ:ws.length<=100:=by omega
 have fF:p ∉ ws:=fun e=>(List.nodup_append.1 h.nd).2.2 p e p cm rfl
 have gh:=qc0 ⟨h.wrow,fun q hq=>h.works q (xr9 _ hq)⟩ lJ ng (fun a ha e=>h.inj a (xr9 _ ha) p (xra _ cm) e) (List.nodup_append.1 h.nd).1;have dG:vw.ownBlock≠some bt:=qag h.wrow h.at_ (by decide);have dK:va.ownBlock≠some bt:=qag h.arow h.at_ (by decide);have c2:=h.at_.cell 2;simp only[xq0,xq1,xq2]at c2;obtain⟨a1,sW,cQ,_,_⟩:=qa7 h.wrow;have pC:∃n1,vw=.slice a1 n1 sW:=⟨_,cQ⟩;clear cQ;unfold nptr at gh ⊢
 go_enter func83,ntmps83
 go_wp2_with fail
 refine gh.mono ?_
 rintro e w1 (⟨_,rfl,hB⟩|⟨i',v2,rq,_⟩)
 ·have cK:=h.at_.below hB an;have f2:=cK.frozen 2;have k2:=cK.cell 2;have k3:=cK.cell 3;simp only[xq0,xq1,xq2]at k2 k3;have aa:=h.keep (T:=fun _=>False) (Keep.new hB) id (fun _ _=>id) (fun _ _=>id) (fun _ _=>id);have dA:Keep (BkT bt vw va) w (w1.setCell ⟨bt,2,none⟩ vw):=(Keep.new (T:=BkT bt vw va) hB).setCell (p:=⟨bt,2,none⟩) (.inl rfl) _;have ag:BkAt (w1.setCell ⟨bt,2,none⟩ vw) bt r ai vw va ws as_:=by
   refine⟨?_,xrl aa.wrow (fun e=>dG e) _,xrl aa.arow (fun e=>dK e) _,fun q hq=>(aa.works q hq).other _ _ (qaw (aa.works q hq) cK (by decide)),h.sep,h.nd,h.inj,h.len⟩
   have:=cK.set 2 vw
   simpa using this
  have jh:=qc0 ⟨ag.arow,fun q hq=>ag.works q (xra _ hq)⟩ (by omega) (ag.works p (xra _ cm)) (fun a ha e=>h.inj a (xra _ ha) p (xra _ cm) e) (List.nodup_append.1 h.nd).2.1;have aJ:∀w2 v1,WRow w2 v1 (as_.take i++as_.drop (i+1))->Keep (fun y=>va.ownBlock=some y) (w1.setCell ⟨bt,2,none⟩ vw) w2->v1.ownBlock=va.ownBlock->Blk w2 bt 102 #[r,ai,vw,va]/\(∃a n c,v1=.slice a n c)/\Hid (BkAt (w2.setCell ⟨bt,3,none⟩ v1) bt r ai vw v1 ws (as_.take i++as_.drop (i+1))/\Keep (BkT bt vw va) w (w2.setCell ⟨bt,3,none⟩ v1)):=by
   intro w2 v1 hW hk ho;have dE:=ag.at_.keep hk dK;have af:∀q,q∈ws++(as_.take i++as_.drop (i+1))->q∈ws++as_:=fun q hq=>(xri.1 hq).elim (fun e=>xr9 _ e) (fun e=>xra _ (qbl e))
   have aD:List.Sublist (ws++(as_.take i++as_.drop (i+1))) (ws++as_):=by
    refine List.Sublist.append (List.Sublist.refl _) ?_
    have:=qeo hi
    conv=>rhs;rw[this]
    exact List.Sublist.append (List.Sublist.refl _) (List.sublist_cons_self _ _)
   have ub:∀q∈ws++as_,Blk w2 q.blk 105 q.cells:=fun q hq=>(ag.works q hq).keep hk (qag ag.arow (ag.works q hq) (by decide))
   obtain⟨a,c,hv,_,_⟩:=qa7 hW.row
   refine⟨dE,⟨a,_,c,hv⟩,⟨?_,?_,?_,?_,?_,?_,?_,?_⟩,(dA.qbm hk (fun b _ e=>.inr (.inr e))).setCell (p:=⟨bt,3,none⟩) (.inl rfl) _⟩
   ·have:=dE.set 3 v1
    simpa using this
   ·exact xrl (qae ag.wrow hk (fun g hg e=>h.sep g hg e)) (fun e=>dG e) _
   ·exact xrl hW.row (fun e=>dK (by rw[<-ho];exact e)) _
   ·exact fun q hq=>(ub q (af q hq)).other _ _ (qaw (ub q (af q hq)) dE (by decide))
   ·exact fun b hb e=>h.sep b hb (by rw[<-ho];exact e)
   ·exact aD.nodup h.nd
   ·exact fun a ha b hb e=>h.inj a (af a ha) b (af b hb) e
   ·have:=aD.length_le
    simp only[List.length_append]at this ⊢
    omega
  have wL:=(List.nodup_append.1 h.nd).2.1;clear h aa ag dA gh;obtain⟨n1,rfl⟩:=pC;unfold nptr at jh
  go_wp2_with fail
  refine jh.mono ?_
  rintro e w2 (⟨aA,_,_⟩|⟨i',v1,ez,rfl,dp,cd,bN⟩)
  ·exact absurd cm aA
  ·have mV:i'=i:=(List.getElem?_inj (xr0.1 ez).1 wL).1 (ez.trans hi.symm);subst mV;obtain⟨dE,⟨a,n,c,rfl⟩,hp⟩:=aJ w2 v1 dp cd bN;have f3:=dE.frozen 3;have ft:=dE.cell 3;simp only[xq0,xq1,xq2]at ft;clear aJ jh dp
   go_wp2_with fail
   go_end0
   exact⟨rfl,_,hp.out.1,hp.out.2,bN⟩
 ·exact absurd (xr2 rq) fF
theorem qos{r:Value}{last:Int}(h:BkAt w bt r (.int .i64 last) vw va ws as_)(hl:ws.length+as_.length<24)(h0:0<=last)(h1:last<=2000000)(q:Nat)(x:Wk)(hx:x.num=last+1):
  Calls prog 100 #[.pointer (some ⟨bt,1,none⟩),.pointer (some ⟨q,0,none⟩),.agg #[.int .i64 x.d0,.int .i64 x.d1]] w fun e w'=>e=.returned (.int .i64 (last+1))/\∃aH,BkAt w' bt r (.int .i64 (last+1)) aH va (ws++[⟨w.heap.size+1,x,q⟩]) as_/\Keep (BkT bt vw va) w w'/\(∀b,aH.ownBlock=some b->vw.ownBlock=some b\/w.heap.size<=b):=by
 have dG:vw.ownBlock≠some bt:=qag h.wrow h.at_ (by decide);have dK:va.ownBlock≠some bt:=qag h.arow h.at_ (by decide);have an:=h.at_.lt;obtain⟨a1,sW,cQ,rG,wI⟩:=qa7 h.wrow;have c1:=h.at_.cell 1;have c2:=h.at_.cell 2;have f1:=h.at_.frozen 1;simp only[xq0,xq1,xq2]at c1 c2;have n0:¬(bt=w.heap.size):=by omega
 have n1:¬(bt=w.heap.size+1):=by omega
 have n2:¬(bt=w.heap.size+1+1):=by omega
 have m0:¬(w.heap.size=bt):=by omega
 have m1:¬(w.heap.size+1=bt):=by omega
 have m2:¬(w.heap.size+1+1=bt):=by omega
 go_enter func100,ntmps100
 go_upto_region 2 with fail
 have pE:Value.int .i64 (last+1)=.int .i64 x.num:=by rw[hx]
 have aa:BkAt (w.setCell ⟨bt,1,none⟩ (.int .i64 (last+1))) bt r (.int .i64 (last+1)) vw va ws as_:=by
  refine⟨?_,xrl h.wrow (fun e=>dG e) _,xrl h.arow (fun e=>dK e) _,fun q hq=>(h.works q hq).other _ _ (qaw (h.works q hq) h.at_ (by decide)),h.sep,h.nd,h.inj,h.len⟩
  have:=h.at_.set 1 (.int .i64 (last+1))
  simpa using this
 have nX:(w.setCell ⟨bt,1,none⟩ (.int .i64 (last+1))).heap.size=w.heap.size:=by simp
 have bh:Below (w.setCell ⟨bt,1,none⟩ (.int .i64 (last+1))).heap.size (w.setCell ⟨bt,1,none⟩ (.int .i64 (last+1))) ((w.setCell ⟨bt,1,none⟩ (.int .i64 (last+1))).alloc (.cells #[.int .i64 x.d0,.int .i64 x.d1] 35)):=(Below.refl _ _).alloc (Nat.le_refl _) _;have ag:=aa.keep (T:=fun _=>False) (Keep.new bh) id (fun _ _=>id) (fun _ _=>id) (fun _ _=>id);have dw:=ag.at_;have aY:Keep (BkT bt vw va) w ((w.setCell ⟨bt,1,none⟩ (.int .i64 (last+1))).alloc (.cells #[.int .i64 x.d0,.int .i64 x.d1] 35)):=((Keep.refl (BkT bt vw va) w).setCell (p:=⟨bt,1,none⟩) (.inl rfl) _).qj5 bh;have lY:Blk ((w.setCell ⟨bt,1,none⟩ (.int .i64 (last+1))).alloc (.cells #[.int .i64 x.d0,.int .i64 x.d1] 35)) w.heap.size 35 #[.int .i64 x.d0,.int .i64 x.d1]:=by
  have:=Blk.new (w.setCell ⟨bt,1,none⟩ (.int .i64 (last+1))) 35 #[.int .i64 x.d0,.int .i64 x.d1]
  rwa[nX]at this
 have dU:((w.setCell ⟨bt,1,none⟩ (.int .i64 (last+1))).alloc (.cells #[.int .i64 x.d0,.int .i64 x.d1] 35)).heap.size=w.heap.size+1:=by simp
 clear aa bh nX;generalize ((w.setCell ⟨bt,1,none⟩ (.int .i64 (last+1))).alloc (.cells #[.int .i64 x.d0,.int .i64 x.d1] 35))=W2 at dw ag aY lY dU ⊢;have HS:Hid (W2.heap.size=w.heap.size+1):=dU;have B6:=dw.lt;have BH:=lY.lt;have cy:=fun (W:World) (hB:Below W2.heap.size W2 W) (nb:Nat) (ej:Blk W nb 95 #[.pointer (some ⟨W2.heap.size,0,none⟩)])=>qey un94 qxi (by omega) W vw ws.length (qa1 ws) (qae (T:=fun _=>False) ag.wrow (Keep.new hB) (fun _ _ e=>e)) nb 1 1 (by omega) [.pointer (some ⟨W2.heap.size,0,none⟩)] rfl ej (fun u hu=>by simp at hu;subst hu;rfl) (by unfold maxLen;omega) (by omega)
 have aJ:∀W,Below W2.heap.size W2 W->Blk W W2.heap.size 105 #[.int .i64 (last+1),.pointer (some ⟨q,0,none⟩),.int .i64 x.d0,.int .i64 x.d1]->∀g' av w',AppR W vw.ownBlock 95 1 (ws.length+1) (qa1 ws++[.pointer (some ⟨W2.heap.size,0,none⟩)]) g' av w'->Blk w' bt 102 #[r,.int .i64 (last+1),vw,va]/\Blk w' w.heap.size 35 #[.int .i64 x.d0,.int .i64 x.d1]/\Hid (∀W3,Below (w'.setCell ⟨bt,2,none⟩ (.slice (some ⟨g',0,none⟩) (ws.length+1) av)).heap.size (w'.setCell ⟨bt,2,none⟩ (.slice (some ⟨g',0,none⟩) (ws.length+1) av)) W3->∃aH,BkAt W3 bt r (.int .i64 (last+1)) aH va (ws++[⟨w.heap.size+1,x,q⟩]) as_/\Keep (BkT bt vw va) w W3/\(∀b,aH.ownBlock=some b->vw.ownBlock=some b\/w.heap.size<=b)):=by
  intro W hB ng g' av w' R;have hz:=hB.size;have dE:=(dw.below hB dw.lt).keep R.keep dG;have bQ:vw.ownBlock≠some w.heap.size:=fun e=>by
   have:=qag ag.wrow lY (by decide)
   exact this e
  have rT:vw.ownBlock≠some W2.heap.size:=fun e=>by have:=qar ag.wrow e;omega
  have qZ:=(lY.below hB lY.lt).keep R.keep bQ;have wX:=ng.keep R.keep rT;have bY:g'≠bt:=fun e=>by
   rcases R.new with e2|e2
   ·rw[e]at e2;exact dG e2
   ·omega
  have ze:vw.ownBlock=some g'\/W2.heap.size<=g':=R.new.imp id (fun e=>by omega);have wo:Keep (fun b=>vw.ownBlock=some b) W2 w':=(Keep.new (T:=fun b=>vw.ownBlock=some b) hB).qbm R.keep (fun b _ e=>e)
  refine⟨dE,qZ,fun W3 dX=>?_⟩
  have iT:(⟨w.heap.size+1,x,q⟩:Pw).cells=#[.int .i64 (last+1),.pointer (some ⟨q,0,none⟩),.int .i64 x.d0,.int .i64 x.d1]:=by
   simp[Pw.cells,nptr,hx]
  have fC:∀y∈ws++as_,Blk w' y.blk 105 y.cells/\y.blk<W2.heap.size:=fun y hy=>⟨(ag.works y hy).keep wo (qag ag.wrow (ag.works y hy) (by decide)),(ag.works y hy).lt⟩
  have aC:∀y∈ws++[⟨w.heap.size+1,x,q⟩]++as_,Blk w' y.blk 105 y.cells:=fun y hy=>by
   rcases xri.1 hy with e|e
   ·rcases xri.1 e with e|e
    ·exact(fC y (xr9 _ e)).1
    ·simp at e;subst e;rw[iT,<- dU];exact wX
   ·exact(fC y (xra _ e)).1
  have iG:BkAt (w'.setCell ⟨bt,2,none⟩ (.slice (some ⟨g',0,none⟩) (ws.length+1) av)) bt r (.int .i64 (last+1)) (.slice (some ⟨g',0,none⟩) (ws.length+1) av) va (ws++[⟨w.heap.size+1,x,q⟩]) as_:=by
   refine⟨?_,?_,?_,?_,?_,?_,?_,?_⟩
   ·have:=dE.set 2 (.slice (some ⟨g',0,none⟩) (ws.length+1) av)
    simpa using this
   ·have:qa1 (ws++[⟨w.heap.size+1,x,q⟩])=qa1 ws++[.pointer (some ⟨W2.heap.size,0,none⟩)]:=by simp[qa1,nptr,dU]
    rw[this,show(ws++[(⟨w.heap.size+1,x,q⟩:Pw)]).length=ws.length+1 by simp]
    exact xrl R.own (by simp[Value.ownBlock];exact bY) _
   ·exact xrl (qae ag.arow wo (fun g hg e=>ag.sep g e hg)) (fun e=>dK e) _
   ·exact fun y hy=>(aC y hy).other _ _ (qaw (aC y hy) dE (by decide))
   ·intro b hb e
    simp[Value.ownBlock]at hb
    subst hb
    rcases ze with e2|e2
    ·exact ag.sep _ e2 e
    ·have:=qar ag.arow e;omega
   ·have ck:(⟨w.heap.size+1,x,q⟩:Pw) ∉ ws++as_:=fun e=>by have:=(fC _ e).2;simp at this;omega
    have:(ws++[(⟨w.heap.size+1,x,q⟩:Pw)]++as_).Perm ((⟨w.heap.size+1,x,q⟩:Pw)::(ws++as_)):=by
     rw[List.append_assoc];exact List.perm_middle
    rw[this.nodup_iff]
    exact List.nodup_cons.2 ⟨ck,ag.nd⟩
   ·have bT:∀y∈ws++[⟨w.heap.size+1,x,q⟩]++as_,y=⟨w.heap.size+1,x,q⟩\/y∈ws++as_:=fun y hy=>by
     simp only[xri,List.mem_singleton]at hy ⊢
     rcases hy with (e|e)|e
     ·exact .inr (.inl e)
     ·exact .inl e
     ·exact .inr (.inr e)
    intro a ha b hb e
    rcases bT a ha with ea|ea<;>rcases bT b hb with eb|eb
    ·rw[ea,eb]
    ·have:=(fC b eb).2;rw[ea]at e;simp at e;omega
    ·have:=(fC a ea).2;rw[eb]at e;simp at e;omega
    ·exact ag.inj a ea b eb e
   ·simp only[List.length_append,List.length_singleton];omega
  refine⟨_,iG.keep (T:=fun _=>False) (Keep.new dX) id (fun _ _=>id) (fun _ _=>id) (fun _ _=>id),((aY.qbm wo (fun b _ e=>.inr (.inl e))).setCell (p:=⟨bt,2,none⟩) (.inl rfl) _).qj5 dX,fun b hb=>?_⟩
  simp[Value.ownBlock]at hb
  subst hb
  exact ze.imp id (fun e=>by omega)
 have e1:=dw.cell 1;have e2:=dw.cell 2;have e3:=lY.cell 0;have e4:=lY.cell 1;simp only[xq0,xq1,xq2]at e1 e2 e3 e4;generalize qa1 ws=pp at cy aJ;rw[cQ]at e2;have dB:=dw.lt;clear h ag aY c1 c2 f1 dw;generalize hn:ws.length=n at cy aJ e2 cQ rG;clear hn pE rG wI;subst cQ;have k0:¬(bt=W2.heap.size):=by omega
 have k1:¬(bt=W2.heap.size+1):=by omega
 have k2:¬(w.heap.size=W2.heap.size):=by omega
 have k3:¬(w.heap.size=W2.heap.size+1):=by omega
 clear n0 n1 n2 m0 m1 m2 dU;have Fh:=World.new_ne W2 ⟨bt,1,none⟩ e1;have Fi:=World.new_ne W2 ⟨w.heap.size,0,none⟩ e3
 go_region_law (refine qa8 rfl (.tmp 18) (.tmp 27) 98 98 rfl _ _ ?_ ?_ (cy _ ?_ ?_ ?_) ?_;(focus (simp[Act.eval,Act.put]));(focus ((try simp[Act.eval,Act.put]);(try rfl)));(focus exact bel2);(focus exact blk2);rintro v1 w1 ⟨g1,q1,rfl,R1⟩;obtain⟨aa,oE,iQ⟩:=aJ _ (by exact bel2) (by exact blk2) _ _ _ R1;have f2:=aa.frozen 2;have ft:=aa.cell 2;have bj:=aa.cell 1;have dS:=R1.le;have gR:=R1.mx;simp only[xq0,xq1,xq2]at ft bj)
 all_goals (go_wp2_with fail;go_ret;refine⟨rfl,iQ.out _ ?_⟩;exact bel2)
theorem TwAt.qje(h:TwAt W nodes bt r ai vw va ws as_):∀n∈nodes,¬BkT bt vw va n.blk/\∀g,n.sl.ownBlock=some g->¬BkT bt vw va g:=fun n hn=>by
 have bG:Blk W n.blk 136 n.cells:=(h.ins n hn).at_;have aS:=(h.ins n hn).row
 refine⟨?_,fun g hg=>?_⟩
 ·rintro(e|e|e)
  ·exact qaw bG h.bk.at_ (by decide) e
  ·exact qag h.bk.wrow bG (by decide) e
  ·exact qag h.bk.arow bG (by decide) e
 ·rintro(e|e|e)
  ·subst e;exact qag aS h.bk.at_ (by decide) hg
  ·exact qd4 aS h.bk.wrow (by decide) hg e
  ·exact qd4 aS h.bk.arow (by decide) hg e
theorem TwAt.next(h:TwAt W nodes bt r ai vw va ws as_)(h2:BkAt W' bt (nptr r.blk) sR aH aO aj aK)(hk:Keep (BkT bt vw va) W W')
  (hm:∀p∈aj++aK,p∈ws++as_\/((∃n∈nodes,n.blk=p.q/\n.key=p.x.key)/\(0<=p.x.d0/\p.x.d0<=1000)/\(0<=p.x.d1/\p.x.d1<=1000))):TwAt W' nodes bt r sR aH aO aj aK :=
 ⟨qe1 h.qje h.ins hk,h2,fun p hp=>(hm p hp).elim (h.lf p) (fun e=>e.1),fun p hp=>(hm p hp).elim (h.nm p) (fun e=>e.2)⟩
theorem qhh{cnt:Nat}{s:Bs}(h:qfd nodes cnt s ok=0):∃n,findKey nodes (qab s)=some n/\n.leaf=true/\ok=true/\cnt<24:=by
 unfold qfd at h
 split at h
 ·cases h
 ·split at h
  ·cases h
  ·rename_i n hn
   refine⟨n,hn,?_⟩
   cases hl:n.leaf<;>cases ok<;>simp[hl]at h<;>simp
   omega
theorem qre(T0:Tree nodes)(h:TwAt w nodes bt r ai vw va ws as_)(hr:r∈nodes)(a_:r.key=[])(s:ByteArray)(hs:s.size<=2000000)(a b:Int)(he:qfd nodes (ws.length+as_.length) (bl s) (qao a b)≠0):
  Calls prog 59 #[.pointer (some ⟨bt,0,none⟩),.string s,.agg #[.int .i64 a,.int .i64 b]] w fun e w'=>e=.returned (.tuple #[.int .i64 0,.int .i64 (qfd nodes (ws.length+as_.length) (bl s) (qao a b))])/\Below w.heap.size w w':=by
 have cn:=fun W (hW:Below w.heap.size w W)=>qfo T0 (h.below hW) hr a_ s hs a b
 have cC:=h.bk.at_.lt;generalize qfd nodes (ws.length+as_.length) (bl s) (qao a b)=err at *;have aW:(err == 0)=false:=by simp[he]
 have b0:Blk (w.alloc (.cells #[.int .i64 a,.int .i64 b] 35)) w.heap.size 35 #[.int .i64 a,.int .i64 b]:=Blk.new w 35 _;have bj:=b0.cell
 go_enter func59,ntmps59
 go_wp2_with (first
  |(go_at_call 99;refine(cn _ ?_).mono ?_;(focus exact bel2);rintro e w1 ⟨rfl,aa⟩))
 exact xrn (v:=.tuple #[.int .i64 0,.int .i64 err]) (by simp[results,results59,go_sem]) rfl ⟨rfl,qac (by exact bel2) aa⟩
theorem qrf(T0:Tree nodes){last:Int}(h:TwAt w nodes bt r (.int .i64 last) vw va ws as_)(h0:0<=last)(h1:last<=2000000)(hr:r∈nodes)(a_:r.key=[])(s:ByteArray)(hs:s.size<=2000000)(a b:Int)(he:qfd nodes (ws.length+as_.length) (bl s) (qao a b)=0)(hn:findKey nodes (qab (bl s))=some n):
  Calls prog 59 #[.pointer (some ⟨bt,0,none⟩),.string s,.agg #[.int .i64 a,.int .i64 b]] w fun e w'=>e=.returned (.tuple #[.int .i64 (last+1),.int .i64 0])/\∃aH k,w.heap.size<=k/\TwAt w' nodes bt r (.int .i64 (last+1)) aH va (ws++[⟨k,⟨last+1,qab (bl s),a,b,0⟩,n.blk⟩]) as_/\Keep (BkT bt vw va) w w'/\(∀b,aH.ownBlock=some b->vw.ownBlock=some b\/w.heap.size<=b):=by
 have cn:=fun W (hW:Below w.heap.size w W)=>qfo T0 (h.below hW) hr a_ s hs a b
 rw[he]at cn;obtain⟨n',dm,eW,eh,kh⟩:=qhh he;obtain⟨bI,bR⟩:=qan hn;have ak:=fun W (hW:Below w.heap.size w W) v hv=>qcs T0 hr a_ s hs W (h.below hW).ins v hv
 rw[hn]at ak;have aD:=fun W (hW:Below w.heap.size w W)=>qos (h.below hW).bk kh h0 h1 n.blk ⟨last+1,qab (bl s),a,b,0⟩ rfl
 have cC:=h.bk.at_.lt;have bC:∀W,Below w.heap.size w W->W.cell? ⟨bt,0,none⟩=some (nptr r.blk):=fun W (hW:Below w.heap.size w W)=>(h.below hW).bk.at_.cell 0
 have b0:Blk (w.alloc (.cells #[.int .i64 a,.int .i64 b] 35)) w.heap.size 35 #[.int .i64 a,.int .i64 b]:=Blk.new w 35 _;have bj:=b0.cell;simp only[nptr]at ak aD bC;clear he dm;have jN:¬BkT bt vw va w.heap.size:=by
  rintro(e|e|e)
  ·omega
  ·have:=qar h.bk.wrow e;omega
  ·have:=qar h.bk.arow e;omega
 go_enter func59,ntmps59
 go_upto_region 4 with (first
  |(go_at_call 99;refine(cn _ ?_).mono ?_;(focus exact bel2);rintro e w1 ⟨rfl,aa⟩;have au:Below w.heap.size w w1:=qac (by exact bel2) aa;have b1:=b0.below aa (by simp);have gV:=bC w1 au;have d0:=b1.cell 0;have d1:=b1.cell 1;simp only[xq0,xq1,xq2]at d0 d1))
 go_region_held3 (fun w'=>w'.cell? ⟨bt,0,none⟩=some (.pointer (some ⟨r.blk,0,none⟩))/\w'.cell? ⟨w.heap.size,0,none⟩=some (.int .i64 a)/\w'.cell? ⟨w.heap.size,1,none⟩=some (.int .i64 b)) (go_keep)
  (first
   |(go_at_call 63;refine(ak _ ?_ (.pointer (some ⟨n.blk,0,none⟩)) rfl).mono ?_;(focus exact au.drew);rintro e w2 ⟨rfl,ag⟩;have aR:Below w.heap.size w w2:=qac au.drew ag;have b2:=Blk.below (show Blk w1.drew w.heap.size 35 #[.int .i64 a,.int .i64 b] from b1) ag b1.lt;have tY:=bC w2 aR;have f0:=b2.cell 0;have f1:=b2.cell 1;simp only[xq0,xq1,xq2]at f0 f1)
   |(go_at_call 100;refine(aD _ aR).mono ?_;rintro e w3 ⟨rfl,ko,bW,eH,Ba⟩;have b3:=b2.keep eH jN;have zv:=bW.at_.cell 0;have g0:=b3.cell 0;have g1:=b3.cell 1;simp only[xq0,xq1,xq2,nptr]at zv g0 g1))
 go_wp2_with fail
 have fm:=aR.size;have hK:Keep (BkT bt vw va) w w3:=(Keep.new aR).qbm eH (fun b hb e=>e)
 refine xrn (v:=.tuple #[.int .i64 (last+1),.int .i64 0]) (by simp[results,results59,go_sem]) rfl ⟨rfl,ko,w2.heap.size+1,by omega,h.next bW hK (fun p hp=>?_),hK,fun b hb=>?_⟩
 ·rcases xri.1 hp with h1|h1
  ·rcases xri.1 h1 with h2|h2
   ·exact .inl (xr9 _ h2)
   ·simp only[List.mem_singleton]at h2;subst h2
    refine .inr ⟨⟨n,bI,rfl,bR⟩,?_⟩
    simp[qao]at eh
    simp only
    omega
  ·exact .inl (xra _ h1)
 ·rcases Ba b hb with e|e
  ·exact .inl e
  ·exact .inr (by omega)
theorem Rel.append(R:Rel nodes Ws ws as_)(hx:x.st=0){k:Nat}(hn:n∈nodes)(hk:n.key=x.key):Rel nodes (Ws++[x]) (ws++[⟨k,x,n.blk⟩]) as_:=by
 obtain⟨az,h1,h2,h3⟩:=R.a
 refine⟨?_,⟨az,h1,?_,h3⟩,fun p hp=>?_⟩
 ·rw[List.map_append,List.filter_append,R.w]
  simp[hx]
 ·rw[List.filter_append]
  simpa [hx] using h2
 ·rcases xri.1 hp with e|e
  ·rcases xri.1 e with e|e
   ·exact R.leaf p (xr9 _ e)
   ·simp only[List.mem_singleton]at e;subst e
    exact⟨n,hn,rfl,hk⟩
  ·exact R.leaf p (xra _ e)
def SetT (nodes:List Node)(bt:Nat)(r:Node)(ai vw va:Value)(ws as_:List Pw)(aT:SS)(ev:Value)(w w':World):Prop :=
 ∃aH aO aj aK,TwAt w' nodes bt r ai aH aO aj aK/\w'.ownsRow 0 60 2 ev aT.evs.length (qam aT.evs)/\Rel nodes aT.Ws aj aK/\Keep (BkT bt vw va) w w'/\(∀b,aH.ownBlock=some b\/aO.ownBlock=some b->vw.ownBlock=some b\/va.ownBlock=some b\/w.heap.size<=b)/\(∀b,ev.ownBlock=some b->w.heap.size<=b)/\(∀p∈aj++aK,p∈ws++as_\/w.heap.size<=p.blk)
theorem qpw(T0:Tree nodes)(h:TwAt w nodes bt r ai vw va ws as_)(hr:r∈nodes)(a_:r.key=[])(s:ByteArray)(hs:s.size<=2000000)(a b:Int)(he:qfd nodes (ws.length+as_.length) (bl s) (qao a b)≠0):
  Calls prog 32 #[.pointer (some ⟨bt,0,none⟩),.string s,.agg #[.int .i64 a,.int .i64 b]] w fun e w'=>e=.returned (.tuple #[.int .i64 0,.slice none 0 0,.int .i64 (qfd nodes (ws.length+as_.length) (bl s) (qao a b))])/\Below w.heap.size w w':=by
 have aD:=fun W (hW:Below w.heap.size w W)=>qre T0 (h.below hW) hr a_ s hs a b he
 have cC:=h.bk.at_.lt;generalize qfd nodes (ws.length+as_.length) (bl s) (qao a b)=err at *;have eJ:=fun W=>qcq (w:=W) (bt:=bt) he
 have b0:Blk (w.alloc (.cells #[.int .i64 a,.int .i64 b] 35)) w.heap.size 35 #[.int .i64 a,.int .i64 b]:=Blk.new w 35 _;have bj:=b0.cell
 go_enter func32,ntmps32
 go_wp2_with (first
  |(go_at_call 59;refine(aD _ ?_).mono ?_;(focus exact bel2);rintro e w1 ⟨rfl,aa⟩)
  |(go_at_call 51;refine(eJ _).mono ?_;rintro e w2 ⟨rfl,eG⟩;subst eG))
 exact xrn (v:=.tuple #[.int .i64 0,.slice none 0 0,.int .i64 err]) (by simp[results,results32,go_sem]) rfl ⟨rfl,qac (by exact bel2) aa⟩
theorem qpx(T0:Tree nodes)(hB:qa2 nodes){last:Int}(h:TwAt w nodes bt r (.int .i64 last) vw va ws as_)(h0:0<=last)(h1:last<=2000000)(hr:r∈nodes)(a_:r.key=[])(s:ByteArray)(hs:s.size<=2000000)(a b:Int)(he:qfd nodes (ws.length+as_.length) (bl s) (qao a b)=0)(R:Rel nodes Ws ws as_)(I:SInv ⟨Ws++[qek last (bl s) a b],st,[]⟩):
  Calls prog 32 #[.pointer (some ⟨bt,0,none⟩),.string s,.agg #[.int .i64 a,.int .i64 b]] w fun e w'=>∃ev,e=.returned (.tuple #[.int .i64 (last+1),ev,.int .i64 0])/\SetT nodes bt r (.int .i64 (last+1)) vw va ws as_ (qal (nodes.map Node.ent) ⟨Ws++[qek last (bl s) a b],st,[]⟩) ev w w':=by
 obtain⟨n,hn,eW,eh,kh⟩:=qhh he;obtain⟨bI,bR⟩:=qan hn;have aD:=fun W (hW:Below w.heap.size w W)=>qrf T0 (h.below hW) h0 h1 hr a_ s hs a b he hn
 have eJ:=fun W aH k (hT:TwAt W nodes bt r (.int .i64 (last+1)) aH va (ws++[⟨k,⟨last+1,qab (bl s),a,b,0⟩,n.blk⟩]) as_)=>qfb T0 hB hT hr a_ (s0:=⟨Ws++[qek last (bl s) a b],st,[]⟩) (R.append (x:=qek last (bl s) a b) rfl bI bR) I rfl
 generalize qal (nodes.map Node.ent) ⟨Ws++[qek last (bl s) a b],st,[]⟩=aT at eJ ⊢;have cC:=h.bk.at_.lt;have b0:Blk (w.alloc (.cells #[.int .i64 a,.int .i64 b] 35)) w.heap.size 35 #[.int .i64 a,.int .i64 b]:=Blk.new w 35 _;have bj:=b0.cell
 go_enter func32,ntmps32
 go_wp2_with (first
  |(go_at_call 59;refine(aD _ ?_).mono ?_;(focus exact bel2);rintro e w1 ⟨rfl,eQ,k1,cd,lW,dA,yI⟩)
  |(go_at_call 51;refine(eJ _ _ _ lW).mono ?_;rintro e w2 ⟨fe,fc,ee,eC,fS,rfl,m1,m2,m3,m4,m5,m6,m7⟩))
 have db:Below w.heap.size w (w.alloc (.cells #[.int .i64 a,.int .i64 b] 35)):=by exact bel2
 have qE:Keep (BkT bt vw va) w w1:=(Keep.new db).qbm dA (fun b hb e=>e);have dv:=qE.size
 refine xrn (v:=.tuple #[.int .i64 (last+1),ee,.int .i64 0]) (by simp[results,results32,go_sem]) rfl ⟨ee,rfl,fe,fc,eC,fS,m1,m2,m3,qE.qbm m4 (fun b hb e=>?_),fun b hb=>?_,fun b hb=>Nat.le_trans dv (m6 b hb),fun p hp=>?_⟩
 ·rcases e with e|e|e
  ·exact .inl e
  ·rcases yI b e with e2|e2
   ·exact .inr (.inl e2)
   ·simp at e2;omega
  ·exact .inr (.inr e)
 ·rcases m5 b hb with e|e|e
  ·rcases yI b e with e2|e2
   ·exact .inl e2
   ·simp at e2;exact .inr (.inr (by omega))
  ·exact .inr (.inl e)
  ·exact .inr (.inr (by omega))
 ·rcases xri.1 (m7 p hp) with e|e
  ·rcases xri.1 e with e|e
   ·exact .inl (xr9 _ e)
   ·simp only[List.mem_singleton]at e;subst e
    simp at cd
    exact .inr (by simp only;omega)
  ·exact .inl (xra _ e)
theorem qdg{α : Type}(g : α -> Int):∀ {l:List α},(l.map g).Nodup->∀ {i:Nat} {x : α},l[i]?=some x->l.take i++l.drop (i+1)=l.filter (fun y=>!(g y == g x))
 | [],_,i,x,h=>by simp at h
 |a::l,hn,0,x,h=>by
  simp only[List.getElem?_cons_zero,Option.some.injEq]at h;subst h;simp only[List.map_cons,List.nodup_cons]at hn;simp only[List.take_zero,List.nil_append,Nat.zero_add,List.drop_succ_cons,List.drop_zero];rw[List.filter_cons_of_neg (by simp)]
  symm
  rw[List.filter_eq_self];intro b hb
  have:g b≠g a:=fun e=>hn.1 (e ▸ xrj hb)
  simp[this]
 |a::l,hn,i+1,x,h=>by
  simp only[List.getElem?_cons_succ]at h;simp only[List.map_cons,List.nodup_cons]at hn;have hx:g a≠g x:=fun e=>hn.1 (e ▸ xrj (xr2 h))
  simp only[List.take_succ_cons,List.drop_succ_cons,List.cons_append];rw[List.filter_cons_of_pos (by simp[hx]),qdg g hn.2 h]
theorem Rel.qx4(R:Rel nodes Ws ws as_)(m:Int):Rel nodes (Ws.filter fun y=>!(y.num == m)) (ws.filter fun p=>!(p.x.num == m)) (as_.filter fun p=>!(p.x.num == m)):=by
 obtain⟨az,h1,h2,h3⟩:=R.a;have hf:∀l:List Pw,(l.filter fun p=>!(p.x.num == m)).map (·.x)=(l.map (·.x)).filter fun y=>!(y.num == m):=fun l=>by rw[List.filter_map];rfl
 refine⟨?_,⟨az.filter fun y=>!(y.num == m),?_,?_,h3.sublist List.filter_sublist⟩,fun p hp=>?_⟩
 ·rw[hf,R.w,List.filter_filter,List.filter_filter]
  exact List.filter_congr fun x _=>Bool.and_comm _ _
 ·rw[hf,h1,List.filter_map];rfl
 ·rw[List.filter_filter]
  have:=h2.filter fun y=>!(y.num == m)
  rw[List.filter_filter]at this
  refine this.trans (List.Perm.of_eq (List.filter_congr fun x _=>Bool.and_comm _ _))
 ·rw[<-List.filter_append]at hp
  exact R.leaf p (xrr.1 hp).1
theorem qq1(R:Rel nodes Ws ws as_)(hS:WkS Ws st):((ws++as_).map (·.x.num)).Nodup:=(R.nums (fun x hx=>(hS.st x hx).1)).nodup_iff.2 hS.nums
theorem qpk{m:Int}(h:∀p∈l,p.x.num≠m):(l.filter fun p=>!(p.x.num == m))=l:=by
 rw[List.filter_eq_self];intro p hp
 simp[h p hp]
theorem Rel.found(R:Rel nodes Ws ws as_)(hS:WkS Ws st)(hi:Ws[i]?=some x):
  ∃p b,qgr ws as_ x.num=(nptr p.blk,b)/\((∃j,ws[j]?=some p/\Rel nodes (Ws.take i++Ws.drop (i+1)) (ws.take j++ws.drop (j+1)) as_)\/(∃j,as_[j]?=some p/\Rel nodes (Ws.take i++Ws.drop (i+1)) ws (as_.take j++as_.drop (j+1)))):=by
 have bQ:=qq1 R hS;rw[List.map_append,List.nodup_append]at bQ;obtain⟨dF,dQ,zj⟩:=bQ;have hx:x.num∈(ws++as_).map (·.x.num):=(R.nums (fun x hx=>(hS.st x hx).1)).mem_iff.2 (xrj (xr2 hi));have hW:=R.qx4 x.num;rw[<-qdg (·.num) hS.nums hi]at hW
 cases ha:qgd as_ x.num with
 |some p =>
  have hp:p∈as_:=List.mem_of_find?_eq_some ha;have gl:p.x.num=x.num:=by have:=List.find?_some ha;simpa using this
  obtain⟨j,hj⟩:=xre hp
  refine⟨p,true,by simp[qgr,ha],.inr ⟨j,hj,?_⟩⟩
  have e1:=qdg (·.x.num) dQ hj;rw[gl]at e1;rw[<-e1,qpk (fun q hq=>fun e=>zj _ (xrj hq) _ (xrj hp) (e.trans gl.symm))]at hW
  exact hW
 |none =>
  have aA:∀q∈as_,q.x.num≠x.num:=fun q hq e=>by
   have:=List.find?_eq_none.1 ha q hq
   simp[e]at this
  obtain⟨q,hq,tR⟩:=xrq.1 hx;have hq:q∈ws:=(xri.1 hq).resolve_right (fun h=>aA q h tR)
  cases hw:qgd ws x.num with
  |none =>
   have:=List.find?_eq_none.1 hw q hq
   simp[tR]at this
  |some p =>
   have hp:p∈ws:=List.mem_of_find?_eq_some hw;have gl:p.x.num=x.num:=by have:=List.find?_some hw;simpa using this
   obtain⟨j,hj⟩:=xre hp
   refine⟨p,false,by simp[qgr,ha,hw,optP],.inl ⟨j,hj,?_⟩⟩
   have e1:=qdg (·.x.num) dF hj;rw[gl]at e1;rw[<-e1,qpk aA]at hW
   exact hW
theorem Rel.lost(R:Rel nodes Ws ws as_)(hS:WkS Ws st){m:Int}(h:∀x∈Ws,x.num≠m):qgr ws as_ m=(.pointer none,false):=by
 have aA:∀q∈ws++as_,q.x.num≠m:=fun q hq e=>by
  have:=(R.nums (fun x hx=>(hS.st x hx).1)).mem_iff.1 (xrj hq)
  obtain⟨x,hx,CA⟩:=xrq.1 this
  exact h x hx (CA.trans e)
 have ha:qgd as_ m=none:=List.find?_eq_none.2 fun q hq=>by simp[aA q (xra _ hq)]
 have hw:qgd ws m=none:=List.find?_eq_none.2 fun q hq=>by simp[aA q (xr9 _ hq)]
 simp[qgr,ha,hw,optP]
end Go.Proofs.YtphclnolomgjoaaGreatDoor
