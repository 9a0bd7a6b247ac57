import Derived.Test.YtphclnolomgjoaaGreatDoorC21
set_option linter.unusedVariables false
set_option linter.unusedSimpArgs false
set_option maxRecDepth 100000
set_option maxHeartbeats 4000000
namespace Go.Proofs.YtphclnolomgjoaaGreatDoor
open Tryz
open Go.RowKit
variable {nodes:List Node}{W W' w:World}{bt i:Nat}{n r:Node}{aQ aX va vw zV:Value}{aR as_ bg ws:List Pw}{p:Pw}{ok:Bool}
def qh3:Array Value:=#[.string ⟨#[]⟩,.bool false,vI 0,vI 0,vI 0,vI 0,vI 0,vI 0,v0_]
def QueR (nodes:List Node)(ws as_:List Pw)(s:Bs)(w:World)(e:Ending)(w':World):Prop :=
 if qar s=false then e=.returned (.tuple #[.agg qh3,vI 1])/\Bw w w' else match findKey nodes (qaa s) with
  |none=>e=.returned (.tuple #[.agg qh3,vI 3])/\Bw w w'
  |some n=>∃v',e=.returned (.tuple #[.agg (qo6 (joinB n.key) n.leaf (pn0 nodes n.key) (pn1 nodes n.key) n.b0 n.b1 (ws0 (pun as_ n.key)) (ws1 (pun as_ n.key)) v'),vI 0])/\w'.ownsRow 0 3 1 v' (qa4 ws n.blk).length (qfz (qa4 ws n.blk))/\Bw w w'/\(∀b,v'.ownBlock=some b->w.heap.size<=b)
theorem qmn(T0:Tree nodes)(hB:qa7 nodes){lst:Value}(h:TwAt w nodes bt r lst vw va ws as_)(hr:r∈nodes)(bK:r.key=[])(s:ByteArray)(hs:s.size<=2000000):
  Cl 34 #[vP bt,.string s] w (QueR nodes ws as_ (bl s) w):=by
 have aJ:=fun W=>qh2 s hs W
 have dx:=h.bk.at_.lt;have cI:∀W,Bw w W->W.cell? (vA bt 0)=some (nptr r.blk):=fun W (hW:Bw w W)=>(h.below hW).bk.at_.cell 0
 have ag:=fun W (hW:Bw w W) v hv=>qfh T0 hr bK s hs W (h.below hW).ins v hv
 have hq:Cl 34 #[vP bt,.string s] w (fun e w'=>QueR nodes ws as_ (bl s) w e w')=Cl 34 #[vP bt,.string s] w (QueR nodes ws as_ (bl s) w):=rfl;rw[<-hq];clear hq;unfold QueR;have b0:Blk (w.alloc (.cells qh3 37)) w.heap.size 37 qh3:=Blk.new w 37 _;unfold qh3 at b0
 cases hv:qar (bl s)
 ·rw[hv]at aJ;simp only[if_true];clear ag cI;unfold qh3
  go_enter func34,ntmps34
  go_wp2_with (go_at_call 62;refine(aJ _).mono ?_;rintro e w1 ⟨rfl,aa⟩;have b1:=b0.below aa (by simp);have aY:=b1.cell;have cV:=b1.frozen)
  have aM:=(((((((((b1.set 0 (.string ⟨#[]⟩)).set 1 (.bool false)).set 2 (vI 0)).set 3 (vI 0)).set 4 (vI 0)).set 5 (vI 0)).set 6 (vI 0)).set 7 (vI 0)).set 8 v0_);have hc:=aM.cell;clear aY cV;have aj:Bw w w1:=qac (by exact bel2) aa
  exact xrn (v:=.tuple #[.agg #[.string ⟨#[]⟩,.bool false,vI 0,vI 0,vI 0,vI 0,vI 0,vI 0,v0_],vI 1]) (by simp[results,results34,go_sem,hc]) rfl ⟨rfl,by exact bel2⟩
 ·rw[hv]at aJ;simp only[Bool.true_eq_false,if_false]
  cases hf:findKey nodes (qaa (bl s)) with
  |none =>
   rw[hf]at ag;clear hf;unfold nptr at ag cI;unfold qh3
   go_enter func34,ntmps34
   go_wp2_with (first
    |(go_at_call 62;refine(aJ _).mono ?_;rintro e w1 ⟨rfl,aa⟩;have aj:Bw w w1:=qac (by exact bel2) aa;have b1:=b0.below aa (by simp);have j_:=cI w1 aj)
    |(go_at_call 63;refine(ag _ aj (.pointer none) rfl).mono ?_;rintro e w2 ⟨rfl,af⟩;have aw:Bw w w2:=qac aj af;have b2:=b1.below af (by have:=aa.size;simp at this;omega);have aY:=b2.cell;have cV:=b2.frozen;clear ag cI))
   have aM:=(((((((((b2.set 0 (.string ⟨#[]⟩)).set 1 (.bool false)).set 2 (vI 0)).set 3 (vI 0)).set 4 (vI 0)).set 5 (vI 0)).set 6 (vI 0)).set 7 (vI 0)).set 8 v0_);have hc:=aM.cell;clear aY cV
   exact xrn (v:=.tuple #[.agg #[.string ⟨#[]⟩,.bool false,vI 0,vI 0,vI 0,vI 0,vI 0,vI 0,v0_],vI 3]) (by simp[results,results34,go_sem,hc]) rfl ⟨rfl,by exact bel2⟩
  |some n =>
   obtain⟨hn,dh⟩:=qbw hf;rw[hf]at ag;clear hf;have eL:=fun W (hW:Bw w W)=>qop T0 hB (h.below hW) hn
   simp only[nptr]at ag;unfold nptr at cI eL
   dsimp only
   unfold qo6 at eL ⊢;generalize pn0 nodes n.key=s0 at *;generalize pn1 nodes n.key=s1 at *;generalize ws0 (pun as_ n.key)=u0 at *;generalize ws1 (pun as_ n.key)=u1 at *;generalize sb (joinB n.key)=cw at *;generalize (qa4 ws n.blk).length=wl at *;generalize qfz (qa4 ws n.blk)=wn at *
   go_enter func34,ntmps34
   go_wp2_with (first
    |(go_at_call 62;refine(aJ _).mono ?_;rintro e w1 ⟨rfl,aa⟩;have aj:Bw w w1:=qac (by exact bel2) aa;have b1:=b0.below aa (by simp);have j_:=cI w1 aj)
    |(go_at_call 63;refine(ag _ aj (vP n.blk) rfl).mono ?_;rintro e w2 ⟨rfl,af⟩;have aw:Bw w w2:=qac aj af;have b2:=b1.below af (by have:=aa.size;simp at this;omega))
    |(go_at_call 64;refine(eL _ aw).mono ?_;rintro e w3 ⟨v3,rfl,gD,ax,AZ⟩;have aK:Bw w w3:=qac aw ax;obtain⟨a3,c3,zD,_,_⟩:=qbe gD;subst zD;have b3:=b2.below ax (by have:=aa.size;have:=af.size;simp at *;omega);have aY:=b3.cell;have cV:=b3.frozen;clear ag cI eL))
   have aM:=(((((((((b3.set 0 (.string cw)).set 1 (.bool n.leaf)).set 2 (vI s0)).set 3 (vI s1)).set 4 (vI n.b0)).set 5 (vI n.b1)).set 6 (vI u0)).set 7 (vI u1)).set 8 (.slice a3 wl c3));have hc:=aM.cell;have hk:=(((((((((Keep.refl (fun b=>b=w.heap.size) w3).setCell (p:=vA w.heap.size 0) rfl (.string cw)).setCell (p:=vA w.heap.size 1) rfl (.bool n.leaf)).setCell (p:=vA w.heap.size 2) rfl (vI s0)).setCell (p:=vA w.heap.size 3) rfl (vI s1)).setCell (p:=vA w.heap.size 4) rfl (vI n.b0)).setCell (p:=vA w.heap.size 5) rfl (vI n.b1)).setCell (p:=vA w.heap.size 6) rfl (vI u0)).setCell (p:=vA w.heap.size 7) rfl (vI u1)).setCell (p:=vA w.heap.size 8) rfl (.slice a3 wl c3);have ak:w.heap.size<w2.heap.size:=by have:=aa.size;have:=af.size;simp at *;omega
   clear aY cV
   exact xrn (v:=.tuple #[.agg #[.string cw,.bool n.leaf,vI s0,vI s1,vI n.b0,vI n.b1,vI u0,vI u1,.slice a3 wl c3],vI 0]) (by simp[results,results34,go_sem,hc]) rfl ⟨_,rfl,qab gD hk (fun b hb e=>by have:=AZ b hb;omega),aK.trans (hk.toBelow aK.size (fun b hb e=>by omega)),fun b hb=>by have:=AZ b hb;omega⟩
def qg5:Array Value:=#[.string ⟨#[]⟩,vI 0,vI 0,.bool false]
def WrkR (ws as_:List Pw)(num:Int)(w:World)(e:Ending)(w':World):Prop :=
 match qc3 as_ num with
 |some p=>e=.returned (.tuple #[.agg #[.string (sb (joinB p.x.key)),vI p.x.d0,vI p.x.d1,.bool true],vI 0])/\Bw w w'
 |none=>match qc3 ws num with
  |some p=>e=.returned (.tuple #[.agg #[.string (sb (joinB p.x.key)),vI p.x.d0,vI p.x.d1,.bool false],vI 0])/\Bw w w'
  |none=>e=.returned (.tuple #[.agg qg5,vI 12])/\Bw w w'
theorem qi8(T0:Tree nodes){lst:Value}(h:TwAt w nodes bt r lst vw va ws as_)(num:Int)(hp:p∈ws++as_){b:Bool}(hb:findBk ws as_ num=(nptr p.blk,b)):
  Cl 22 #[vP bt,vI num] w fun e w'=>e=.returned (.tuple #[.agg #[.string (sb (joinB p.x.key)),vI p.x.d0,vI p.x.d1,.bool b],vI 0])/\Bw w w':=by
 have ag:=fun W (hW:Bw w W)=>qf5 (h.below hW).bk num
 obtain⟨n,hn,gz,dh⟩:=h.lf p hp;have pS:=fun W (hW:Bw w W)=>qhh T0 n.key.length n hn rfl W (h.below hW).ins
 have iX:∀W,Bw w W->Blk W p.blk 105 p.cells:=fun W hW=>(h.below hW).bk.works p hp
 rw[hb]at ag;rw[dh,gz]at pS;unfold nptr at ag pS;have b0:Blk (w.alloc (.cells qg5 52)) w.heap.size 52 qg5:=Blk.new w 52 _;unfold qg5 at b0;have dx:=h.bk.at_.lt;generalize sb (joinB p.x.key)=cw at *;unfold Pw.cells nptr at iX;have fN:=(h.bk.works p hp).lt;have BF:Blk (w.alloc (.cells #[.string ⟨#[]⟩,vI 0,vI 0,.bool false] 52)).drew w.heap.size 52 #[.string ⟨#[]⟩,vI 0,vI 0,.bool false]:=Blk.new w 52 _;have c1:=(iX w (Below.refl _ _)).cell 1;have c2:=(iX w (Below.refl _ _)).cell 2;have c3:=(iX w (Below.refl _ _)).cell 3;simp only[xq0,xq1,xq2]at c1 c2 c3;have n1:=World.new_ne w _ c1;have n2:=World.new_ne w _ c2;have n3:=World.new_ne w _ c3
 go_enter func22,ntmps22
 go_upto_region 4 with (first
  |(go_at_call 46;refine(ag _ ?_).mono ?_;(focus exact bel2);rintro e w1 ⟨rfl,bX⟩;subst bX))
 go_region_held3 (fun w'=>w'.cell? (vA p.blk 1)=some (vP p.q)/\w'.cell? (vA p.blk 2)=some (vI p.x.d0)/\w'.cell? (vA p.blk 3)=some (vI p.x.d1)) (go_keep)
  (first
   |(go_at_call 47;refine(pS _ ?_).mono ?_;(focus exact bel2);rintro e w2 ⟨rfl,af⟩;have aw:Bw w w2:=qac (by exact bel2) af;have mm:=BF.below af (by simp);have aY:=mm.cell;have cV:=mm.frozen;have d1:=(iX w2 aw).cell 1;have d2:=(iX w2 aw).cell 2;have d3:=(iX w2 aw).cell 3;simp only[xq0,xq1,xq2]at d1 d2 d3))
 go_wp2_with fail
 have aM:=(((mm.set 0 (.string cw)).set 1 (vI p.x.d0)).set 2 (vI p.x.d1)).set 3 (.bool b);have hc:=aM.cell;clear aY cV
 exact xrn (v:=.tuple #[.agg #[.string cw,vI p.x.d0,vI p.x.d1,.bool b],vI 0]) (by simp[results,results22,go_sem,hc]) rfl ⟨rfl,by exact bel2⟩
theorem qot{lst:Value}(h:TwAt w nodes bt r lst vw va ws as_)(num:Int)(hb:findBk ws as_ num=(.pointer none,false)):
  Cl 22 #[vP bt,vI num] w fun e w'=>e=.returned (.tuple #[.agg qg5,vI 12])/\Bw w w':=by
 have ag:=fun W (hW:Bw w W)=>qf5 (h.below hW).bk num
 rw[hb]at ag;have b0:Blk (w.alloc (.cells qg5 52)) w.heap.size 52 qg5:=Blk.new w 52 _;unfold qg5 at b0 ⊢;have dx:=h.bk.at_.lt;have aY:=b0.cell;have cV:=b0.frozen
 go_enter func22,ntmps22
 go_wp2_with (first
  |(go_at_call 46;refine(ag _ ?_).mono ?_;(focus exact bel2);rintro e w1 ⟨rfl,bX⟩;subst bX))
 have aM:=(((b0.set 0 (.string ⟨#[]⟩)).set 1 (vI 0)).set 2 (vI 0)).set 3 (.bool false);have hc:=aM.cell;clear aY cV
 exact xrn (v:=.tuple #[.agg #[.string ⟨#[]⟩,vI 0,vI 0,.bool false],vI 12]) (by simp[results,results22,go_sem,hc]) rfl ⟨rfl,by exact bel2⟩
theorem qpc(T0:Tree nodes){lst:Value}(h:TwAt w nodes bt r lst vw va ws as_)(num:Int):
  Cl 22 #[vP bt,vI num] w (WrkR ws as_ num w):=by
 cases ha:qc3 as_ num with
 |some p =>
  refine(qi8 T0 h num (p:=p) (xra _ (List.mem_of_find?_eq_some ha)) (b:=true) (by simp[findBk,ha])).mono ?_
  intro e w' h1;simp only[WrkR,ha]
  exact h1
 |none =>
  cases hw:qc3 ws num with
  |some p =>
   refine(qi8 T0 h num (p:=p) (xr9 _ (List.mem_of_find?_eq_some hw)) (b:=false) (by simp[findBk,ha,hw,optP])).mono ?_
   intro e w' h1;simp only[WrkR,ha,hw]
   exact h1
  |none =>
   refine(qot h num (by simp[findBk,ha,hw,optP])).mono ?_
   intro e w' h1;simp only[WrkR,ha,hw]
   exact h1
def errWk(nodes:List Node)(cnt:Nat)(s:Bs)(ok:Bool):Int :=
 if qar s=false then 1 else match findKey nodes (qaa s) with
 |none=>3
 |some n=>if n.leaf=false then 5 else if ok=false then 6 else if 24<=cnt then 7 else 0
theorem qez(T0:Tree nodes){lst:Value}(h:TwAt w nodes bt r lst vw va ws as_)(hr:r∈nodes)(bK:r.key=[])(s:ByteArray)(hs:s.size<=2000000)(a b:Int):
  Cl 99 #[vP bt,.string s,.agg #[vI a,vI b]] w fun e w'=>e=.returned (vI (errWk nodes (ws.length+as_.length) (bl s) (qao a b)))/\Bw w w':=by
 have aJ:=fun W=>qh2 s hs W
 have dx:=h.bk.at_.lt;have an:=h.bk.len;have cI:∀W,Bw w W->W.cell? (vA bt 0)=some (nptr r.blk):=fun W (hW:Bw w W)=>(h.below hW).bk.at_.cell 0
 have ag:=fun W (hW:Bw w W) v hv=>qfh T0 hr bK s hs W (h.below hW).ins v hv
 have iI:=fun W=>qin a b W
 have mr:=fun W (hW:Bw w W)=>qpp (h.below hW).bk
 have bD:=fun n (hn:n∈nodes) W (hW:Bw w W)=>qko n.blk n.leaf W (((h.below hW).ins n hn).cell rfl)
 have b0:Blk (w.alloc (.cells #[vI a,vI b] 35)) w.heap.size 35 #[vI a,vI b]:=Blk.new w 35 _;generalize ws.length+as_.length=cnt at mr an ⊢;unfold errWk;unfold nptr at cI
 cases hv:qar (bl s)
 ·rw[hv]at aJ;simp only[if_true];clear ag cI mr iI bD
  go_enter func99,ntmps99
  go_wp2_with (go_at_call 62;refine(aJ _).mono ?_;rintro e w1 ⟨rfl,aa⟩)
  refine xrn (v:=vI 1) (by simp[results,results99,go_sem]) rfl ⟨rfl,?_⟩
  exact qac (by exact bel2) aa
 ·rw[hv]at aJ;simp only[Bool.true_eq_false,if_false]
  cases hf:findKey nodes (qaa (bl s)) with
  |none =>
   rw[hf]at ag;clear hf mr iI bD;unfold nptr at ag
   go_enter func99,ntmps99
   go_wp2_with (first
    |(go_at_call 62;refine(aJ _).mono ?_;rintro e w1 ⟨rfl,aa⟩;have aj:Bw w w1:=qac (by exact bel2) aa;have j_:=cI w1 aj)
    |(go_at_call 63;refine(ag _ aj (.pointer none) rfl).mono ?_;rintro e w2 ⟨rfl,af⟩;have aw:Bw w w2:=qac aj af))
   refine xrn (v:=vI 3) (by simp[results,results99,go_sem]) rfl ⟨rfl,?_⟩
   exact aw
  |some n =>
   obtain⟨hn,dh⟩:=qbw hf;rw[hf]at ag
   replace bD:=bD n hn
   clear hf;simp only[nptr]at ag
   dsimp only
   cases hl:n.leaf
   ·rw[hl]at bD;simp only[if_true];clear mr iI
    go_enter func99,ntmps99
    go_wp2_with (first
     |(go_at_call 62;refine(aJ _).mono ?_;rintro e w1 ⟨rfl,aa⟩;have aj:Bw w w1:=qac (by exact bel2) aa;have j_:=cI w1 aj)
     |(go_at_call 63;refine(ag _ aj (vP n.blk) rfl).mono ?_;rintro e w2 ⟨rfl,af⟩;have aw:Bw w w2:=qac aj af)
     |(go_at_call 105;refine(bD _ aw).mono ?_;rintro e w3 ⟨rfl,ig⟩;subst ig))
    refine xrn (v:=vI 5) (by simp[results,results99,go_sem]) rfl ⟨rfl,?_⟩
    exact aw
   ·rw[hl]at bD;simp only[Bool.true_eq_false,if_false]
    cases cV:qao a b
    ·rw[cV]at iI;simp only[if_true];clear mr
     go_enter func99,ntmps99
     go_wp2_with (first
      |(go_at_call 62;refine(aJ _).mono ?_;rintro e w1 ⟨rfl,aa⟩;have aj:Bw w w1:=qac (by exact bel2) aa;have j_:=cI w1 aj;have b1:=b0.below aa (by simp))
      |(go_at_call 63;refine(ag _ aj (vP n.blk) rfl).mono ?_;rintro e w2 ⟨rfl,af⟩;have aw:Bw w w2:=qac aj af;have b2:=b1.below af (by have:=aa.size;simp at this;omega);have aY:=b2.cell)
      |(go_at_call 105;refine(bD _ aw).mono ?_;rintro e w3 ⟨rfl,ig⟩;subst ig)
      |(go_at_call 147;refine(iI _).mono ?_;rintro e w4 ⟨rfl,a_⟩;have dU:Bw w w4:=qac aw a_))
     refine xrn (v:=vI 6) (by simp[results,results99,go_sem]) rfl ⟨rfl,?_⟩
     exact dU
    ·rw[cV]at iI;simp only[Bool.true_eq_false,if_false];have kF:(decide ((24:Int)<=(cnt:Int)))=decide (24<=cnt):=by simp only[decide_eq_decide];omega
     go_enter func99,ntmps99
     go_wp2_with (first
      |(go_at_call 62;refine(aJ _).mono ?_;rintro e w1 ⟨rfl,aa⟩;have aj:Bw w w1:=qac (by exact bel2) aa;have j_:=cI w1 aj;have b1:=b0.below aa (by simp))
      |(go_at_call 63;refine(ag _ aj (vP n.blk) rfl).mono ?_;rintro e w2 ⟨rfl,af⟩;have aw:Bw w w2:=qac aj af;have b2:=b1.below af (by have:=aa.size;simp at this;omega);have aY:=b2.cell)
      |(go_at_call 105;refine(bD _ aw).mono ?_;rintro e w3 ⟨rfl,ig⟩;subst ig)
      |(go_at_call 147;refine(iI _).mono ?_;rintro e w4 ⟨rfl,a_⟩;have dU:Bw w w4:=qac aw a_)
      |(go_at_call 148;refine(mr _ dU).mono ?_;rintro e w5 ⟨rfl,m,lJ⟩;subst lJ))
     ·exact xrn (v:=vI 7) (by simp[results,results99,go_sem]) rfl ⟨rfl,xrm dU _⟩
     ·exact xrn (v:=vI 0) (by simp[results,results99,go_sem]) rfl ⟨rfl,xrm dU _⟩
theorem qtt{r lst:Value}(h:BkAt w bt r lst vw va ws as_)(hi:ws[i]?=some p):
  Cl 83 #[.pointer (some (vA bt 1)),nptr p.blk] w fun e w'=>e=.returned (.tuple #[])/\∃aQ,BkAt w' bt r lst aQ va (ws.take i++ws.drop (i+1)) as_/\Keep (BkT bt vw va) w w'/\aQ.ownBlock=vw.ownBlock:=by
 have dM:=xr2 hi;have rQ:=h.works p (xr9 _ dM);have ak:=h.at_.lt;have an:=h.len;have qf:ws.length<=100:=by omega
 have wO:p ∉ as_:=fun e=>(List.nodup_append.1 h.nd).2.2 p dM p e rfl
 have jy:=qb7 ⟨h.wrow,fun q hq=>h.works q (xr9 _ hq)⟩ qf rQ (fun a ha e=>h.inj a (xr9 _ ha) p (xr9 _ dM) e) (List.nodup_append.1 h.nd).1;have e_:vw.ownBlock≠some bt:=qag h.wrow h.at_ (by decide);have fw:va.ownBlock≠some bt:=qag h.arow h.at_ (by decide);have c2:=h.at_.cell 2;simp only[xq0,xq1,xq2]at c2;unfold nptr at jy ⊢
 go_enter func83,ntmps83
 go_wp2_with fail
 refine jy.mono ?_
 rintro e w1 (⟨a7,rfl,hB⟩|⟨i',v1,kG,rfl,eH,eu,db⟩)
 ·exact absurd dM a7
 ·have mB:i'=i:=(List.getElem?_inj (xr0.1 kG).1 (List.nodup_append.1 h.nd).1).1 (kG.trans hi.symm);subst mB;have cD:=h.at_.keep eu e_;have f2:=cD.frozen 2;have k2:=cD.cell 2;have k3:=cD.cell 3;simp only[xq0,xq1,xq2]at k2 k3;have bT:Blk (w1.setCell (vA bt 2) v1) bt 102 #[r,lst,v1,va]:=by have:=cD.set 2 v1;simpa using this
  have jn:(w1.setCell (vA bt 2) v1).ownsRow 0 95 1 va as_.length (qay as_):=xrl (qab h.arow eu (fun g hg e=>h.sep g e hg)) (fun e=>fw e) _;have jz:(w1.setCell (vA bt 2) v1).ownsRow 0 95 1 v1 (ws.take i'++ws.drop (i'+1)).length (qay (ws.take i'++ws.drop (i'+1))):=xrl eH.row (fun e=>e_ (by rw[<-db];exact e)) _;have iY:∀q∈ws++as_,Blk (w1.setCell (vA bt 2) v1) q.blk 105 q.cells:=fun q hq=>((h.works q hq).keep eu (qag h.wrow (h.works q hq) (by decide))).other _ _ (fun e=>by
   have h1:=h.works q hq;rw[show q.blk=bt from e]at h1
   have:=h1.symm.trans h.at_
   injection this with this;injection this with _ h2 _
   exact absurd h2 (by decide))
  have fp:Keep (BkT bt vw va) w (w1.setCell (vA bt 2) v1):=(eu.mono (fun y e=>.inr (.inl e))).setCell (p:=vA bt 2) (.inl rfl) _;have nO:BkAt (w1.setCell (vA bt 2) v1) bt r lst v1 va (ws.take i'++ws.drop (i'+1)) as_:=by
   have ai:∀q,q∈(ws.take i'++ws.drop (i'+1))++as_->q∈ws++as_:=fun q hq=>(xri.1 hq).elim (fun e=>xr9 _ (qbb e)) (fun e=>xra _ e)
   have aF:List.Sublist ((ws.take i'++ws.drop (i'+1))++as_) (ws++as_):=by
    refine List.Sublist.append ?_ (List.Sublist.refl _)
    have:=qeb hi
    conv=>rhs;rw[this]
    exact List.Sublist.append (List.Sublist.refl _) (List.sublist_cons_self _ _)
   refine⟨bT,jz,jn,fun q hq=>iY q (ai q hq),fun b hb=>h.sep b (by rw[<-db];exact hb),aF.nodup h.nd,fun a ha b hb e=>h.inj a (ai a ha) b (ai b hb) e,?_⟩
   have:=aF.length_le
   simp only[List.length_append]at this ⊢
   omega
  have mP:=qb7 ⟨nO.arow,fun q hq=>nO.works q (xra _ hq)⟩ (by omega) (iY p (xr9 _ dM)) (fun a ha e=>h.inj a (xra _ ha) p (xr9 _ dM) e) (List.nodup_append.1 h.nd).2.1;obtain⟨a1,zY,dv,_,_⟩:=qbe nO.wrow;obtain⟨a2,GA,dg,_,_⟩:=qbe nO.arow;have v9:∃n1,v1=.slice a1 n1 zY:=⟨_,dv⟩;have DW:∃n2,va=.slice a2 n2 GA:=⟨_,dg⟩;have aP:∀w2,Below (w1.setCell (vA bt 2) v1).heap.size (w1.setCell (vA bt 2) v1) w2->Blk w2 bt 102 #[r,lst,v1,va]/\Hid (BkAt (w2.setCell (vA bt 3) va) bt r lst v1 va (ws.take i'++ws.drop (i'+1)) as_/\Keep (BkT bt vw va) w (w2.setCell (vA bt 3) va)):=by
   intro w2 hB;have eY:=bT.below hB bT.lt;have ax:=nO.keep (T:=fun _=>False) (Keep.new hB) id (fun _ _=>id) (fun _ _=>id) (fun _ _=>id)
   refine⟨eY,⟨?_,?_,?_,?_,ax.sep,ax.nd,ax.inj,ax.len⟩,(fp.qc5 hB).setCell (p:=vA bt 3) (.inl rfl) _⟩
   ·have:=eY.set 3 va
    simpa using this
   ·exact xrl ax.wrow (fun e=>e_ (by rw[<-db];exact e)) _
   ·exact xrl ax.arow (fun e=>fw e) _
   ·exact fun q hq=>(ax.works q hq).other _ _ (qax (ax.works q hq) eY (by decide))
  clear h eH jn jz iY fp nO jy dv dg;obtain⟨n1,rfl⟩:=v9;obtain⟨n2,rfl⟩:=DW;unfold nptr at mP
  go_wp2_with fail
  refine mP.mono ?_
  rintro e w2 (⟨_,rfl,hB⟩|⟨i',v2,uH,_⟩)
  ·obtain⟨eY,hp⟩:=aP w2 hB;have f3:=eY.frozen 3;have gJ:=eY.cell 3;simp only[xq0,xq1,xq2]at gJ;clear aP mP
   go_wp2_with fail
   go_end0
   exact⟨rfl,_,hp.out.1,hp.out.2,db⟩
  ·exact absurd (xr2 uH) wO
theorem qtv{r lst:Value}(h:BkAt w bt r lst vw va ws as_)(hi:as_[i]?=some p):
  Cl 83 #[.pointer (some (vA bt 1)),nptr p.blk] w fun e w'=>e=.returned (.tuple #[])/\∃aX,BkAt w' bt r lst vw aX ws (as_.take i++as_.drop (i+1))/\Keep (BkT bt vw va) w w'/\aX.ownBlock=va.ownBlock:=by
 have dM:=xr2 hi;have rQ:=h.works p (xra _ dM);have ak:=h.at_.lt;have an:=h.len;have qf:ws.length<=100:=by omega
 have nZ:p ∉ ws:=fun e=>(List.nodup_append.1 h.nd).2.2 p e p dM rfl
 have jy:=qb7 ⟨h.wrow,fun q hq=>h.works q (xr9 _ hq)⟩ qf rQ (fun a ha e=>h.inj a (xr9 _ ha) p (xra _ dM) e) (List.nodup_append.1 h.nd).1;have e_:vw.ownBlock≠some bt:=qag h.wrow h.at_ (by decide);have fw:va.ownBlock≠some bt:=qag h.arow h.at_ (by decide);have c2:=h.at_.cell 2;simp only[xq0,xq1,xq2]at c2;obtain⟨a1,zY,dv,_,_⟩:=qbe h.wrow;have v9:∃n1,vw=.slice a1 n1 zY:=⟨_,dv⟩;clear dv;unfold nptr at jy ⊢
 go_enter func83,ntmps83
 go_wp2_with fail
 refine jy.mono ?_
 rintro e w1 (⟨_,rfl,hB⟩|⟨i',v2,uH,_⟩)
 ·have cD:=h.at_.below hB ak;have f2:=cD.frozen 2;have k2:=cD.cell 2;have k3:=cD.cell 3;simp only[xq0,xq1,xq2]at k2 k3;have aa:=h.keep (T:=fun _=>False) (Keep.new hB) id (fun _ _=>id) (fun _ _=>id) (fun _ _=>id);have eu:Keep (BkT bt vw va) w (w1.setCell (vA bt 2) vw):=(Keep.new (T:=BkT bt vw va) hB).setCell (p:=vA bt 2) (.inl rfl) _;have af:BkAt (w1.setCell (vA bt 2) vw) bt r lst vw va ws as_:=by
   refine⟨?_,xrl aa.wrow (fun e=>e_ e) _,xrl aa.arow (fun e=>fw e) _,fun q hq=>(aa.works q hq).other _ _ (qax (aa.works q hq) cD (by decide)),h.sep,h.nd,h.inj,h.len⟩
   have:=cD.set 2 vw
   simpa using this
  have mP:=qb7 ⟨af.arow,fun q hq=>af.works q (xra _ hq)⟩ (by omega) (af.works p (xra _ dM)) (fun a ha e=>h.inj a (xra _ ha) p (xra _ dM) e) (List.nodup_append.1 h.nd).2.1;have aP:∀w2 v1,WRow w2 v1 (as_.take i++as_.drop (i+1))->Keep (fun y=>va.ownBlock=some y) (w1.setCell (vA bt 2) vw) w2->v1.ownBlock=va.ownBlock->Blk w2 bt 102 #[r,lst,vw,va]/\(∃a n c,v1=.slice a n c)/\Hid (BkAt (w2.setCell (vA bt 3) v1) bt r lst vw v1 ws (as_.take i++as_.drop (i+1))/\Keep (BkT bt vw va) w (w2.setCell (vA bt 3) v1)):=by
   intro w2 v1 hW hk ho;have eY:=af.at_.keep hk fw;have ai:∀q,q∈ws++(as_.take i++as_.drop (i+1))->q∈ws++as_:=fun q hq=>(xri.1 hq).elim (fun e=>xr9 _ e) (fun e=>xra _ (qbb e))
   have aF:List.Sublist (ws++(as_.take i++as_.drop (i+1))) (ws++as_):=by
    refine List.Sublist.append (List.Sublist.refl _) ?_
    have:=qeb hi
    conv=>rhs;rw[this]
    exact List.Sublist.append (List.Sublist.refl _) (List.sublist_cons_self _ _)
   have iX:∀q∈ws++as_,Blk w2 q.blk 105 q.cells:=fun q hq=>(af.works q hq).keep hk (qag af.arow (af.works q hq) (by decide))
   obtain⟨a,c,hv,_,_⟩:=qbe hW.row
   refine⟨eY,⟨a,_,c,hv⟩,⟨?_,?_,?_,?_,?_,?_,?_,?_⟩,(eu.qbo hk (fun b _ e=>.inr (.inr e))).setCell (p:=vA bt 3) (.inl rfl) _⟩
   ·have:=eY.set 3 v1
    simpa using this
   ·exact xrl (qab af.wrow hk (fun g hg e=>h.sep g hg e)) (fun e=>e_ e) _
   ·exact xrl hW.row (fun e=>fw (by rw[<-ho];exact e)) _
   ·exact fun q hq=>(iX q (ai q hq)).other _ _ (qax (iX q (ai q hq)) eY (by decide))
   ·exact fun b hb e=>h.sep b hb (by rw[<-ho];exact e)
   ·exact aF.nodup h.nd
   ·exact fun a ha b hb e=>h.inj a (ai a ha) b (ai b hb) e
   ·have:=aF.length_le
    simp only[List.length_append]at this ⊢
    omega
  have D6:=(List.nodup_append.1 h.nd).2.1;clear h aa af eu jy;obtain⟨n1,rfl⟩:=v9;unfold nptr at mP
  go_wp2_with fail
  refine mP.mono ?_
  rintro e w2 (⟨a7,_,_⟩|⟨i',v1,kG,rfl,eH,c_,db⟩)
  ·exact absurd dM a7
  ·have mB:i'=i:=(List.getElem?_inj (xr0.1 kG).1 D6).1 (kG.trans hi.symm);subst mB;obtain⟨eY,⟨a,n,c,rfl⟩,hp⟩:=aP w2 v1 eH c_ db;have f3:=eY.frozen 3;have gJ:=eY.cell 3;simp only[xq0,xq1,xq2]at gJ;clear aP mP eH
   go_wp2_with fail
   go_end0
   exact⟨rfl,_,hp.out.1,hp.out.2,db⟩
 ·exact absurd (xr2 uH) nZ
theorem qm4{r:Value}{last:Int}(h:BkAt w bt r (vI last) vw va ws as_)(hl:ws.length+as_.length<24)(h0:0<=last)(h1:last<=2000000)(q:Nat)(x:Wk)(hx:x.num=last+1):
  Cl 100 #[.pointer (some (vA bt 1)),vP q,.agg #[vI x.d0,vI x.d1]] w fun e w'=>e=.returned (vI (last+1))/\∃aQ,BkAt w' bt r (vI (last+1)) aQ va (ws++[⟨w.heap.size+1,x,q⟩]) as_/\Keep (BkT bt vw va) w w'/\(∀b,aQ.ownBlock=some b->vw.ownBlock=some b\/w.heap.size<=b):=by
 have e_:vw.ownBlock≠some bt:=qag h.wrow h.at_ (by decide);have fw:va.ownBlock≠some bt:=qag h.arow h.at_ (by decide);have ak:=h.at_.lt;obtain⟨a1,zY,dv,yU,D1⟩:=qbe h.wrow;have c1:=h.at_.cell 1;have c2:=h.at_.cell 2;have f1:=h.at_.frozen 1;simp only[xq0,xq1,xq2]at c1 c2;have n0:¬(bt=w.heap.size):=by omega
 have n1:¬(bt=w.heap.size+1):=by omega
 have n2:¬(bt=w.heap.size+1+1):=by omega
 have m0:¬(w.heap.size=bt):=by omega
 have m1:¬(w.heap.size+1=bt):=by omega
 have m2:¬(w.heap.size+1+1=bt):=by omega
 go_enter func100,ntmps100
 go_upto_region 2 with fail
 have lK:vI (last+1)=vI x.num:=by rw[hx]
 have aa:BkAt (w.setCell (vA bt 1) (vI (last+1))) bt r (vI (last+1)) vw va ws as_:=by
  refine⟨?_,xrl h.wrow (fun e=>e_ e) _,xrl h.arow (fun e=>fw e) _,fun q hq=>(h.works q hq).other _ _ (qax (h.works q hq) h.at_ (by decide)),h.sep,h.nd,h.inj,h.len⟩
  have:=h.at_.set 1 (vI (last+1))
  simpa using this
 have oa:(w.setCell (vA bt 1) (vI (last+1))).heap.size=w.heap.size:=by simp
 have aO:Below (w.setCell (vA bt 1) (vI (last+1))).heap.size (w.setCell (vA bt 1) (vI (last+1))) ((w.setCell (vA bt 1) (vI (last+1))).alloc (.cells #[vI x.d0,vI x.d1] 35)):=(Below.refl _ _).alloc (Nat.le_refl _) _;have af:=aa.keep (T:=fun _=>False) (Keep.new aO) id (fun _ _=>id) (fun _ _=>id) (fun _ _=>id);have bT:=af.at_;have bM:Keep (BkT bt vw va) w ((w.setCell (vA bt 1) (vI (last+1))).alloc (.cells #[vI x.d0,vI x.d1] 35)):=((Keep.refl (BkT bt vw va) w).setCell (p:=vA bt 1) (.inl rfl) _).qc5 aO;have kE:Blk ((w.setCell (vA bt 1) (vI (last+1))).alloc (.cells #[vI x.d0,vI x.d1] 35)) w.heap.size 35 #[vI x.d0,vI x.d1]:=by
  have:=Blk.new (w.setCell (vA bt 1) (vI (last+1))) 35 #[vI x.d0,vI x.d1]
  rwa[oa]at this
 have cv:((w.setCell (vA bt 1) (vI (last+1))).alloc (.cells #[vI x.d0,vI x.d1] 35)).heap.size=w.heap.size+1:=by simp
 clear aa aO oa;generalize ((w.setCell (vA bt 1) (vI (last+1))).alloc (.cells #[vI x.d0,vI x.d1] 35))=W2 at bT af bM kE cv ⊢;have HS:Hid (W2.heap.size=w.heap.size+1):=cv;have IV:=bT.lt;have Jd:=kE.lt;have cu:=fun (W:World) (hB:Bw W2 W) (nb:Nat) (cU:Blk W nb 95 #[vP W2.heap.size])=>qby un94 qvc (by omega) W vw ws.length (qay ws) (qab (T:=fun _=>False) af.wrow (Keep.new hB) (fun _ _ e=>e)) nb 1 1 (by omega) [vP W2.heap.size] rfl cU (fun u hu=>by simp at hu;subst hu;rfl) (by unfold maxLen;omega) (by omega)
 have aP:∀W,Bw W2 W->Blk W W2.heap.size 105 #[vI (last+1),vP q,vI x.d0,vI x.d1]->∀g' cap' w',AppR W vw.ownBlock 95 1 (ws.length+1) (qay ws++[vP W2.heap.size]) g' cap' w'->Blk w' bt 102 #[r,vI (last+1),vw,va]/\Blk w' w.heap.size 35 #[vI x.d0,vI x.d1]/\Hid (∀W3,Below (w'.setCell (vA bt 2) (vS g' (ws.length+1) cap')).heap.size (w'.setCell (vA bt 2) (vS g' (ws.length+1) cap')) W3->∃aQ,BkAt W3 bt r (vI (last+1)) aQ va (ws++[⟨w.heap.size+1,x,q⟩]) as_/\Keep (BkT bt vw va) w W3/\(∀b,aQ.ownBlock=some b->vw.ownBlock=some b\/w.heap.size<=b)):=by
  intro W hB rQ g' cap' w' R;have hz:=hB.size;have eY:=(bT.below hB bT.lt).keep R.keep e_;have df:vw.ownBlock≠some w.heap.size:=fun e=>by
   have:=qag af.wrow kE (by decide)
   exact this e
  have JA:vw.ownBlock≠some W2.heap.size:=fun e=>by have:=qal af.wrow e;omega
  have yr:=(kE.below hB kE.lt).keep R.keep df;have DD:=rQ.keep R.keep JA;have fB:g'≠bt:=fun e=>by
   rcases R.new with e2|e2
   ·rw[e]at e2;exact e_ e2
   ·omega
  have FX:vw.ownBlock=some g'\/W2.heap.size<=g':=R.new.imp id (fun e=>by omega);have Dq:Keep (fun b=>vw.ownBlock=some b) W2 w':=(Keep.new (T:=fun b=>vw.ownBlock=some b) hB).qbo R.keep (fun b _ e=>e)
  refine⟨eY,yr,fun W3 fH=>?_⟩
  have bG:(⟨w.heap.size+1,x,q⟩:Pw).cells=#[vI (last+1),vP q,vI x.d0,vI x.d1]:=by
   simp[Pw.cells,nptr,hx]
  have iS:∀y∈ws++as_,Blk w' y.blk 105 y.cells/\y.blk<W2.heap.size:=fun y hy=>⟨(af.works y hy).keep Dq (qag af.wrow (af.works y hy) (by decide)),(af.works y hy).lt⟩
  have a8:∀y∈ws++[⟨w.heap.size+1,x,q⟩]++as_,Blk w' y.blk 105 y.cells:=fun y hy=>by
   rcases xri.1 hy with e|e
   ·rcases xri.1 e with e|e
    ·exact(iS y (xr9 _ e)).1
    ·simp at e;subst e;rw[bG,<- cv];exact DD
   ·exact(iS y (xra _ e)).1
  have eJ:BkAt (w'.setCell (vA bt 2) (vS g' (ws.length+1) cap')) bt r (vI (last+1)) (vS g' (ws.length+1) cap') va (ws++[⟨w.heap.size+1,x,q⟩]) as_:=by
   refine⟨?_,?_,?_,?_,?_,?_,?_,?_⟩
   ·have:=eY.set 2 (vS g' (ws.length+1) cap')
    simpa using this
   ·have:qay (ws++[⟨w.heap.size+1,x,q⟩])=qay ws++[vP W2.heap.size]:=by simp[qay,nptr,cv]
    rw[this,show(ws++[(⟨w.heap.size+1,x,q⟩:Pw)]).length=ws.length+1 by simp]
    exact xrl R.own (by simp[Value.ownBlock];exact fB) _
   ·exact xrl (qab af.arow Dq (fun g hg e=>af.sep g e hg)) (fun e=>fw e) _
   ·exact fun y hy=>(a8 y hy).other _ _ (qax (a8 y hy) eY (by decide))
   ·intro b hb e
    simp[Value.ownBlock]at hb
    subst hb
    rcases FX with e2|e2
    ·exact af.sep _ e2 e
    ·have:=qal af.arow e;omega
   ·have bQ:(⟨w.heap.size+1,x,q⟩:Pw) ∉ ws++as_:=fun e=>by have:=(iS _ e).2;simp at this;omega
    have:(ws++[(⟨w.heap.size+1,x,q⟩:Pw)]++as_).Perm ((⟨w.heap.size+1,x,q⟩:Pw)::(ws++as_)):=by
     rw[List.append_assoc];exact List.perm_middle
    rw[this.nodup_iff]
    exact List.nodup_cons.2 ⟨bQ,af.nd⟩
   ·have dD:∀y∈ws++[⟨w.heap.size+1,x,q⟩]++as_,y=⟨w.heap.size+1,x,q⟩\/y∈ws++as_:=fun y hy=>by
     simp only[xri,List.mem_singleton]at hy ⊢
     rcases hy with (e|e)|e
     ·exact .inr (.inl e)
     ·exact .inl e
     ·exact .inr (.inr e)
    intro a ha b hb e
    rcases dD a ha with ea|ea<;>rcases dD b hb with eb|eb
    ·rw[ea,eb]
    ·have:=(iS b eb).2;rw[ea]at e;simp at e;omega
    ·have:=(iS a ea).2;rw[eb]at e;simp at e;omega
    ·exact af.inj a ea b eb e
   ·simp only[List.length_append,List.length_singleton];omega
  refine⟨_,eJ.keep (T:=fun _=>False) (Keep.new fH) id (fun _ _=>id) (fun _ _=>id) (fun _ _=>id),((bM.qbo Dq (fun b _ e=>.inr (.inl e))).setCell (p:=vA bt 2) (.inl rfl) _).qc5 fH,fun b hb=>?_⟩
  simp[Value.ownBlock]at hb
  subst hb
  exact FX.imp id (fun e=>by omega)
 have e1:=bT.cell 1;have e2:=bT.cell 2;have e3:=kE.cell 0;have e4:=kE.cell 1;simp only[xq0,xq1,xq2]at e1 e2 e3 e4;generalize qay ws=pp at cu aP;rw[dv]at e2;have dw:=bT.lt;clear h af bM c1 c2 f1 bT;generalize hn:ws.length=n at cu aP e2 dv yU;clear hn lK yU D1;subst dv;have k0:¬(bt=W2.heap.size):=by omega
 have k1:¬(bt=W2.heap.size+1):=by omega
 have k2:¬(w.heap.size=W2.heap.size):=by omega
 have k3:¬(w.heap.size=W2.heap.size+1):=by omega
 clear n0 n1 n2 m0 m1 m2 cv;have NO:=World.new_ne W2 (vA bt 1) e1;have NP:=World.new_ne W2 (vA w.heap.size 0) e3
 go_region_law (refine qau rfl (.tmp 18) (.tmp 27) 98 98 rfl _ _ ?_ ?_ (cu _ ?_ ?_ ?_) ?_;(focus (simp[Act.eval,Act.put]));(focus ((try simp[Act.eval,Act.put]);(try rfl)));(focus exact bel2);(focus exact blk2);rintro v1 w1 ⟨g1,q1,rfl,R1⟩;obtain⟨aa,nQ,mg⟩:=aP _ (by exact bel2) (by exact blk2) _ _ _ R1;have f2:=aa.frozen 2;have gJ:=aa.cell 2;have aY:=aa.cell 1;have gO:=R1.le;have ie:=R1.mx;simp only[xq0,xq1,xq2]at gJ aY)
 all_goals (go_wp2_with fail;go_ret;refine⟨rfl,mg.out _ ?_⟩;exact bel2)
theorem TwAt.qh0{lst:Value}(h:TwAt W nodes bt r lst vw va ws as_):∀n∈nodes,¬BkT bt vw va n.blk/\∀g,n.sl.ownBlock=some g->¬BkT bt vw va g:=fun n hn=>by
 have bh:Blk W n.blk 136 n.cells:=(h.ins n hn).at_;have au:=(h.ins n hn).row
 refine⟨?_,fun g hg=>?_⟩
 ·rintro(e|e|e)
  ·exact qax bh h.bk.at_ (by decide) e
  ·exact qag h.bk.wrow bh (by decide) e
  ·exact qag h.bk.arow bh (by decide) e
 ·rintro(e|e|e)
  ·subst e;exact qag au h.bk.at_ (by decide) hg
  ·exact qdj au h.bk.wrow (by decide) hg e
  ·exact qdj au h.bk.arow (by decide) hg e
theorem TwAt.next{lst:Value}(h:TwAt W nodes bt r lst vw va ws as_)(h2:BkAt W' bt (nptr r.blk) zV aQ aX bg aR)(hk:Keep (BkT bt vw va) W W')
  (hm:∀p∈bg++aR,p∈ws++as_\/((∃n∈nodes,n.blk=p.q/\n.key=p.x.key)/\(0<=p.x.d0/\p.x.d0<=1000)/\(0<=p.x.d1/\p.x.d1<=1000))):TwAt W' nodes bt r zV aQ aX bg aR :=
 ⟨qel h.qh0 h.ins hk,h2,fun p hp=>(hm p hp).elim (h.lf p) (fun e=>e.1),fun p hp=>(hm p hp).elim (h.nm p) (fun e=>e.2)⟩
theorem qgw{cnt:Nat}{s:Bs}(h:errWk nodes cnt s ok=0):∃n,findKey nodes (qaa s)=some n/\n.leaf=true/\ok=true/\cnt<24:=by
 unfold errWk at h
 split at h
 ·cases h
 ·split at h
  ·cases h
  ·rename_i n hn
   refine⟨n,hn,?_⟩
   cases hl:n.leaf<;>cases ok<;>simp[hl]at h<;>simp
   omega
theorem qpt(T0:Tree nodes){lst:Value}(h:TwAt w nodes bt r lst vw va ws as_)(hr:r∈nodes)(bK:r.key=[])(s:ByteArray)(hs:s.size<=2000000)(a b:Int)(he:errWk nodes (ws.length+as_.length) (bl s) (qao a b)≠0):
  Cl 59 #[vP bt,.string s,.agg #[vI a,vI b]] w fun e w'=>e=.returned (.tuple #[vI 0,vI (errWk nodes (ws.length+as_.length) (bl s) (qao a b))])/\Bw w w':=by
 have du:=fun W (hW:Bw w W)=>qez T0 (h.below hW) hr bK s hs a b
 have dx:=h.bk.at_.lt;generalize errWk nodes (ws.length+as_.length) (bl s) (qao a b)=err at *;have aW:(err == 0)=false:=by simp[he]
 have b0:Blk (w.alloc (.cells #[vI a,vI b] 35)) w.heap.size 35 #[vI a,vI b]:=Blk.new w 35 _;have aY:=b0.cell
 go_enter func59,ntmps59
 go_wp2_with (first
  |(go_at_call 99;refine(du _ ?_).mono ?_;(focus exact bel2);rintro e w1 ⟨rfl,aa⟩))
 exact xrn (v:=.tuple #[vI 0,vI err]) (by simp[results,results59,go_sem]) rfl ⟨rfl,qac (by exact bel2) aa⟩
theorem qp0(T0:Tree nodes){last:Int}(h:TwAt w nodes bt r (vI last) vw va ws as_)(h0:0<=last)(h1:last<=2000000)(hr:r∈nodes)(bK:r.key=[])(s:ByteArray)(hs:s.size<=2000000)(a b:Int)(he:errWk nodes (ws.length+as_.length) (bl s) (qao a b)=0)(hn:findKey nodes (qaa (bl s))=some n):
  Cl 59 #[vP bt,.string s,.agg #[vI a,vI b]] w fun e w'=>e=.returned (.tuple #[vI (last+1),vI 0])/\∃aQ k,w.heap.size<=k/\TwAt w' nodes bt r (vI (last+1)) aQ va (ws++[⟨k,⟨last+1,qaa (bl s),a,b,0⟩,n.blk⟩]) as_/\Keep (BkT bt vw va) w w'/\(∀b,aQ.ownBlock=some b->vw.ownBlock=some b\/w.heap.size<=b):=by
 have du:=fun W (hW:Bw w W)=>qez T0 (h.below hW) hr bK s hs a b
 rw[he]at du;obtain⟨n',ez,fu,cV,rC⟩:=qgw he;obtain⟨fl,dh⟩:=qbw hn;have ag:=fun W (hW:Bw w W) v hv=>qfh T0 hr bK s hs W (h.below hW).ins v hv
 rw[hn]at ag;have aF:=fun W (hW:Bw w W)=>qm4 (h.below hW).bk rC h0 h1 n.blk ⟨last+1,qaa (bl s),a,b,0⟩ rfl
 have dx:=h.bk.at_.lt;have cI:∀W,Bw w W->W.cell? (vA bt 0)=some (nptr r.blk):=fun W (hW:Bw w W)=>(h.below hW).bk.at_.cell 0
 have b0:Blk (w.alloc (.cells #[vI a,vI b] 35)) w.heap.size 35 #[vI a,vI b]:=Blk.new w 35 _;have aY:=b0.cell;simp only[nptr]at ag aF cI;clear he ez;have nU:¬BkT bt vw va w.heap.size:=by
  rintro(e|e|e)
  ·omega
  ·have:=qal h.bk.wrow e;omega
  ·have:=qal h.bk.arow e;omega
 go_enter func59,ntmps59
 go_upto_region 4 with (first
  |(go_at_call 99;refine(du _ ?_).mono ?_;(focus exact bel2);rintro e w1 ⟨rfl,aa⟩;have aj:Bw w w1:=qac (by exact bel2) aa;have b1:=b0.below aa (by simp);have j_:=cI w1 aj;have d0:=b1.cell 0;have d1:=b1.cell 1;simp only[xq0,xq1,xq2]at d0 d1))
 go_region_held3 (fun w'=>w'.cell? (vA bt 0)=some (vP r.blk)/\w'.cell? (vA w.heap.size 0)=some (vI a)/\w'.cell? (vA w.heap.size 1)=some (vI b)) (go_keep)
  (first
   |(go_at_call 63;refine(ag _ ?_ (vP n.blk) rfl).mono ?_;(focus exact aj.drew);rintro e w2 ⟨rfl,af⟩;have aw:Bw w w2:=qac aj.drew af;have b2:=Blk.below (show Blk w1.drew w.heap.size 35 #[vI a,vI b] from b1) af b1.lt;have AW:=cI w2 aw;have f0:=b2.cell 0;have f1:=b2.cell 1;simp only[xq0,xq1,xq2]at f0 f1)
   |(go_at_call 100;refine(aF _ aw).mono ?_;rintro e w3 ⟨rfl,oy,dZ,h_,xU⟩;have b3:=b2.keep h_ nU;have Gn:=dZ.at_.cell 0;have g0:=b3.cell 0;have g1:=b3.cell 1;simp only[xq0,xq1,xq2,nptr]at Gn g0 g1))
 go_wp2_with fail
 have dO:=aw.size;have hK:Keep (BkT bt vw va) w w3:=(Keep.new aw).qbo h_ (fun b hb e=>e)
 refine xrn (v:=.tuple #[vI (last+1),vI 0]) (by simp[results,results59,go_sem]) rfl ⟨rfl,oy,w2.heap.size+1,by omega,h.next dZ hK (fun p hp=>?_),hK,fun b hb=>?_⟩
 ·rcases xri.1 hp with h1|h1
  ·rcases xri.1 h1 with h2|h2
   ·exact .inl (xr9 _ h2)
   ·simp only[List.mem_singleton]at h2;subst h2
    refine .inr ⟨⟨n,fl,rfl,dh⟩,?_⟩
    simp[qao]at cV
    simp only
    omega
  ·exact .inl (xra _ h1)
 ·rcases xU b hb with e|e
  ·exact .inl e
  ·exact .inr (by omega)
end Go.Proofs.YtphclnolomgjoaaGreatDoor
