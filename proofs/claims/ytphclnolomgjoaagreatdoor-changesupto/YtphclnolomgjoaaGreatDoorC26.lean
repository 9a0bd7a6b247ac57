import Derived.Test.YtphclnolomgjoaaGreatDoorC22
import Derived.Test.YtphclnolomgjoaaGreatDoorC25
set_option linter.unusedVariables false
set_option linter.unusedSimpArgs false
set_option maxRecDepth 100000
set_option maxHeartbeats 4000000
namespace Go.Proofs.YtphclnolomgjoaaGreatDoor
open Tryz
open Go.RowKit
variable {x:Wk}{n r:Node}{W1 W2 w w' w1:World}{aR bg l:List Pw}{M N br bw cW cap i n₀ : Nat}{aQ aX bL bO c1 c2 c3 cC cd cy ev sl:Value}{T:Nat->Prop}{a cnt cnt' d last':Int}{fin s:SS}{leaf:Bool}{ar:List Node}{L L':List Ent}{ao:Option Addr}{τ1 τ2:Nat->Tag}{o:Option Nat}{es ns:List Value}{me ms:List Int}
theorem Rel.append{nodes:List Node}{Ws:List Wk}{ws as_:List Pw}(R:Rel nodes Ws ws as_)(hx:x.st=0){k:Nat}(hn:n∈nodes)(hk:n.key=x.key):Rel nodes (Ws++[x]) (ws++[⟨k,x,n.blk⟩]) as_:=by
 obtain⟨az,h1,h2,h3⟩:=R.a
 refine⟨?_,⟨az,h1,?_,h3⟩,fun p hp=>?_⟩
 ·rw[List.map_append,List.filter_append,R.w]
  simp[hx]
 ·rw[List.filter_append]
  simpa [hx] using h2
 ·rcases xri.1 hp with e|e
  ·rcases xri.1 e with e|e
   ·exact R.leaf p (xr9 _ e)
   ·simp only[List.mem_singleton]at e;subst e
    exact⟨n,hn,rfl,hk⟩
  ·exact R.leaf p (xra _ e)
def SetT (nodes:List Node)(bt:Nat)(r:Node)(lst vw va:Value)(ws as_:List Pw)(fin:SS)(ev:Value)(w w':World):Prop :=
 ∃aQ aX bg aR,TwAt w' nodes bt r lst aQ aX bg aR/\w'.ownsRow 0 60 2 ev fin.evs.length (qai fin.evs)/\Rel nodes fin.Ws bg aR/\Keep (BkT bt vw va) w w'/\(∀b,aQ.ownBlock=some b\/aX.ownBlock=some b->vw.ownBlock=some b\/va.ownBlock=some b\/w.heap.size<=b)/\(∀b,ev.ownBlock=some b->w.heap.size<=b)/\(∀p∈bg++aR,p∈ws++as_\/w.heap.size<=p.blk)
theorem qpo{nodes:List Node}(T0:Tree nodes){bt:Nat}{lst vw va:Value}{ws as_:List Pw}(h:TwAt w nodes bt r lst vw va ws as_)(hr:r∈nodes)(bK:r.key=[])(s:ByteArray)(hs:s.size<=2000000)(a b:Int)(he:errWk nodes (ws.length+as_.length) (bl s) (qao a b)≠0):
  Cl 32 #[vP bt,.string s,.agg #[vI a,vI b]] w fun e w'=>e=.returned (.tuple #[vI 0,v0_,vI (errWk nodes (ws.length+as_.length) (bl s) (qao a b))])/\Bw w w':=by
 have aF:=fun W (hW:Bw w W)=>qpt T0 (h.below hW) hr bK s hs a b he
 have dx:=h.bk.at_.lt;generalize errWk nodes (ws.length+as_.length) (bl s) (qao a b)=err at *;have gI:=fun W=>qgg (w:=W) (bt:=bt) he
 have b0:Blk (w.alloc (.cells #[vI a,vI b] 35)) w.heap.size 35 #[vI a,vI b]:=Blk.new w 35 _;have aY:=b0.cell
 go_enter func32,ntmps32
 go_wp2_with (first
  |(go_at_call 59;refine(aF _ ?_).mono ?_;(focus exact bel2);rintro e w1 ⟨rfl,aa⟩)
  |(go_at_call 51;refine(gI _).mono ?_;rintro e w2 ⟨rfl,en⟩;subst en))
 exact xrn (v:=.tuple #[vI 0,v0_,vI err]) (by simp[results,results32,go_sem]) rfl ⟨rfl,qac (by exact bel2) aa⟩
theorem qo9{nodes:List Node}(T0:Tree nodes)(hB:qa7 nodes){bt:Nat}{last:Int}{vw va:Value}{ws as_:List Pw}(h:TwAt w nodes bt r (vI last) vw va ws as_)(h0:0<=last)(h1:last<=2000000)(hr:r∈nodes)(bK:r.key=[])(s:ByteArray)(hs:s.size<=2000000)(a b:Int)(he:errWk nodes (ws.length+as_.length) (bl s) (qao a b)=0){Ws:List Wk}{st:Int}(R:Rel nodes Ws ws as_)(I:SInv ⟨Ws++[qct last (bl s) a b],st,[]⟩):
  Cl 32 #[vP bt,.string s,.agg #[vI a,vI b]] w fun e w'=>∃ev,e=.returned (.tuple #[vI (last+1),ev,vI 0])/\SetT nodes bt r (vI (last+1)) vw va ws as_ (qaj (nodes.map Node.ent) ⟨Ws++[qct last (bl s) a b],st,[]⟩) ev w w':=by
 obtain⟨n,hn,fu,cV,rC⟩:=qgw he;obtain⟨fl,dh⟩:=qbw hn;have aF:=fun W (hW:Bw w W)=>qp0 T0 (h.below hW) h0 h1 hr bK s hs a b he hn
 have gI:=fun W aQ k (hT:TwAt W nodes bt r (vI (last+1)) aQ va (ws++[⟨k,⟨last+1,qaa (bl s),a,b,0⟩,n.blk⟩]) as_)=>qf6 T0 hB hT hr bK (s0:=⟨Ws++[qct last (bl s) a b],st,[]⟩) (R.append (x:=qct last (bl s) a b) rfl fl dh) I rfl
 generalize qaj (nodes.map Node.ent) ⟨Ws++[qct last (bl s) a b],st,[]⟩=fin at gI ⊢;have dx:=h.bk.at_.lt;have b0:Blk (w.alloc (.cells #[vI a,vI b] 35)) w.heap.size 35 #[vI a,vI b]:=Blk.new w 35 _;have aY:=b0.cell
 go_enter func32,ntmps32
 go_wp2_with (first
  |(go_at_call 59;refine(aF _ ?_).mono ?_;(focus exact bel2);rintro e w1 ⟨rfl,gG,k1,c_,gw,eu,F7⟩)
  |(go_at_call 51;refine(gI _ _ _ gw).mono ?_;rintro e w2 ⟨ik,gR,eV,il,jj,rfl,m1,m2,m3,m4,m5,m6,m7⟩))
 have cx:Bw w (w.alloc (.cells #[vI a,vI b] 35)):=by exact bel2
 have xR:Keep (BkT bt vw va) w w1:=(Keep.new cx).qbo eu (fun b hb e=>e);have cJ:=xR.size
 refine xrn (v:=.tuple #[vI (last+1),eV,vI 0]) (by simp[results,results32,go_sem]) rfl ⟨eV,rfl,ik,gR,il,jj,m1,m2,m3,xR.qbo m4 (fun b hb e=>?_),fun b hb=>?_,fun b hb=>Nat.le_trans cJ (m6 b hb),fun p hp=>?_⟩
 ·rcases e with e|e|e
  ·exact .inl e
  ·rcases F7 b e with e2|e2
   ·exact .inr (.inl e2)
   ·simp at e2;omega
  ·exact .inr (.inr e)
 ·rcases m5 b hb with e|e|e
  ·rcases F7 b e with e2|e2
   ·exact .inl e2
   ·simp at e2;exact .inr (.inr (by omega))
  ·exact .inr (.inl e)
  ·exact .inr (.inr (by omega))
 ·rcases xri.1 (m7 p hp) with e|e
  ·rcases xri.1 e with e|e
   ·exact .inl (xr9 _ e)
   ·simp only[List.mem_singleton]at e;subst e
    simp at c_
    exact .inr (by simp only;omega)
  ·exact .inl (xra _ e)
theorem qcx{α : Type}(g : α -> Int):∀ {l:List α},(l.map g).Nodup->∀ {i:Nat} {x : α},l[i]?=some x->l.take i++l.drop (i+1)=l.filter (fun y=>!(g y == g x))
 | [],_,i,x,h=>by simp at h
 |a::l,hn,0,x,h=>by
  simp only[List.getElem?_cons_zero,Option.some.injEq]at h;subst h;simp only[List.map_cons,List.nodup_cons]at hn;simp only[List.take_zero,List.nil_append,Nat.zero_add,List.drop_succ_cons,List.drop_zero];rw[List.filter_cons_of_neg (by simp)]
  symm
  rw[List.filter_eq_self];intro b hb
  have:g b≠g a:=fun e=>hn.1 (e ▸ xrj hb)
  simp[this]
 |a::l,hn,i+1,x,h=>by
  simp only[List.getElem?_cons_succ]at h;simp only[List.map_cons,List.nodup_cons]at hn;have hx:g a≠g x:=fun e=>hn.1 (e ▸ xrj (xr2 h))
  simp only[List.take_succ_cons,List.drop_succ_cons,List.cons_append];rw[List.filter_cons_of_pos (by simp[hx]),qcx g hn.2 h]
theorem Rel.qu9{nodes:List Node}{Ws:List Wk}{ws as_:List Pw}(R:Rel nodes Ws ws as_)(m:Int):Rel nodes (Ws.filter fun y=>!(y.num == m)) (ws.filter fun p=>!(p.x.num == m)) (as_.filter fun p=>!(p.x.num == m)):=by
 obtain⟨az,h1,h2,h3⟩:=R.a;have hf:∀l:List Pw,(l.filter fun p=>!(p.x.num == m)).map (·.x)=(l.map (·.x)).filter fun y=>!(y.num == m):=fun l=>by rw[List.filter_map];rfl
 refine⟨?_,⟨az.filter fun y=>!(y.num == m),?_,?_,h3.sublist List.filter_sublist⟩,fun p hp=>?_⟩
 ·rw[hf,R.w,List.filter_filter,List.filter_filter]
  exact List.filter_congr fun x _=>Bool.and_comm _ _
 ·rw[hf,h1,List.filter_map];rfl
 ·rw[List.filter_filter]
  have:=h2.filter fun y=>!(y.num == m)
  rw[List.filter_filter]at this
  refine this.trans (List.Perm.of_eq (List.filter_congr fun x _=>Bool.and_comm _ _))
 ·rw[<-List.filter_append]at hp
  exact R.leaf p (xrr.1 hp).1
theorem qp3{nodes:List Node}{Ws:List Wk}{ws as_:List Pw}(R:Rel nodes Ws ws as_){st:Int}(hS:WkS Ws st):((ws++as_).map (·.x.num)).Nodup:=(R.nums (fun x hx=>(hS.st x hx).1)).nodup_iff.2 hS.nums
theorem qny{m:Int}(h:∀p∈l,p.x.num≠m):(l.filter fun p=>!(p.x.num == m))=l:=by
 rw[List.filter_eq_self];intro p hp
 simp[h p hp]
theorem Rel.found{nodes:List Node}{Ws:List Wk}{ws as_:List Pw}(R:Rel nodes Ws ws as_){st:Int}(hS:WkS Ws st)(hi:Ws[i]?=some x):
  ∃p b,findBk ws as_ x.num=(nptr p.blk,b)/\((∃j,ws[j]?=some p/\Rel nodes (Ws.take i++Ws.drop (i+1)) (ws.take j++ws.drop (j+1)) as_)\/(∃j,as_[j]?=some p/\Rel nodes (Ws.take i++Ws.drop (i+1)) ws (as_.take j++as_.drop (j+1)))):=by
 have df:=qp3 R hS;rw[List.map_append,List.nodup_append]at df;obtain⟨cQ,da,D2⟩:=df;have hx:x.num∈(ws++as_).map (·.x.num):=(R.nums (fun x hx=>(hS.st x hx).1)).mem_iff.2 (xrj (xr2 hi));have hW:=R.qu9 x.num;rw[<-qcx (·.num) hS.nums hi]at hW
 cases ha:qc3 as_ x.num with
 |some p =>
  have hp:p∈as_:=List.mem_of_find?_eq_some ha;have ic:p.x.num=x.num:=by have:=List.find?_some ha;simpa using this
  obtain⟨j,hj⟩:=xre hp
  refine⟨p,true,by simp[findBk,ha],.inr ⟨j,hj,?_⟩⟩
  have e1:=qcx (·.x.num) da hj;rw[ic]at e1;rw[<-e1,qny (fun q hq=>fun e=>D2 _ (xrj hq) _ (xrj hp) (e.trans ic.symm))]at hW
  exact hW
 |none =>
  have a7:∀q∈as_,q.x.num≠x.num:=fun q hq e=>by
   have:=List.find?_eq_none.1 ha q hq
   simp[e]at this
  obtain⟨q,hq,zl⟩:=xrq.1 hx;have hq:q∈ws:=(xri.1 hq).resolve_right (fun h=>a7 q h zl)
  cases hw:qc3 ws x.num with
  |none =>
   have:=List.find?_eq_none.1 hw q hq
   simp[zl]at this
  |some p =>
   have hp:p∈ws:=List.mem_of_find?_eq_some hw;have ic:p.x.num=x.num:=by have:=List.find?_some hw;simpa using this
   obtain⟨j,hj⟩:=xre hp
   refine⟨p,false,by simp[findBk,ha,hw,optP],.inl ⟨j,hj,?_⟩⟩
   have e1:=qcx (·.x.num) cQ hj;rw[ic]at e1;rw[<-e1,qny a7]at hW
   exact hW
theorem Rel.lost{nodes:List Node}{Ws:List Wk}{ws as_:List Pw}(R:Rel nodes Ws ws as_){st:Int}(hS:WkS Ws st){m:Int}(h:∀x∈Ws,x.num≠m):findBk ws as_ m=(.pointer none,false):=by
 have a7:∀q∈ws++as_,q.x.num≠m:=fun q hq e=>by
  have:=(R.nums (fun x hx=>(hS.st x hx).1)).mem_iff.1 (xrj hq)
  obtain⟨x,hx,JU⟩:=xrq.1 this
  exact h x hx (JU.trans e)
 have ha:qc3 as_ m=none:=List.find?_eq_none.2 fun q hq=>by simp[a7 q (xra _ hq)]
 have hw:qc3 ws m=none:=List.find?_eq_none.2 fun q hq=>by simp[a7 q (xr9 _ hq)]
 simp[findBk,ha,hw,optP]
theorem qos{nodes:List Node}{bt:Nat}{lst vw va:Value}{ws as_:List Pw}(h:TwAt w nodes bt r lst vw va ws as_){m:Int}(hf:findBk ws as_ m=(.pointer none,false)):
  Cl 55 #[vP bt,vI m] w fun e w'=>e=.returned (vI 12)/\Bw w w':=by
 have ag:=fun W (hW:Bw w W)=>qf5 (h.below hW).bk m
 rw[hf]at ag;have dx:=h.bk.at_.lt
 go_enter func55,ntmps55
 go_wp2_with (first
  |(go_at_call 46;refine(ag _ ?_).mono ?_;(focus exact bel2);rintro e w1 ⟨rfl,bX⟩;subst bX))
 exact xrn (v:=vI 12) (by simp[results,results55,go_sem]) rfl ⟨rfl,by exact bel2⟩
theorem qpz{nodes:List Node}{bt:Nat}{lst vw va:Value}{ws as_:List Pw}(h:TwAt w nodes bt r lst vw va ws as_){Ws:List Wk}{st:Int}(R:Rel nodes Ws ws as_)(hS:WkS Ws st)(hi:Ws[i]?=some x):
  Cl 55 #[vP bt,vI x.num] w fun e w'=>e=.returned (vI 0)/\∃aQ aX bg aR,TwAt w' nodes bt r lst aQ aX bg aR/\Rel nodes (Ws.take i++Ws.drop (i+1)) bg aR/\Keep (BkT bt vw va) w w'/\(∀b,aQ.ownBlock=some b\/aX.ownBlock=some b->vw.ownBlock=some b\/va.ownBlock=some b)/\(∀p∈bg++aR,p∈ws++as_):=by
 obtain⟨p,b,hb,dD⟩:=R.found hS hi;have ag:=fun W (hW:Bw w W)=>qf5 (h.below hW).bk x.num
 rw[hb]at ag;have aM:∀W,Bw w W->Cl 83 #[.pointer (some (vA bt 1)),nptr p.blk] W fun e w'=>e=.returned (.tuple #[])/\∃aQ aX bg aR,TwAt w' nodes bt r lst aQ aX bg aR/\Rel nodes (Ws.take i++Ws.drop (i+1)) bg aR/\Keep (BkT bt vw va) W w'/\(∀b,aQ.ownBlock=some b\/aX.ownBlock=some b->vw.ownBlock=some b\/va.ownBlock=some b)/\(∀p∈bg++aR,p∈ws++as_):=by
  intro W hW
  rcases dD with ⟨j,hj,hR⟩|⟨j,hj,hR⟩
  ·refine(qtt (h.below hW).bk hj).mono ?_
   rintro e w' ⟨rfl,aQ,k1,k2,k3⟩
   have rT:∀q∈(ws.take j++ws.drop (j+1))++as_,q∈ws++as_:=fun q hq=>by
    rcases xri.1 hq with h1|h1
    ·exact xr9 _ (qbb h1)
    ·exact xra _ h1
   refine⟨rfl,aQ,va,_,_,(h.below hW).next k1 k2 (fun q hq=>.inl (rT q hq)),hR,k2,fun b e=>?_,rT⟩
   rw[k3]at e;exact e
  ·refine(qtv (h.below hW).bk hj).mono ?_
   rintro e w' ⟨rfl,aX,k1,k2,k3⟩
   have rT:∀q∈ws++(as_.take j++as_.drop (j+1)),q∈ws++as_:=fun q hq=>by
    rcases xri.1 hq with h1|h1
    ·exact xr9 _ h1
    ·exact xra _ (qbb h1)
   refine⟨rfl,vw,aX,_,_,(h.below hW).next k1 k2 (fun q hq=>.inl (rT q hq)),hR,k2,fun b e=>?_,rT⟩
   rw[k3]at e;exact e
 have dx:=h.bk.at_.lt;have aW:=fun W=>qgv (W:=W) (x:=p)
 clear dD;unfold nptr at ag aM
 go_enter func55,ntmps55
 go_wp2_with (first
  |(go_at_call 46;refine(ag _ ?_).mono ?_;(focus exact bel2);rintro e w1 ⟨rfl,bX⟩;subst bX)
  |(go_at_call 83;refine(aM _ ?_).mono ?_;(focus exact bel2);rintro e w2 ⟨rfl,ik,gR,il,jj,m1,m2,m3,m4,m5⟩))
 exact xrn (v:=vI 0) (by simp[results,results55,go_sem]) rfl ⟨rfl,ik,gR,il,jj,m1,m2,(Keep.new (by exact bel2)).qbo m3 (fun b hb e=>e),m4,m5⟩
theorem qpu{nodes:List Node}{bt:Nat}{lst vw va:Value}{ws as_:List Pw}(h:TwAt w nodes bt r lst vw va ws as_){Ws:List Wk}{st:Int}(R:Rel nodes Ws ws as_)(hS:WkS Ws st){m:Int}(hm:∀x∈Ws,x.num≠m):
  Cl 28 #[vP bt,vI m] w fun e w'=>e=.returned (.tuple #[v0_,vI 12])/\Bw w w':=by
 have aM:=fun W (hW:Bw w W)=>qos (h.below hW) (R.lost hS hm)
 have gI:=fun W=>qgg (w:=W) (bt:=bt) (x:=12) (by decide)
 have dx:=h.bk.at_.lt
 go_enter func28,ntmps28
 go_wp2_with (first
  |(go_at_call 55;refine(aM _ ?_).mono ?_;(focus exact bel2);rintro e w1 ⟨rfl,aa⟩)
  |(go_at_call 51;refine(gI _).mono ?_;rintro e w2 ⟨rfl,en⟩;subst en))
 exact xrn (v:=.tuple #[v0_,vI 12]) (by simp[results,results28,go_sem]) rfl ⟨rfl,qac (by exact bel2) aa⟩
theorem qo2{nodes:List Node}(T0:Tree nodes)(hB:qa7 nodes){bt:Nat}{lst vw va:Value}{ws as_:List Pw}(h:TwAt w nodes bt r lst vw va ws as_)(hr:r∈nodes)(bK:r.key=[]){Ws:List Wk}{st:Int}(R:Rel nodes Ws ws as_)(I:SInv ⟨Ws,st,[]⟩)(hi:Ws[i]?=some x)(I2:SInv ⟨Ws.take i++Ws.drop (i+1),st,[]⟩):
  Cl 28 #[vP bt,vI x.num] w fun e w'=>∃ev,e=.returned (.tuple #[ev,vI 0])/\SetT nodes bt r lst vw va ws as_ (qaj (nodes.map Node.ent) ⟨Ws.take i++Ws.drop (i+1),st,[]⟩) ev w w':=by
 have aM:=fun W (hW:Bw w W)=>qpz (h.below hW) R I.wks hi
 have gI:=fun W aQ aX bg aR (hT:TwAt W nodes bt r lst aQ aX bg aR) (hR:Rel nodes (Ws.take i++Ws.drop (i+1)) bg aR)=>qf6 T0 hB hT hr bK (s0:=⟨Ws.take i++Ws.drop (i+1),st,[]⟩) hR I2 rfl
 generalize qaj (nodes.map Node.ent) ⟨Ws.take i++Ws.drop (i+1),st,[]⟩=fin at gI ⊢;have dx:=h.bk.at_.lt
 go_enter func28,ntmps28
 go_wp2_with (first
  |(go_at_call 55;refine(aM _ ?_).mono ?_;(focus exact bel2);rintro e w1 ⟨rfl,gG,gj,ws1,gS,n1,n2,n3,n4,n5⟩)
  |(go_at_call 51;refine(gI _ _ _ _ _ n1 n2).mono ?_;rintro e w2 ⟨ik,gR,eV,il,jj,rfl,m1,m2,m3,m4,m5,m6,m7⟩))
 have xR:Keep (BkT bt vw va) w w1:=(Keep.new (by exact bel2)).qbo n3 (fun b hb e=>e);have cJ:=xR.size
 refine xrn (v:=.tuple #[eV,vI 0]) (by simp[results,results28,go_sem]) rfl ⟨eV,rfl,ik,gR,il,jj,m1,m2,m3,xR.qbo m4 (fun b hb e=>?_),fun b hb=>?_,fun b hb=>Nat.le_trans cJ (m6 b hb),fun p hp=>.inl (n5 p (m7 p hp))⟩
 ·rcases e with e|e
  ·exact .inl e
  ·exact .inr (n4 b e)
 ·rcases m5 b hb with e|e|e
  ·exact(n4 b (.inl e)).imp id .inl
  ·exact(n4 b (.inr e)).imp id .inl
  ·exact .inr (.inr (by omega))
structure qb6 (τ : Nat->Tag) (t:Nat) (W:World) (bt:Nat) (nodes:List Node) (last:Int) (vw va:Value) (ws as_:List Pw):Prop where
 pr:qfn τ t W bt nodes (vI last) vw va
 bk:∃r,nodes[0]?=some r/\TwAt W nodes bt r (vI last) vw va ws as_
 wtag:∀b,vw.ownBlock=some b\/va.ownBlock=some b -> τ b=.book t
 ptag:∀p∈ws++as_,τ p.blk=.work t
section
variable {τ τ':Nat->Tag}{t:Nat}{W W':World}{bt:Nat}{nodes:List Node}{last:Int}{vw va:Value}{ws as_:List Pw}
theorem qfn.qlc(h:qfn τ t W bt nodes c1 c2 c3):qa7 nodes:=fun a ha b hb e=>by
 exact h.binj a ha b hb e
theorem qb6.lts(h:qb6 τ t W bt nodes last vw va ws as_):bt<W.heap.size/\(∀b,vw.ownBlock=some b\/va.ownBlock=some b->b<W.heap.size)/\(∀p∈ws++as_,p.blk<W.heap.size):=by
 obtain⟨r,_,hb⟩:=h.bk
 exact⟨hb.bk.at_.lt,fun b e=>e.elim (fun e=>qal hb.bk.wrow e) (fun e=>qal hb.bk.arow e),fun p hp=>(hb.bk.works p hp).lt⟩
theorem qb6.keep(h:qb6 τ t W bt nodes last vw va ws as_)(k:Keep T W W')(hT:∀b,b<W.heap.size->T b->¬(τ b).prog t)(hτ : ∀b,b<W.heap.size -> τ' b = τ b):qb6 τ' t W' bt nodes last vw va ws as_:=by
 have hp:=h.pr.keep k hT hτ;obtain⟨l1,l2,l3⟩:=h.lts;obtain⟨r,hr,hb⟩:=h.bk
 refine⟨hp,⟨r,hr,hp.ins,?_,hb.lf,hb.nm⟩,fun b e=>by rw[hτ b (l2 b e)];exact h.wtag b e,fun p hq=>by rw[hτ _ (l3 p hq)];exact h.ptag p hq⟩
 exact hb.bk.keep k (fun e=>hT _ l1 e (by rw[h.pr.ttag];rfl)) (fun b e e2=>hT _ (l2 b (.inl e)) e2 (by rw[h.wtag b (.inl e)];rfl)) (fun b e e2=>hT _ (l2 b (.inr e)) e2 (by rw[h.wtag b (.inr e)];rfl)) (fun p hq e2=>hT _ (l3 p hq) e2 (by rw[h.ptag p hq];rfl))
open Classical in
theorem qb6.set(h:qb6 τ t W bt nodes last vw va ws as_)(hr:nodes[0]?=some r)(hs:SetT nodes bt r (.int .i64 last') vw va ws as_ fin ev W W'):
  ∃τ' aQ aX bg aR,(∀x,x<W.heap.size -> τ' x = τ x)/\(∀x,W.heap.size<=x -> τ' x=.free\/(τ' x).prog t)/\qb6 τ' t W' bt nodes last' aQ aX bg aR/\Rel nodes fin.Ws bg aR/\W'.ownsRow 0 60 2 ev fin.evs.length (qai fin.evs)/\(∀b,ev.ownBlock=some b->W.heap.size<=b /\ τ' b=.free)/\Keep (fun x=>x<W.heap.size/\(τ x).prog t) W W':=by
 obtain⟨aQ,aX,bg,aR,m1,m2,m3,m4,m5,m6,m7⟩:=hs;obtain⟨l1,l2,l3⟩:=h.lts;obtain⟨τ',fV⟩:∃τ':Nat->Tag,τ'=fun x=>if x<W.heap.size then τ x else if aQ.ownBlock=some x\/aX.ownBlock=some x then .book t else if ∃p∈bg++aR,p.blk=x then .work t else .free:=⟨_,rfl⟩
 have iu:∀x,x<W.heap.size -> τ' x = τ x:=fun x hx=>by rw[fV];simp[hx]
 have JO:∀p∈bg++aR,¬(aQ.ownBlock=some p.blk\/aX.ownBlock=some p.blk):=fun p hp e=>by
  rcases e with e|e
  ·exact qag m1.bk.wrow (m1.bk.works p hp) (by decide) e
  ·exact qag m1.bk.arow (m1.bk.works p hp) (by decide) e
 refine⟨τ',aQ,aX,bg,aR,iu,fun x hx=>?_,⟨⟨h.pr.tree,m1.ins,fun i n hi=>?_,⟨r,hr,m1.bk.at_⟩,?_,h.pr.binj⟩,⟨r,hr,m1⟩,fun b e=>?_,fun p hp=>?_⟩,m3,m2,fun b e=>⟨m6 b e,?_⟩,?_⟩
 ·rw[fV];simp only[Nat.not_lt.2 hx,if_false]
  split
  ·exact .inr rfl
  ·split
   ·exact .inr rfl
   ·exact .inl rfl
 ·obtain⟨t1,t2⟩:=h.pr.tags i n hi;have hn:=h.pr.ins n (xr2 hi)
  exact⟨by rw[iu _ hn.lt];exact t1,fun g hg=>by rw[iu _ (hn.row.lt g hg).2];exact t2 g hg⟩
 ·rw[iu _ l1];exact h.pr.ttag
 ·rcases m5 b e with e2|e2|e2
  ·rw[iu _ (l2 b (.inl e2))];exact h.wtag b (.inl e2)
  ·rw[iu _ (l2 b (.inr e2))];exact h.wtag b (.inr e2)
  ·rw[fV];simp[Nat.not_lt.2 e2,e]
 ·rcases m7 p hp with e|e
  ·rw[iu _ (l3 p e)];exact h.ptag p e
  ·have h1:∃q∈bg++aR,q.blk=p.blk:=⟨p,hp,rfl⟩;rw[fV];simp only[Nat.not_lt.2 e,if_false,JO p hp,if_pos h1]
 ·have h1:¬b<W.heap.size:=Nat.not_lt.2 (m6 b e);have h2:¬(aQ.ownBlock=some b\/aX.ownBlock=some b):=fun e2=>by
   rcases e2 with e2|e2
   ·exact qdj m2 m1.bk.wrow (by decide) e e2
   ·exact qdj m2 m1.bk.arow (by decide) e e2
  have h3:¬ ∃p∈bg++aR,p.blk=b:=fun ⟨p,hp,e2⟩=>by
   subst e2
   exact qag m2 (m1.bk.works p hp) (by decide) e
  rw[fV];simp only[h1,h2,if_false,if_neg h3]
 ·refine(Keep.refl _ W).qbo m4 (fun x hx e=>⟨hx,?_⟩)
  rcases e with e|e|e
  ·rw[e,h.pr.ttag];rfl
  ·rw[h.wtag x (.inl e)];rfl
  ·rw[h.wtag x (.inr e)];rfl
theorem qb6.hung(h:qb6 τ t W bt nodes last vw va ws as_)(oY:Bw W w){q:Nat}(hq:W.heap.size<=q){s:Bs}{b c:Int}
  (hv:qar s=true) (hd:qdm s<=4) (fL:(0<=a/\a<=1000)/\(0<=b/\b<=1000)/\(0<=c/\c<=1000)/\(0<=d/\d<=1000)/\(leaf=false->a=0/\b=0))
  (hp:qkx nodes q s leaf a b c d w w') :
  ∃τ' ar,(∀x,x<W.heap.size -> τ' x = τ x)/\(∀x,W.heap.size<=x -> τ' x=.free\/(τ' x).prog t)/\qb6 τ' t w' bt ar last vw va ws as_/\ar.map Node.ent=nodes.map Node.ent++[⟨qaa s,leaf,a,b,c,d⟩] /\
   Keep (fun x=>x<W.heap.size/\(τ x).prog t) W w'/\(∀n∈nodes,∃n'∈ar,n'.blk=n.blk/\n'.key=n.key):=by
 obtain⟨τ',ar,g1,g2,g3,g4,g5,g6,g7⟩:=h.pr.hung oY hq hv hd fL hp;obtain⟨l1,l2,l3⟩:=h.lts;obtain⟨r,hr,hb⟩:=h.bk;obtain⟨r',wR,bh⟩:=g3.tow
 refine⟨τ',ar,g1,g2,⟨g3,⟨r',wR,g3.ins,⟨bh,?_,?_,?_,hb.bk.sep,hb.bk.nd,hb.bk.inj,hb.bk.len⟩,fun p hp=>?_,hb.nm⟩,fun b e=>by rw[g1 b (l2 b e)];exact h.wtag b e,fun p hq=>by rw[g1 _ (l3 p hq)];exact h.ptag p hq⟩,g4,(Keep.refl _ W).qbo g5 (fun x hx e=>⟨hx,?_⟩),g6⟩
 ·exact qab hb.bk.wrow g5 (fun g hg e=>by have:=e.2.1;rw[h.wtag g (.inl hg)]at this;simp at this)
 ·exact qab hb.bk.arow g5 (fun g hg e=>by have:=e.2.1;rw[h.wtag g (.inr hg)]at this;simp at this)
 ·exact fun p hp=>(hb.bk.works p hp).keep g5 (fun e=>by have:=e.2.1;rw[h.ptag p hp]at this;simp at this)
 ·obtain⟨n,hn,e1,e2⟩:=hb.lf p hp;obtain⟨n',ez,f1,f2⟩:=g6 n hn
  exact⟨n',ez,f1.trans e1,f2.trans e2⟩
 ·obtain⟨_,e1,e2⟩:=e;generalize τ x=y at e1 e2;obtain⟨k,t',i⟩:=y
  simp only at e1 e2
  rcases e1 with e1|e1<;>subst e1<;>exact e2
theorem Rel.qvh{nodes:List Node}{Ws:List Wk}{ws as_:List Pw}(R:Rel nodes Ws ws as_)(h:∀n∈nodes,∃n'∈ar,n'.blk=n.blk/\n'.key=n.key):Rel ar Ws ws as_ :=
 ⟨R.w,R.a,fun p hp=>by
  obtain⟨n,hn,e1,e2⟩:=R.leaf p hp;obtain⟨n',ez,f1,f2⟩:=h n hn
  exact⟨n',ez,f1.trans e1,f2.trans e2⟩⟩
end
abbrev Tag.rwrk (t:Nat):Tag:=⟨5,t,1⟩
structure Tw where
 bt:Nat
 nodes:List Node
 last:Int
 vw:Value
 va:Value
 ws:List Pw
 as_:List Pw
 br:Nat
 g:Nat
 cap:Nat
 L:List Ent
 ao:Option Addr
 cW:Nat
 Ws:List Wk
 cnt:Int
 st:Int
variable {ay:List Tw}
def Tw.wv(x:Tw):Value:=.slice x.ao x.Ws.length x.cW
theorem GRef.keep{W W':World}{g:Nat}{Ws:List Wk}{st:Int}(h:GRef W br g cap L ao cW Ws cnt st)(hk:Keep T W W')(h1:¬T br)(h2:¬T g)(h3:∀b,(Value.slice ao Ws.length cW).ownBlock=some b->¬T b):GRef W' br g cap L ao cW Ws cnt st :=
 ⟨h.ref.keep hk h1 h2,qab h.wrow hk h3,h.ne1⟩
theorem GRef.lts{W:World}{g:Nat}{Ws:List Wk}{st:Int}(h:GRef W br g cap L ao cW Ws cnt st):br<W.heap.size/\g<W.heap.size/\∀b,(Value.slice ao Ws.length cW).ownBlock=some b->b<W.heap.size:=⟨h.ref.at_.lt,(h.ref.row.lt g rfl).2,fun b hb=>qal h.wrow hb⟩
structure TwS (τ : Nat->Tag) (W:World) (t:Nat) (x:Tw):Prop where
 P:qb6 τ t W x.bt x.nodes x.last x.vw x.va x.ws x.as_
 R:GRef W x.br x.g x.cap x.L x.ao x.cW x.Ws x.cnt x.st
 tr : τ x.br=.ref t
 tg : τ x.g=.rrow t
 tw:∀b,x.wv.ownBlock=some b -> τ b=.rwrk t
def qed (l:List Tw):List Value:=l.flatMap fun x=>[vP x.bt,vP x.br]
theorem qfs:∀(l:List Tw) (t:Nat) (x y:Tw),l[t]?=some x->y.bt=x.bt->y.br=x.br->qed (l.set t y)=qed l
 | [],_,_,_,h,_,_=>by simp at h
 |a::l,0,x,y,h,h1,h2=>by simp at h;subst h;simp[qed,h1,h2]
 |a::l,t+1,x,y,h,h1,h2=>by
  have ih:=qfs l t x y (by simpa using h) h1 h2;simp only[qed,xr7,List.flatMap_cons]at ih ⊢;rw[ih]
structure StAt (n₀ : Nat) (τ : Nat->Tag) (W:World) (bw:Nat) (ay:List Tw) (N:Nat) (cd bO cC bL cy:Value) (ns es:List Value) (ms me:List Int):Prop where
 law:qgh τ W bw cd bO cC bL cy ns es ms me
 n1:ns.length<=N
 n2:es.length<=N
 row:W.ownsRow 0 128 2 cd ay.length (qed ay)
 tT:∀g,cd.ownBlock=some g -> τ g=.lawT
 tw:∀(t:Nat) x,ay[t]?=some x->TwS τ W t x
 lo:∀b,b<n₀ -> τ b=.free
 le:n₀ <= W.heap.size
def St (n₀ : Nat)(τ : Nat->Tag)(W:World)(bw:Nat)(ay:List Tw)(N:Nat):Prop:=∃cd bO cC bL cy ns es ms me,StAt n₀ τ W bw ay N cd bO cC bL cy ns es ms me
theorem qb6.qve{τ τ':Nat->Tag}{t:Nat}{W:World}{bt:Nat}{nodes:List Node}{last:Int}{vw va:Value}{ws as_:List Pw}(h:qb6 τ t W bt nodes last vw va ws as_)(hτ : ∀b,b<W.heap.size -> τ b≠.free -> τ' b = τ b):qb6 τ' t W bt nodes last vw va ws as_:=by
 obtain⟨l1,l2,l3⟩:=h.lts;have key:∀b k,b<W.heap.size -> τ b=k->k.k≠0 -> τ' b=k:=fun b k hb hk h0=>by rw[hτ b hb (by rw[hk];intro e;rw[e]at h0;exact h0 rfl)];exact hk
 refine⟨⟨h.pr.tree,h.pr.ins,fun i n hi=>?_,h.pr.tow,key _ _ l1 h.pr.ttag (by simp),h.pr.binj⟩,h.bk,fun b hb=>key _ _ (l2 b hb) (h.wtag b hb) (by simp),fun p hp=>key _ _ (l3 p hp) (h.ptag p hp) (by simp)⟩
 obtain⟨t1,t2⟩:=h.pr.tags i n hi;have hn:=h.pr.ins n (xr2 hi)
 exact⟨key _ _ hn.lt t1 (by simp),fun g hg=>key _ _ (hn.row.lt g hg).2 (t2 g hg) (by simp)⟩
theorem TwS.qve{τ τ':Nat->Tag}{W:World}{t:Nat}{x:Tw}(h:TwS τ W t x)(hτ : ∀b,b<W.heap.size -> τ b≠.free -> τ' b = τ b):TwS τ' W t x:=by
 obtain⟨l1,l2,l3⟩:=h.R.lts;have key:∀b k,b<W.heap.size -> τ b=k->k.k≠0 -> τ' b=k:=fun b k hb hk h0=>by rw[hτ b hb (by rw[hk];intro e;rw[e]at h0;exact h0 rfl)];exact hk
 exact⟨h.P.qve hτ,h.R,key _ _ l1 h.tr (by simp),key _ _ l2 h.tg (by simp),fun b hb=>key _ _ (l3 b hb) (h.tw b hb) (by simp)⟩
theorem TwS.keep{τ τ':Nat->Tag}{W W':World}{t:Nat}{x:Tw}(h:TwS τ W t x)(hk:Keep T W W')(hT:∀b,b<W.heap.size->T b->¬(τ b).prog t/\¬(τ b).refs t)(hτ : ∀b,b<W.heap.size -> τ' b = τ b):TwS τ' W' t x:=by
 obtain⟨l1,l2,l3⟩:=h.R.lts;have gC:(τ x.br).refs t:=by rw[h.tr];rfl
 have lE:(τ x.g).refs t:=by rw[h.tg];rfl
 have gD:∀b,x.wv.ownBlock=some b->(τ b).refs t:=fun b hb=>by rw[h.tw b hb];rfl
 exact⟨h.P.keep hk (fun b hb aZ=>(hT b hb aZ).1) hτ,h.R.keep hk (fun hb=>(hT _ l1 hb).2 gC) (fun hb=>(hT _ l2 hb).2 lE) (fun b hb aZ=>(hT _ (l3 b hb) aZ).2 (gD b hb)),by rw[hτ _ l1];exact h.tr,by rw[hτ _ l2];exact h.tg,fun b hb=>by rw[hτ _ (l3 b hb)];exact h.tw b hb⟩
structure qbh (τ : Nat->Tag) (W:World) (τ':Nat->Tag) (w':World):Prop where
 old:∀b,b<W.heap.size -> τ' b = τ b
 keep:Keep (fun b=>b<W.heap.size /\ τ b≠.free) W w'
theorem qbh.trans{τ : Nat->Tag}{W:World}(h:qbh τ W τ1 W1)(k:qbh τ1 W1 τ2 W2):qbh τ W τ2 W2:=by
 have hs:=h.keep.size
 refine⟨fun b hb=>by rw[k.old b (by omega),h.old b hb],h.keep.step k.keep (fun b hb e=>⟨hb,?_⟩)⟩
 rw[h.old b hb]at e
 exact e.2
theorem qbh.below{τ : Nat->Tag}{W W':World}(hb:Bw W W'):qbh τ W (qde τ W.heap.size) W':=⟨fun b h=>qbx h,Keep.new hb⟩
theorem qbh.own{τ : Nat->Tag}{W:World}(h:qbh τ W τ1 W1)(k:OwnT τ1 W1 o τ2 W2)(ho:∀b,o=some b->W.heap.size<=b):qbh τ W τ2 W2:=by
 have hs:=h.keep.size
 refine⟨fun b hb=>by rw[k.old b (by omega) (fun e=>by have:=ho b e;omega),h.old b hb],h.keep.step k.keep (fun b hb e=>⟨hb,?_⟩)⟩
 obtain⟨_,e⟩:=e
 rcases e with e|e
 ·rw[h.old b hb]at e;intro e2;rw[e2]at e;exact e
 ·have:=ho b e;omega
theorem St.keep{τ τ':Nat->Tag}{W W':World}(h:St n₀ τ W bw ay N)(hk:Keep T W W')(hT:∀b,b<W.heap.size->T b -> τ b=.free)(hτ : ∀b,b<W.heap.size -> τ' b = τ b):St n₀ τ' W' bw ay N:=by
 obtain⟨cd,bO,cC,bL,cy,ns,es,ms,me,h⟩:=h
 refine⟨cd,bO,cC,bL,cy,ns,es,ms,me,⟨h.law.keep hk (fun b hb IG=>by rw[hT b hb IG];exact fun h=>h) hτ,h.n1,h.n2,?_,?_,?_,?_,Nat.le_trans h.le hk.size⟩⟩
 ·exact qab h.row hk (fun g hg sH=>by have:=hT g (qal h.row hg) sH;rw[h.tT g hg]at this;cases this)
 ·exact fun g hg=>by rw[hτ _ (qal h.row hg)];exact h.tT g hg
 ·exact fun t x hx=>(h.tw t x hx).keep hk (fun b hb wz=>by rw[hT b hb wz];exact⟨fun h=>h,fun h=>h⟩) hτ
 ·exact fun b hb=>by rw[hτ _ (xrg hb h.le)];exact h.lo b hb
theorem St.below{τ : Nat->Tag}{W W':World}(h:St n₀ τ W bw ay N)(hb:Bw W W'):St n₀ (qde τ W.heap.size) W' bw ay N :=
 h.keep (T:=fun _=>False) (Keep.new hb) (fun _ _ h=>h.elim) (fun b hb=>qbx hb)
theorem St.qxa{τ τ':Nat->Tag}{W:World}(h:St n₀ τ W bw ay N){t:Nat}{x:Tw}(hx:ay[t]?=some x) 
  (m1:∀b,b<W.heap.size -> τ' b = τ b) (m3:qb6 τ' t w' x.bt ar last' aQ aX bg aR) (m5:Keep (fun b=>b<W.heap.size/\(τ b).prog t) W w') :
  qbh τ W τ' w'/\St n₀ τ' w' bw (ay.set t {x with nodes:=ar,last:=last',vw:=aQ,va:=aX,ws:=bg,as_:=aR}) N:=by
 obtain⟨cd,bO,cC,bL,cy,ns,es,ms,me,h⟩:=h;have jC:=(xr0.1 hx).1
 refine⟨⟨m1,m5.mono (fun b hb=>⟨hb.1,fun e=>by have:=hb.2;rw[e]at this;exact this⟩)⟩,⟨cd,bO,cC,bL,cy,ns,es,ms,me,⟨h.law.keep m5 ?_ m1,h.n1,h.n2,?_,?_,?_,?_,Nat.le_trans h.le m5.size⟩⟩⟩
 ·intro b hb ⟨_,hp⟩ hl;have q1:=Tag.qcd hp;have q2:=Tag.qfj hl;omega
 ·rw[List.length_set,qfs ay t x {x with nodes:=ar,last:=last',vw:=aQ,va:=aX,ws:=bg,as_:=aR} hx rfl rfl]
  refine qab h.row m5 (fun g hg hp=>?_)
  have:=h.tT g hg
  have wM:=hp.2;rw[this]at wM;exact wM
 ·intro g hg;rw[m1 _ (qal h.row hg)];exact h.tT g hg
 ·intro t' x' lK
  by_cases e:t'=t
  ·subst e;rw[List.getElem?_set_self jC]at lK
   cases lK
   have hh:=h.tw t' x hx;obtain⟨l1,l2,l3⟩:=hh.R.lts
   refine⟨m3,hh.R.keep m5 ?_ ?_ ?_,by rw[m1 _ l1];exact hh.tr,by rw[m1 _ l2];exact hh.tg,fun b hb=>by rw[m1 _ (l3 b hb)];exact hh.tw b hb⟩
   ·rintro⟨_,hp⟩;rw[hh.tr]at hp;exact hp
   ·rintro⟨_,hp⟩;rw[hh.tg]at hp;exact hp
   ·rintro b hb ⟨_,hp⟩;rw[hh.tw b hb]at hp;exact hp
  ·rw[List.getElem?_set_ne (fun e2=>e e2.symm)]at lK
   refine(h.tw t' x' lK).keep m5 ?_ m1
   rintro b hb ⟨_,hp⟩
   constructor
   ·intro kI
    exact e ((Tag.qcd kI).2.symm.trans (Tag.qcd hp).2)
   ·intro kI;have q1:=Tag.qcd hp;have q2:=Tag.qcb kI;omega
 ·intro b hb;rw[m1 _ (xrg hb h.le)];exact h.lo b hb
open Classical in
theorem St.qwz{τ : Nat->Tag}{W:World}(h:St n₀ τ W bw ay N){t:Nat}{x:Tw}(hx:ay[t]?=some x)(hM:qdw W x.br x.g x.wv.ownBlock L' cnt' s sl w'):
  ∃τ' g' cap' fy hZ,qbh τ W τ' w'/\St n₀ τ' w' bw (ay.set t {x with g:=g',cap:=cap',L:=L',ao:=fy,cW:=hZ,Ws:=s.Ws,cnt:=cnt',st:=s.st}) N/\Keep (fun b=>b<W.heap.size/\(τ b).refs t) W w':=by
 obtain⟨cd,bO,cC,bL,cy,ns,es,ms,me,h⟩:=h;obtain⟨⟨g',cap',fy,hZ,r1,r3,r4⟩,r2,_,_⟩:=hM;have jC:=(xr0.1 hx).1;have hh:=h.tw t x hx;obtain⟨l1,l2,l3⟩:=hh.R.lts;obtain⟨τ',fV⟩:∃τ':Nat->Tag,τ'=fun b=>if b<W.heap.size then τ b else if b=g' then .rrow t else if (Value.slice fy s.Ws.length hZ).ownBlock=some b then .rwrk t else .free:=⟨_,rfl⟩
 have m1:∀b,b<W.heap.size -> τ' b = τ b:=fun b hb=>by rw[fV];simp[hb]
 have hT:∀b,b<W.heap.size->(b=x.br\/b=x.g\/x.wv.ownBlock=some b)->(τ b).refs t:=by
  rintro b hb (rfl|rfl|e)
  ·rw[hh.tr];rfl
  ·rw[hh.tg];rfl
  ·rw[hh.tw b e];rfl
 refine⟨τ',g',cap',fy,hZ,⟨m1,r2.qlj (fun b hb aZ=>⟨hb,fun e=>by have:=hT b hb aZ;rw[e]at this;exact this⟩)⟩,⟨cd,bO,cC,bL,cy,ns,es,ms,me,⟨h.law.keep r2 ?_ m1,h.n1,h.n2,?_,?_,?_,?_,Nat.le_trans h.le r2.size⟩⟩,r2.qlj (fun b hb aZ=>⟨hb,hT b hb aZ⟩)⟩
 ·intro b hb hp hl;have hp:=hT b hb hp;have q1:=Tag.qcb hp;have q2:=Tag.qfj hl;omega
 ·rw[List.length_set,qfs ay t x {x with g:=g',cap:=cap',L:=L',ao:=fy,cW:=hZ,Ws:=s.Ws,cnt:=cnt',st:=s.st} hx rfl rfl]
  refine qab h.row r2 (fun g hg hp=>?_)
  have:=hT g (qal h.row hg) hp
  rw[h.tT g hg]at this;exact this
 ·intro g hg;rw[m1 _ (qal h.row hg)];exact h.tT g hg
 ·intro t' x' lK
  by_cases e:t'=t
  ·subst e;rw[List.getElem?_set_self jC]at lK
   cases lK
   refine⟨hh.P.keep r2 ?_ m1,r1,by rw[m1 _ l1];exact hh.tr,?_,?_⟩
   ·intro b hb hp hq;have hp:=hT b hb hp;have q1:=Tag.qcb hp;have q2:=Tag.qcd hq;omega
   ·rcases r3 with e|kF
    ·show τ' g'=_
     rw[e,m1 _ l2];exact hh.tg
    ·show τ' g'=_
     rw[fV];simp[Nat.not_lt.2 kF]
   ·intro b hb
    rcases Nat.lt_or_ge b W.heap.size with ak|kF
    ·rw[m1 b ak];exact hh.tw b ((r4 b hb).1 ak)
    ·have aW:=(r1.ne1 b hb).2;rw[fV];simp only[Nat.not_lt.2 kF,if_false,if_neg aW]
     exact if_pos hb
  ·rw[List.getElem?_set_ne (fun e2=>e e2.symm)]at lK
   refine(h.tw t' x' lK).keep r2 ?_ m1
   intro b hb hp;have hp:=hT b hb hp
   constructor
   ·intro kI;have q1:=Tag.qcb hp;have q2:=Tag.qcd kI;omega
   ·intro kI
    exact e ((Tag.qcb kI).2.symm.trans (Tag.qcb hp).2)
 ·intro b hb;rw[m1 _ (xrg hb h.le)];exact h.lo b hb
theorem St.told{τ : Nat->Tag}{W:World}(h:StAt n₀ τ W bw ay N cd bO cC bL cy ns es ms me)(ho:∀b,o=some b -> τ b=.free/\n₀ <= b){e:Ending}(hM:qro τ W o bw cd M e w'):
  ∃τ',OwnT τ W o τ' w'/\St n₀ τ' w' bw ay M:=by
 obtain⟨_,τ',kj,ki,kg,kh,qI,qt,sd,r_,hO,hL,hn,he⟩:=hM;have hk:=hO.keep;have aW:∀b,τ b≠.free->o≠some b:=fun b hb e=>hb (ho b e).1
 refine⟨τ',hO,⟨cd,kj,ki,kg,kh,qI,qt,sd,r_,⟨hL,hn,he,?_,?_,?_,?_,Nat.le_trans h.le hk.size⟩⟩⟩
 ·exact qab h.row hk (fun g hg hp=>by
   have h2:=h.tT g hg
   rcases hp.2 with e|e
   ·rw[h2]at e;exact e
   ·rw[(ho g e).1]at h2;cases h2)
 ·intro g hg;have h2:=h.tT g hg;rw[hO.old _ (qal h.row hg) (aW g (by rw[h2];simp))];exact h2
 ·intro t x hx
  refine((h.tw t x hx).qve (τ' := τ') (fun b hb hf=>hO.old b hb (aW b hf))).keep hk ?_ (fun _ _=>rfl)
  rintro b hb ⟨_,hl⟩
  rcases hl with hl|hl
  ·have hf : τ b≠.free:=fun e=>by rw[e]at hl;exact hl
   rw[hO.old b hb (aW b hf)]
   constructor
   ·intro hp;have q1:=Tag.qcd hp;have q2:=Tag.qjw hl;omega
   ·intro hp;have q1:=Tag.qcb hp;have q2:=Tag.qjw hl;omega
  ·rcases hO.new b (.inr hl) with e|e
   ·rw[e];exact⟨fun h=>h,fun h=>h⟩
   ·constructor
    ·intro hp;have q1:=Tag.qcd hp;have q2:=Tag.qfj e;omega
    ·intro hp;have q1:=Tag.qcb hp;have q2:=Tag.qfj e;omega
 ·intro b hb;rw[hO.old _ (xrg hb h.le) (fun e=>by have:=(ho b e).2;omega)];exact h.lo b hb
def qiz (τ : Nat->Tag)(t:Nat)(W:World)(bt:Nat)(nodes:List Node)(last:Int)(Ws:List Wk)(st:Int)(err:Int)(x:Ent)(e:Ending)(w':World):Prop :=
 (err≠0/\e=.returned (.tuple #[v0_,vI err])/\Bw W w') \/
 (err=0/\∃τ' ar aQ aX bg aR ev,e=.returned (.tuple #[ev,vI 0])/\(∀b,b<W.heap.size -> τ' b = τ b)/\(∀b,W.heap.size<=b -> τ' b=.free\/(τ' b).prog t)/\qb6 τ' t w' bt ar last aQ aX bg aR /\
  ar.map Node.ent=nodes.map Node.ent++[x]/\Rel ar (qaj (nodes.map Node.ent++[x]) ⟨Ws,st,[]⟩).Ws bg aR/\w'.ownsRow 0 60 2 ev (qaj (nodes.map Node.ent++[x]) ⟨Ws,st,[]⟩).evs.length (qai (qaj (nodes.map Node.ent++[x]) ⟨Ws,st,[]⟩).evs)/\(∀b,ev.ownBlock=some b->W.heap.size<=b /\ τ' b=.free)/\Keep (fun b=>b<W.heap.size/\(τ b).prog t) W w')
def qkh (τ : Nat->Tag)(t:Nat)(W:World)(bt:Nat)(nodes:List Node)(last:Int)(vw va:Value)(ws as_:List Pw)(Ws:List Wk)(x:Ent)(w':World):Prop :=
 ∃τ' ar,(∀b,b<W.heap.size -> τ' b = τ b)/\(∀b,W.heap.size<=b -> τ' b=.free\/(τ' b).prog t)/\qb6 τ' t w' bt ar last vw va ws as_/\ar.map Node.ent=nodes.map Node.ent++[x]/\Rel ar Ws ws as_/\Keep (fun b=>b<W.heap.size/\(τ b).prog t) W w'
section
variable {τ : Nat->Tag}{t:Nat}{W:World}{bt:Nat}{nodes:List Node}{last:Int}{vw va:Value}{ws as_:List Pw}{Ws:List Wk}{st:Int}
theorem qeh{nodes:List Node}(T:Tree nodes)(h:nodes[0]?=some r):r∈nodes/\r.key=[]:=by
 obtain⟨r',h1,h2,_⟩:=T.root;rw[h]at h1;cases h1
 exact⟨xr2 h,h2⟩
theorem qlk{x:Ent}(h:qkh τ t W bt nodes last vw va ws as_ Ws x w1)(I:SInv ⟨Ws,st,[]⟩):
  Cl 51 #[vP bt,vI 0] w1 fun e w'=>qiz τ t W bt nodes last Ws st 0 x e w':=by
 obtain⟨τ1,iZ,g1,g2,g3,g4,g5,g6⟩:=h;obtain⟨r,hr,oc⟩:=g3.bk;obtain⟨gd,bK⟩:=qeh g3.pr.tree hr
 refine(qf6 g3.pr.tree g3.pr.qlc oc gd bK (s0:=⟨Ws,st,[]⟩) g5 I rfl).mono ?_
 rintro e w' ⟨ik,gR,eV,il,jj,rfl,m1,m2,m3,m4,m5,m6,m7⟩
 obtain⟨τ2,oy,qJ,jF,mY,k1,k2,k3,k4,k5,k6,k7⟩:=g3.set hr (last':=last) (ev:=eV) ⟨ik,gR,il,jj,m1,m2,m3,m4,m5,m6,fun p hp=>.inl (m7 p hp)⟩;have hz:=g6.size;rw[g4]at k4 k5
 refine .inr ⟨rfl,τ2,iZ,oy,qJ,jF,mY,eV,rfl,fun b hb=>(k1 b (by omega)).trans (g1 b hb),fun b hb=>?_,k3,g4,k4,k5,fun b hb=>⟨by have:=(k6 b hb).1;omega,(k6 b hb).2⟩,g6.qbo k7 (fun b hb e=>⟨hb,by have:=e.2;rw[g1 b hb]at this;exact this⟩)⟩
 by_cases aa:b<w1.heap.size
 ·rw[k1 b aa];exact g2 b hb
 ·exact k2 b (by omega)
theorem qv9(h:qb6 τ t W bt nodes last vw va ws as_)(R:Rel nodes Ws ws as_)(hW:Bw W w)(s:ByteArray)(hs:s.size<=2000000)(vb cp:Nat)(l:List (Int×Int))(hl:l.length<=100)(hb:vb<w.heap.size)
  (hc:∀(j:Nat) (x:Int×Int),l[j]?=some x->w.cell? (vA vb (j*2))=some (vI x.1)/\w.cell? (vA vb (j*2+1))=some (vI x.2))
  (q:Nat) (hq:W.heap.size<=q) (leaf:Bool) (a b c d:Int) (nh:Blk w q 136 #[.string ⟨#[]⟩,.bool leaf,vI a,vI b,vI c,vI d,.pointer none,v0_])
  (fL:qb3 l=true->(0<=a/\a<=1000)/\(0<=b/\b<=1000)/\(0<=c/\c<=1000)/\(0<=d/\d<=1000)/\(leaf=false->a=0/\b=0)) :
  Cl 52 #[vP bt,.string s,vP q,vS vb l.length cp] w fun e w'=>e=.returned (vI (qbc nodes (bl s) (qb3 l)))/\(qbc nodes (bl s) (qb3 l)≠0->Bw W w')/\(qbc nodes (bl s) (qb3 l)=0->qkh τ t W bt nodes last vw va ws as_ Ws ⟨qaa (bl s),leaf,a,b,c,d⟩ w')/\Keep (fun x=>x<W.heap.size\/x=q) w w':=by
 obtain⟨r,dN,oc⟩:=h.bk;obtain⟨hr,bK⟩:=qeh h.pr.tree dN;have bZ:w.cell? (vA bt 0)=some (nptr r.blk):=(oc.below hW).bk.at_.cell 0
 refine(qtu h.pr.tree w (fun n hn=>(h.pr.ins n hn).below hW) hr bK bt bZ s hs vb cp l hl hb hc q leaf a b c d nh (fun n hn=>?_)).mono ?_
 ·obtain⟨i,hi⟩:=xre hn;obtain⟨t1,t2⟩:=h.pr.tags i n hi
  refine⟨fun e=>by have:=(h.pr.ins n hn).lt;omega,fun e=>by have:=((h.pr.ins n hn).row.lt _ e).2;omega,fun e=>by have:=t2 _ e;rw[t1]at this;cases this⟩
 ·rintro e w' (⟨h1,rfl,cn⟩|⟨h1,rfl,hp⟩)
  ·exact⟨rfl,fun _=>qac hW cn,fun e=>absurd e h1,Keep.new cn⟩
  ·obtain⟨hv,h0,ec,hd,_⟩:=qic h1;obtain⟨τ',ar,g1,g2,g3,g4,g5,g6⟩:=h.hung hW hq hv hd (fL ec) hp
   refine⟨by rw[h1],fun e=>absurd h1 e,fun _=>⟨τ',ar,g1,g2,g3,g4,R.qvh g6,g5⟩,?_⟩
   obtain⟨p,nm,ks,at_,sl,h3,_,_,_,_,h2⟩:=hp.ex
   refine h2.keep.mono (fun x hx=>?_)
   have hn:=h.pr.ins p h3
   rcases hx with rfl|rfl|e
   ·exact .inl hn.lt
   ·exact .inr rfl
   ·exact .inl (hn.row.lt _ e).2
end
theorem qiz.ret{τ : Nat->Tag}{t:Nat}{W:World}{bt:Nat}{nodes:List Node}{last:Int}{Ws:List Wk}{st:Int}{x:Ent}{e:Ending}(h:qiz τ t W bt nodes last Ws st 0 x e w'):∃ev,e=.returned (.tuple #[ev,vI 0]):=by
 rcases h with ⟨h,_⟩|⟨_,_,_,_,_,_,_,ev,h,_⟩
 ·exact absurd rfl h
 ·exact⟨ev,h⟩
theorem qvm{τ : Nat->Tag}{t:Nat}{W:World}{bt:Nat}{nodes:List Node}{last:Int}{vw va:Value}{ws as_:List Pw}{Ws:List Wk}{st:Int}(h:qb6 τ t W bt nodes last vw va ws as_)(R:Rel nodes Ws ws as_)(I:SInv ⟨Ws,st,[]⟩)(s:ByteArray)(hs:s.size<=2000000)(c d:Int):
  Cl 27 #[vP bt,.string s,.agg #[vI c,vI d]] W
   (qiz τ t W bt nodes last Ws st (qbc nodes (bl s) (qb3 [(c,d)])) ⟨qaa (bl s),false,0,0,c,d⟩):=by
 have cm:∀W',Bw W W'->∀q vb,W.heap.size<=q->Blk W' q 136 #[.string ⟨#[]⟩,.bool false,vI 0,vI 0,vI c,vI d,.pointer none,v0_]->Blk W' vb 35 #[vI c,vI d] ->
   Cl 52 #[vP bt,.string s,vP q,vS vb 1 1] W' fun e w'=>e=.returned (vI (qbc nodes (bl s) (qb3 [(c,d)])))/\(qbc nodes (bl s) (qb3 [(c,d)])≠0->Bw W w')/\(qbc nodes (bl s) (qb3 [(c,d)])=0->qkh τ t W bt nodes last vw va ws as_ Ws ⟨qaa (bl s),false,0,0,c,d⟩ w')/\Keep (fun x=>x<W.heap.size\/x=q) W' w':=by
  intro W' hW q vb hq nh kT
  refine qv9 h R hW s hs vb 1 [(c,d)] (by simp) kT.lt (fun j x hx=>?_) q hq false 0 0 c d nh (fun ec=>by simp[qb3,qao]at ec;exact⟨by omega,by omega,by omega,by omega,fun _=>⟨rfl,rfl⟩⟩)
  cases j with
  |zero=>simp at hx;subst hx;have c0:=kT.cell 0;have c1:=kT.cell 1;simp at c0 c1;exact⟨c0,c1⟩
  |succ j=>simp at hx
 have fX:=fun w1 (h1:qkh τ t W bt nodes last vw va ws as_ Ws ⟨qaa (bl s),false,0,0,c,d⟩ w1)=>(qlk (st:=st) h1 I).mono (R':=fun e w'=>∃ev,e=.returned (.tuple #[ev,vI 0])/\qiz τ t W bt nodes last Ws st 0 ⟨qaa (bl s),false,0,0,c,d⟩ (.returned (.tuple #[ev,vI 0])) w') (fun e w' hm=>by obtain⟨ev,rfl⟩:=hm.ret;exact⟨ev,rfl,hm⟩)
 generalize (⟨qaa (bl s),false,0,0,c,d⟩:Ent)=X at *;generalize qbc nodes (bl s) (qb3 [(c,d)])=E at cm ⊢;have dx:=h.lts.1;clear h R I
 by_cases hE:E=0
 ·subst hE;simp only[ne_eq,not_true_eq_false,false_implies,true_and,forall_const]at cm;generalize qkh τ t W bt nodes last vw va ws as_ Ws X=HU at cm fX;generalize qiz τ t W bt nodes last Ws st 0 X=MA at fX ⊢
  go_enter func27,ntmps27
  go_wp2
  go_region_with (first
   |(go_at_call 54;refine(qee _ _ _).mono ?_;rintro e w1 ⟨rfl,bX⟩;subst bX)
   |(go_at_call 52;refine Calls.mono (cm _ ?_ _ _ ?_ ?_ ?_) ?_;(focus exact bel1);(focus (first|omega|(simp<;>omega)));(focus exact blk1);(focus exact blk1);rintro e w3 ⟨rfl,hM,h_⟩)
   |(go_at_call 51;refine(fX _ hM).mono ?_;rintro e w4 ⟨ev,rfl,xT⟩))
  all_goals go_wp2
  all_goals exact xrn (v:=.tuple #[ev,vI 0]) (by simp[results,results27,go_sem]) rfl xT
 ·have uk:∀W',Bw W W'->∀q vb,W.heap.size<=q->Blk W' q 136 #[.string ⟨#[]⟩,.bool false,vI 0,vI 0,vI c,vI d,.pointer none,v0_]->Blk W' vb 35 #[vI c,vI d] ->
    Cl 52 #[vP bt,.string s,vP q,vS vb 1 1] W' fun e w'=>e=.returned (vI E)/\Bw W w':=fun W' h1 q vb h2 h3 h4=>(cm W' h1 q vb h2 h3 h4).mono (fun e w' hm=>⟨hm.1,hm.2.1 hE⟩)
  have gI:=fun w=>qgg (w:=w) (bt:=bt) hE
  clear cm fX
  go_enter func27,ntmps27
  go_wp2
  go_region_with (first
   |(go_at_call 54;refine(qee _ _ _).mono ?_;rintro e w1 ⟨rfl,bX⟩;subst bX)
   |(go_at_call 52;refine Calls.mono (uk _ ?_ _ _ ?_ ?_ ?_) ?_;(focus exact bel1);(focus (first|omega|(simp<;>omega)));(focus exact blk1);(focus exact blk1);rintro e w3 ⟨rfl,hM⟩)
   |(go_at_call 51;refine(gI _).mono ?_;rintro e w4 ⟨rfl,fQ⟩;subst fQ))
  all_goals go_wp2
  all_goals exact xrn (v:=.tuple #[v0_,vI E]) (by simp[results,results27,go_sem]) rfl (.inl ⟨hE,rfl,by exact bel2⟩)
end Go.Proofs.YtphclnolomgjoaaGreatDoor
