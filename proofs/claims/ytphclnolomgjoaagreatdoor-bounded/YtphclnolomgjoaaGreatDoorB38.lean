import Derived.Test.YtphclnolomgjoaaGreatDoorB37
import Derived.Test.YtphclnolomgjoaaGreatDoorB32
set_option linter.unusedVariables false
set_option linter.unusedSimpArgs false
set_option maxRecDepth 100000
set_option maxHeartbeats 4000000
namespace Go.Proofs.YtphclnolomgjoaaGreatDoor
open Go.Proofs.Tryz
section
open Go.ChangeShapes Go.WideShapes Go.ChangeAt Go.RowKit
variable {fuel:Nat}{cs:List Value}{v:Value}{P:Program}
theorem qk4:prog.cellsOf 32=4:=by kernel_rfl
section
variable {H:Type}{enc:TypeId×Value->H}{w:World}{base:Nat}{gA:Nat->Bool}{jG:Bool}
theorem wf64{n:Int}(h:Lit.wf (.int .i64 n)=true):I64 n:=by
 simp only[Lit.wf,Bool.and_eq_true,decide_eq_true_eq]at h;rw[show IntKind.i64.min = -9223372036854775808 by decide,show IntKind.i64.max=9223372036854775807 by decide]at h
 exact h
theorem open_int{x:DataW H×List MemPlace}(h:DataW.trod enc prog w base gA jG fuel 3 cs=some x):∃n,cs=[.int .i64 n]/\I64 n:=by
 obtain⟨n,e,_,wt⟩:=DataW.trod_int underlying3 h
 exact⟨n,e,wf64 wt⟩
theorem open_ints{d:DataW H}{ps:List MemPlace}(h:DataW.trod enc prog w 0 gA jG fuel 25 v.cells.toList=some (d,ps))(hv:v.cells.toList=[v]):
  ∃ao len cap q,v=.slice ao len cap/\len<=cap/\cap<=maxLen/\QIn w ao len q:=by
 rw[hv]at h
 rcases Deep.open_slice underlying25 h with ⟨hc,hx⟩|⟨a,len,cap,m,n,D,Pl,hc,_,hl,hm,nc,hx,wa⟩
 ·simp at hc hx
  exact⟨none,0,0,fun _=>0,hc,Nat.le_refl _,Nat.zero_le _,fun i hi=>by omega⟩
 ·have Ca:len<=m:=by rw[nc];split<;>omega
  obtain⟨q,hq⟩:=Deep.choose_lt (α := Int) (n:=len) (p:=fun i o=>w.cell? (a.add (i*1+0))=some (.int .i64 o)/\I64 o) (fun i hi=>by
   obtain⟨AA,h1,h2⟩:=wa i (by omega);rw[qo4]at h1;obtain⟨_,a9,cQ⟩:=World.cells?_some h1;obtain⟨o,rfl,ho⟩:=open_int h2
   refine⟨o,?_,ho⟩
   have:=cQ 0 (by omega)
   rw[Deep.add_add]at this;rw[this];rfl)
  refine⟨some a,len,cap,q,by simpa using hc,hl,hm,fun i hi=>?_⟩
  have h0:=(hq 0 (by omega)).1;have iH:=World.cell?_spot h0;have de:a.block<w.heap.size:=by
   rcases Nat.lt_or_ge a.block w.heap.size with h|h
   ·exact h
   ·rw[World.cell?]at h0;simp[Addr.add,Array.getElem?_eq_none h]at h0
  obtain⟨b,dP,sp⟩:=a
  simp[Addr.add]at iH
  subst iH;have hh:=(hq i hi).1;rw[Addr.add_lit]at hh
  refine⟨b,dP,rfl,de,?_,(hq i hi).2⟩
  simpa using hh
theorem qtj{fs:Array Field}(Dw:P.underlying 32=some (.struct fs))(nM:(fs.map fun f=>(f.type,f.offset))=#[(3,0),(3,1),(3,2),(3,3)])(u3:P.underlying 3=some (.int .i64))(qk4:P.cellsOf 32=4)(qo4:P.cellsOf 3=1){x:DataW H×List MemPlace}(h:DataW.trod enc P w base gA jG fuel 32 cs=some x):
  ∃o:Stp,cs=[.int .i64 o.k,.int .i64 o.a,.int .i64 o.b,.int .i64 o.c]/\I64 o.k/\I64 o.a/\I64 o.b/\I64 o.c:=by
 obtain⟨xs,k,rfl,rfl,hl,hx,hf⟩:=DataW.trod_struct Dw h;rw[qk4]at hl;have cY:fs.size=4:=by have:=congrArg Array.size nM;simpa using this
 rw[cY]at hx;have kV:∀(i:Nat) (t dP:Nat),(#[(3,0),(3,1),(3,2),(3,3)]:Array (Nat×Nat))[i]?=some (t,dP)->DataW.trod enc P w base gA jG k t ((cs.drop dP).take (P.cellsOf t))=xs[i]?:=fun i t dP hi=>by
  rw[<-nM,Array.getElem?_map]at hi;obtain⟨f,h1,h2⟩:=Option.map_eq_some_iff.1 hi;simp only[Prod.mk.injEq]at h2;rw[<-h2.1,<- h2.2]
  exact hf i f h1
 match cs,hl,xs,hx with
 | [v0,v1,v2,v3],_,[y0,y1,y2,y3],_ =>
  have g0:=kV 0 _ _ rfl;have g1:=kV 1 _ _ rfl;have g2:=kV 2 _ _ rfl;have g3:=kV 3 _ _ rfl
  simp[qo4]at g0 g1 g2 g3
  obtain⟨k0,e0,_,w0⟩:=DataW.trod_int u3 g0;obtain⟨k1,e1,_,w1⟩:=DataW.trod_int u3 g1;obtain⟨k2,e2,_,w2⟩:=DataW.trod_int u3 g2;obtain⟨k3,e3,_,w3⟩:=DataW.trod_int u3 g3
  simp at e0 e1 e2 e3
  subst e0 e1 e2 e3
  exact⟨⟨k0,k1,k2,k3⟩,rfl,wf64 w0,wf64 w1,wf64 w2,wf64 w3⟩
theorem qq9{d:DataW H}{ps:List MemPlace}(h:DataW.trod enc prog w 0 gA jG fuel 26 v.cells.toList=some (d,ps))(hv:v.cells.toList=[v]):
  ∃ao len cap S,v=.slice ao len cap/\len<=cap/\cap<=maxLen/\StIn w ao len S:=by
 rw[hv]at h
 rcases Deep.open_slice underlying26 h with ⟨hc,hx⟩|⟨a,len,cap,m,n,D,Pl,hc,_,hl,hm,nc,hx,wa⟩
 ·simp at hc hx
  exact⟨none,0,0,fun _=>⟨0,0,0,0⟩,hc,Nat.le_refl _,Nat.zero_le _,fun i hi=>by omega⟩
 ·have Ca:len<=m:=by rw[nc];split<;>omega
  have:Inhabited Stp:=⟨⟨0,0,0,0⟩⟩
  obtain⟨S,hS⟩:=Deep.choose_lt (α := Stp) (n:=len) (p:=fun i o=>(w.cell? (a.add (i*4+0))=some (.int .i64 o.k)/\w.cell? (a.add (i*4+1))=some (.int .i64 o.a)/\w.cell? (a.add (i*4+2))=some (.int .i64 o.b)/\w.cell? (a.add (i*4+3))=some (.int .i64 o.c))/\I64 o.k/\I64 o.a/\I64 o.b/\I64 o.c) (fun i hi=>by
   obtain⟨AA,h1,h2⟩:=wa i (by omega);rw[qk4]at h1;obtain⟨_,a9,cQ⟩:=World.cells?_some h1;obtain⟨o,rfl,ho⟩:=qtj underlying32 (by kernel_rfl) underlying3 qk4 qo4 h2;have hc:∀j,j<4->w.cell? (a.add (i*4+j))=[Value.int .i64 o.k,.int .i64 o.a,.int .i64 o.b,.int .i64 o.c][j]?:=fun j hj=>by
    have:=cQ j hj
    rw[Deep.add_add]at this
    exact this
   exact⟨o,⟨hc 0 (by omega),hc 1 (by omega),hc 2 (by omega),hc 3 (by omega)⟩,ho⟩)
  refine⟨some a,len,cap,S,by simpa using hc,hl,hm,fun i hi=>?_⟩
  have h0:=(hS 0 (by omega)).1.1;have iH:=World.cell?_spot h0;have de:a.block<w.heap.size:=by
   rcases Nat.lt_or_ge a.block w.heap.size with h|h
   ·exact h
   ·rw[World.cell?]at h0;simp[Addr.add,Array.getElem?_eq_none h]at h0
  obtain⟨b,dP,sp⟩:=a
  simp[Addr.add]at iH
  subst iH;have hh:=(hS i hi).1;simp only[Addr.add_lit]at hh
  exact⟨b,dP,rfl,de,by simpa using hh.1,hh.2.1,hh.2.2.1,hh.2.2.2,(hS i hi).2⟩
end
end
section
open Go.RowKit
variable {cq i k lq ls:Nat}{wr:World}{aq:Option Addr}
section
variable {F:Nat->Prop}{W:World}{rb:Nat}{R:KR}{n:Nat}
theorem qox(l:List Wk)(x:Wk)(s:Bs):ws0 (qae (l++[x]) s)=ws0 (qae l s)+(if decide (0<x.st)&&inB (qaa x.key) s then x.d0 else 0)/\ws1 (qae (l++[x]) s)=ws1 (qae l s)+(if decide (0<x.st)&&inB (qaa x.key) s then x.d1 else 0):=by
 unfold qae ws0 ws1;rw[List.filter_append]
 cases h:(decide (0<x.st)&&inB (qaa x.key) s)<;>simp[h]
def useK (R:KR)(s:Bs)(k:Nat):Int×Int:=(ws0 (qae ((R.works.take k).map (KW.wk R.paths)) s),ws1 (qae ((R.works.take k).map (KW.wk R.paths)) s))
theorem qpu(I:RunI n R)(s:Bs):(useK R s R.works.length).1=ws0 (qae R.k.Ws s)/\(useK R s R.works.length).2=ws1 (qae R.k.Ws s):=by
 unfold useK;rw[List.take_length]
 exact⟨qe8 (qdb I.perm s),qe9 (qdb I.perm s)⟩
theorem qun(I:RunI n R)(s:Bs){x:KW}(hx:R.works[k]?=some x){p:List Bs}(hp:R.paths[x.leaf]?=some p):
  (useK R s (k+1)).1=(useK R s k).1+(if inB (qaa p) s&&x.inn then x.d0 else 0)/\(useK R s (k+1)).2=(useK R s k).2+(if inB (qaa p) s&&x.inn then x.d1 else 0):=by
 have ak:=(xr0.1 hx).1;have ht:R.works.take (k+1)=R.works.take k++[x]:=by
  rw[xrf ak];rw[xr1 ak]at hx;cases hx;rfl
 have cJ:decide (0<(KW.wk R.paths x).st)=x.inn:=by
  unfold KW.wk
  cases hi:x.inn
  ·simp
  ·have:=I.pos x (xr2 hx) hi
   simp[this]
 have B_:(KW.wk R.paths x).key=p:=by
  unfold KW.wk
  simp[List.getD,hp]
 unfold useK;rw[ht,List.map_append]
 have:=qox ((R.works.take k).map (KW.wk R.paths)) (KW.wk R.paths x) s
 rw[cJ,B_,Bool.and_comm]at this
 exact this
theorem qyb{nodes:List Node}(K:KInv nodes R.k)(I:RunI n R)(s:Bs)(k:Nat):(0<=(useK R s k).1/\(useK R s k).1<=24000)/\(0<=(useK R s k).2/\(useK R s k).2<=24000):=by
 have af:∀e∈qae ((R.works.take k).map (KW.wk R.paths)) s,e∈R.k.Ws:=fun e he=>by
  obtain⟨w,hw,rfl⟩:=xrq.1 (xrr.1 he).1
  exact I.perm.mem_iff.1 (xrj (List.mem_of_mem_take hw))
 have a9:(qae ((R.works.take k).map (KW.wk R.paths)) s).length<=24:=by
  refine Nat.le_trans (xrh _ _) ?_
  have:=I.wlen
  have pG:R.k.Ws.length<=24:=K.inv.wks.wks.len
  simp;omega
 have s0:=qur _ (fun e he=>(K.inv.wks.wks.num e (af e he)).1);have s1:=qus _ (fun e he=>(K.inv.wks.wks.num e (af e he)).2);unfold useK
 simp only
 omega
theorem qzj(h:qau F W rb R)(I:RunI n R)(s:ByteArray)(hs:s.size<=2000000):
  Calls prog 45 #[.pointer (some ⟨rb,0,none⟩),.string s] W fun e w'=>e=.returned (.agg #[.int .i64 (ws0 (qae R.k.Ws (bl s))),.int .i64 (ws1 (qae R.k.Ws (bl s)))])/\Below W.heap.size W w':=by
 obtain⟨nodes,K⟩:=h.kinv;have lJ:R.works.length<=24:=by rw[I.wlen];exact K.inv.wks.wks.len
 obtain⟨P,bt,vp,vw,vl,h⟩:=h;have HA:Hid (∀e w',e=Ending.returned (.agg #[.int .i64 (useK R (bl s) R.works.length).1,.int .i64 (useK R (bl s) R.works.length).2])->Below W.heap.size W w'->e=.returned (.agg #[.int .i64 (ws0 (qae R.k.Ws (bl s))),.int .i64 (ws1 (qae R.k.Ws (bl s)))])/\Below W.heap.size W w'):=fun e w' h1 h2=>by
  rw[(qpu I (bl s)).1,(qpu I (bl s)).2]at h1
  exact⟨h1,h2⟩
 have HK:Hid (∀wr,Below W.heap.size W wr->∀k,k<R.works.length->∃(g c gp cp lf np:Nat) (d0 d1:Int) (inn is:Bool) (e_:ByteArray),vw=.slice (some ⟨g,0,none⟩) R.works.length c/\vp=.slice (some ⟨gp,0,none⟩) np cp/\(g<W.heap.size/\gp<W.heap.size/\R.works.length<=c/\c<=maxLen/\lf<np/\np<=cp/\cp<=maxLen)/\wr.cell? ⟨g,k*6+1,none⟩=some (.int .i64 lf)/\wr.cell? ⟨g,k*6+2,none⟩=some (.int .i64 d0)/\wr.cell? ⟨g,k*6+3,none⟩=some (.int .i64 d1)/\wr.cell? ⟨g,k*6+4,none⟩=some (.bool inn)/\wr.cell? ⟨gp,lf,none⟩=some (.string e_)/\(∀w,Calls prog 35 #[.string e_,.string s] w fun e w'=>e=.returned (.bool is)/\w'=w)/\((0<=d0/\d0<=1000)/\(0<=d1/\d1<=1000))/\Hid ((useK R (bl s) (k+1)).1=(useK R (bl s) k).1+(if is&&inn then d0 else 0)/\(useK R (bl s) (k+1)).2=(useK R (bl s) k).2+(if is&&inn then d1 else 0))):=by
  intro wr hb k hk;obtain⟨x,hx⟩:∃x,R.works[k]?=some x:=⟨_,xr1 hk⟩;have cm:=xr2 hx;have ie:=I.idx x cm;obtain⟨p,hp⟩:∃p,R.paths[x.leaf]?=some p:=⟨_,xr1 (by rw[I.len];omega)⟩;obtain⟨gp,cp,cu,bK,eL,b_,cO,q0⟩:=h.path hp;obtain⟨g,c,cV,hg,wu,cS,fl,p0,p1,p2,p3,p4,p5⟩:=h.tk.cells hx;have cN:=fun (a:Nat)=>hb.cell (p:=⟨g,a,none⟩) hg
  have bD:=fun w=>qph (sb (qaa p)) s w (I.small K hp) hs
  rw[qbs]at bD
  exact⟨g,c,gp,cp,x.leaf,R.paths.length,x.d0,x.d1,x.inn,_,_,cV,cu,⟨hg,bK,cS,fl,by rw[I.len];omega,b_,cO⟩,(cN _).trans p1,(cN _).trans p2,(cN _).trans p3,(cN _).trans p4,(hb.cell (p:=⟨gp,x.leaf,none⟩) bK).trans q0,bD,K.inv.wks.wks.num (x.wk R.paths) (I.perm.mem_iff.1 (xrj cm)),qun I (bl s) hx hp⟩
 have kO:=qyb K I (bl s);have h0:useK R (bl s) 0=(0,0):=by simp[useK,qae,ws0,ws1]
 have c1:=h.at_.cell 1;have c2:=h.at_.cell 2;simp only[xq0,xq1,xq2]at c1 c2;obtain⟨aw,cw,cV,fX,jE⟩:=qa7 h.wrow;rw[cV]at c2 HK;have jV:=h.at_.lt;clear h I K;obtain⟨u,hu⟩:∃u,u=useK R (bl s):=⟨_,rfl⟩;rw[<-hu]at HA HK kO h0;clear hu;generalize R.works.length=nv at *
 go_enter func45,ntmps45
 go_wp2
 go_loopw [6] (fun i wr=>∃k:Nat,k<=nv/\i=.int .i64 k/\Below W.heap.size W wr/\Blk wr W.heap.size 35 #[.int .i64 0,.int .i64 0]/\Blk wr (W.heap.size+1) 35 #[.int .i64 (u k).1,.int .i64 (u k).2])
  (fun i _=>nv-(intOf i).toNat)
 case atStart=>exact⟨0,Nat.zero_le _,rfl,by exact bel2,by exact blk2,by rw[h0];refine Blk.new' ?_;simp⟩
 case round =>
  obtain⟨k,hk,rfl,ah,bf,bE⟩:=hrel;have r1:=(ah.cell (p:=⟨rb,1,none⟩) jV).trans c1;have r2:=(ah.cell (p:=⟨rb,2,none⟩) jV).trans c2;have im:=kO k
  by_cases ak:k<nv
  ·obtain⟨g,c,gp,cp,lf,np,d0,d1,inn,is,e_,e1,e2,⟨l1,l2,l3,l4,l5,l6,l7⟩,p1,p2,p3,p4,q0,bD,hd,wX⟩:=HK.out wr ah k ak;injection e1 with e1 _ e3;subst e1 e2 e3;have ja:(k:Int)<nv:=by omega
   have eM:(0:Int)<=k:=by omega
   have fF:(lf:Int)<np:=by omega
   have jJ:(0:Int)<=lf:=by omega
   have y0:=bE.cell 0;have y1:=bE.cell 1;have f0:=bE.frozen 0;have f1:=bE.frozen 1;simp only[xq0,xq1,xq2]at y0 y1;have eQ:¬(g=W.heap.size+1):=fun e=>by omega
   have Eo:¬(rb=W.heap.size+1):=fun e=>by omega
   have tp:Hid (Blk wr (W.heap.size+1) 35 #[.int .i64 (u k).1,.int .i64 (u k).2]):=bE;have HU:Hid (∀w,Blk w (W.heap.size+1) 35 #[.int .i64 ((u k).1+(if is&&inn then d0 else 0)),.int .i64 ((u k).2+(if is&&inn then d1 else 0))]->Blk w (W.heap.size+1) 35 #[.int .i64 (u (k+1)).1,.int .i64 (u (k+1)).2]):=fun w hw=>by
    rw[wX.out.1,wX.out.2];exact hw
   clear bE wX HK HA;generalize (u k).1=e0 at *;generalize (u k).2=e1 at *
   cases is<;>cases inn
   all_goals
    go_upto_region 5 with fail
    go_quiet ((go_at_call 35;exact Calls.quiet_of_same (bD _)))
    clear bD
    go_wp2_with fail
   ·refine⟨⟨k+1,by omega,by go_num,xrm ah _,bf.drewN _,HU.out _ ?_⟩,by simp[intOf];omega⟩
    simpa using tp.out.drewN nq
   ·refine⟨⟨k+1,by omega,by go_num,xrm ah _,bf.drewN _,HU.out _ ?_⟩,by simp[intOf];omega⟩
    simpa using tp.out.drewN nq
   ·refine⟨⟨k+1,by omega,by go_num,xrm ah _,bf.drewN _,HU.out _ ?_⟩,by simp[intOf];omega⟩
    simpa using tp.out.drewN nq
   ·go_region
    go_wp2_with fail
    go_region
    go_wp2_with fail
    refine⟨⟨k+1,by omega,by go_num,(((xrm ah _).setCell (by simp) _).setCell (by simp) _).drew,(((bf.drewN _).other _ _ (by simp)).other _ _ (by simp)).drew,HU.out _ ?_⟩,by simp[intOf];omega⟩
    have:=(((tp.out.drewN (nq+1)).set 0 (.int .i64 (e0+d0))).set 1 (.int .i64 (e1+d1))).drew
    simpa using this
  ·have gr:k=nv:=by omega
   subst gr;have ja:¬((k:Int)<k):=by omega
   have y0:=bE.cell 0;have y1:=bE.cell 1;have z0:=bf.frozen 0;have z1:=bf.frozen 1;have z2:=bf.cell 0;have z3:=bf.cell 1;simp only[xq0,xq1,xq2]at y0 y1 z2 z3
   go_wp2_with fail
   have oz:=(bf.set 0 (.int .i64 (u k).1)).set 1 (.int .i64 (u k).2);have kR:=oz.cell
   refine xrn (v:=.agg #[.int .i64 (u k).1,.int .i64 (u k).2]) ?_ rfl (HA.out _ _ rfl (by exact bel2))
   simp[results,results45,go_sem,kR]
end
section
variable {F:Nat->Prop}{W w':World}{rb:Nat}{R:KR}
theorem qn6(h:qau F W rb R){x:Ent}(hx:qeq R.k.L []=some x)(nA:x.key=[]):
  Calls prog 19 #[.pointer (some ⟨rb,0,none⟩),.int .i64 (-1)] W (qpz R x W):=by
 obtain⟨P,bt,vp,vw,vl,h⟩:=h;have jR:sb (qaa [])=(⟨#[]⟩:ByteArray):=rfl;have nh:bl (⟨#[]⟩:ByteArray)=[]:=rfl;have aJ:∀Wx,Below W.heap.size W Wx->Calls prog 34 #[.pointer (some ⟨bt,0,none⟩),.string (⟨#[]⟩)] Wx fun e w1=>∃a1 c1,e=.returned (.tuple #[.agg #[.string (⟨#[]⟩),.bool x.leaf,.int .i64 (es0 (qai R.k.L (qaa x.key))),.int .i64 (es1 (qai R.k.L (qaa x.key))),.int .i64 x.b0,.int .i64 x.b1,.int .i64 (ws0 (qae R.k.Ws (qaa x.key))),.int .i64 (ws1 (qae R.k.Ws (qaa x.key))),.slice a1 (R.k.waits x).length c1],.int .i64 0])/\Below Wx.heap.size Wx w1/\Hid (w1.ownsRow 0 3 1 (.slice a1 (R.k.waits x).length c1) (R.k.waits x).length (qjb (R.k.waits x))/\∀b,(Value.slice a1 (R.k.waits x).length c1).ownBlock=some b->Wx.heap.size<=b):=fun Wx hb=>by
  have n9:qeq R.k.L (qac (bl (⟨#[]⟩:ByteArray)))=some x:=hx
  refine(qn5 (h.below hb).tw ⟨#[]⟩ (by decide) rfl n9).mono ?_
  rintro e w1 ⟨v,rfl,g1,g2,g3⟩
  obtain⟨a1,c1,rfl,_,_⟩:=qa7 g1
  refine⟨a1,c1,?_,g2,g1,g3⟩
  unfold KS.told;rw[nA,jR]
 have HQ:Hid (∀(e:Ending) (w':World) (a1:Option Addr) (c1:Nat),e=.returned (.tuple #[.agg #[.string (⟨#[]⟩),.bool x.leaf,.int .i64 (es0 (qai R.k.L (qaa x.key))),.int .i64 (es1 (qai R.k.L (qaa x.key))),.int .i64 x.b0,.int .i64 x.b1,.int .i64 (ws0 (qae R.k.Ws (qaa x.key))),.int .i64 (ws1 (qae R.k.Ws (qaa x.key))),.slice a1 (R.k.waits x).length c1],.bool true])->w'.ownsRow 0 3 1 (.slice a1 (R.k.waits x).length c1) (R.k.waits x).length (qjb (R.k.waits x))->Below W.heap.size W w'->(∀b,(Value.slice a1 (R.k.waits x).length c1).ownBlock=some b->W.heap.size<=b)->qpz R x W e w'):=fun e w' a1 c1 he h1 h2 h3=>⟨_,by rw[he];unfold KS.told;rw[nA,jR],h1,h2,h3⟩
 have c0:=h.at_.cell 0;simp only[xq0,xq1,xq2]at c0;have jV:=h.at_.lt;have sV:=World.new_ne W _ c0;have b0:Blk (W.alloc (.cells #[.string ⟨#[]⟩,.bool false,.int .i64 0,.int .i64 0,.int .i64 0,.int .i64 0,.int .i64 0,.int .i64 0,.slice none 0 0] 37)) W.heap.size 37 #[.string ⟨#[]⟩,.bool false,.int .i64 0,.int .i64 0,.int .i64 0,.int .i64 0,.int .i64 0,.int .i64 0,.slice none 0 0]:=Blk.new W 37 _;generalize es0 (qai R.k.L (qaa x.key))=s0 at *;generalize es1 (qai R.k.L (qaa x.key))=s1 at *;generalize ws0 (qae R.k.Ws (qaa x.key))=u0 at *;generalize ws1 (qae R.k.Ws (qaa x.key))=u1 at *;generalize (R.k.waits x).length=nw at *;clear h hx nA
 go_enter func19,ntmps19
 go_upto_region 5 with (go_at_call 34;refine(aJ _ ?_).mono ?_;(focus exact bel2);rintro e w1 ⟨a1,dr,rfl,aa,aF⟩;have b1:=b0.below aa (by simp);have f1:=b1.frozen;have l1:=b1.lt)
 obtain⟨o9,ni⟩:∃o9,o9=Obj.cells #[Value.string ⟨#[]⟩,.bool x.leaf,.int .i64 s0,.int .i64 s1,.int .i64 x.b0,.int .i64 x.b1,.int .i64 u0,.int .i64 u1,.slice a1 nw dr] 37:=⟨_,rfl⟩;have ed:Blk (w1.alloc o9) w1.heap.size 37 #[Value.string ⟨#[]⟩,.bool x.leaf,.int .i64 s0,.int .i64 s1,.int .i64 x.b0,.int .i64 x.b1,.int .i64 u0,.int .i64 u1,.slice a1 nw dr]:=by rw[ni];exact Blk.new w1 37 _
 have b9:=b1.alloc o9;have au:Below W.heap.size W w1:=qab (by exact bel2) aa;have hA:=Below.alloc (Below.refl w1.heap.size w1) (Nat.le_refl _) o9;have kC:Below W.heap.size W (w1.alloc o9):=qab au hA;have iF:=qfq aF.out.1 hA;have dI:w1.heap.size≠W.heap.size:=by omega
 have oV:∀b,(Value.slice a1 nw dr).ownBlock=some b->b<w1.heap.size:=fun b hb=>qap aF.out.1 hb
 rw[<-ni];have qg:Hid (∀b,(Value.slice a1 nw dr).ownBlock=some b->W.heap.size<b):=fun b hb=>by have:=aF.out.2 b hb;simp at this;omega
 have ql:Hid ((w1.alloc o9).ownsRow 0 3 1 (.slice a1 nw dr) nw (qjb (R.k.waits x))):=iF;have l9:=b9.lt;have wm:W.heap.size<w1.heap.size:=by omega
 clear aF iF oV au hA b1 f1 l1;generalize w1.alloc o9=W9 at ed b9 kC ql l9 ⊢;generalize w1.heap.size=g9 at ed wm dI ⊢;have z0:=ed.cell 0;have z1:=ed.cell 1;have z2:=ed.cell 2;have z3:=ed.cell 3;have z4:=ed.cell 4;have z5:=ed.cell 5;have z6:=ed.cell 6;have z7:=ed.cell 7;have z8:=ed.cell 8;have y0:=b9.cell;have y1:=b9.frozen;simp only[xq0,xq1,xq2]at z0 z1 z2 z3 z4 z5 z6 z7 z8
 go_region
 go_wp2_with fail
 have aF:=(((((((((b9.set 0 (.string ⟨#[]⟩)).set 1 (.bool x.leaf)).set 2 (.int .i64 s0)).set 3 (.int .i64 s1)).set 4 (.int .i64 x.b0)).set 5 (.int .i64 x.b1)).set 6 (.int .i64 u0)).set 7 (.int .i64 u1)).set 8 (.slice a1 nw dr)).drew;have hc:=aF.cell;have hk:=((((((((((Keep.refl (fun b=>b=W.heap.size) W9).setCell (p:=⟨W.heap.size,0,none⟩) rfl (.string ⟨#[]⟩)).setCell (p:=⟨W.heap.size,1,none⟩) rfl (.bool x.leaf)).setCell (p:=⟨W.heap.size,2,none⟩) rfl (.int .i64 s0)).setCell (p:=⟨W.heap.size,3,none⟩) rfl (.int .i64 s1)).setCell (p:=⟨W.heap.size,4,none⟩) rfl (.int .i64 x.b0)).setCell (p:=⟨W.heap.size,5,none⟩) rfl (.int .i64 x.b1)).setCell (p:=⟨W.heap.size,6,none⟩) rfl (.int .i64 u0)).setCell (p:=⟨W.heap.size,7,none⟩) rfl (.int .i64 u1)).setCell (p:=⟨W.heap.size,8,none⟩) rfl (.slice a1 nw dr)).drew;clear y0 y1 z0 z1 z2 z3 z4 z5 z6 z7 z8
 refine xrn (v:=.tuple #[.agg #[.string ⟨#[]⟩,.bool x.leaf,.int .i64 s0,.int .i64 s1,.int .i64 x.b0,.int .i64 x.b1,.int .i64 u0,.int .i64 u1,.slice a1 nw dr],.bool true]) ?_ rfl (HQ.out _ _ a1 dr rfl (qaf ql.out hk (fun b hb e=>by have:=qg.out b hb;omega)) (kC.trans (hk.toBelow kC.size (fun b hb e=>by omega))) (fun b hb=>by have:=qg.out b hb;omega))
 simp[results,results19,go_sem,hc]
end
section
variable {F:Nat->Prop}{W w':World}{rb:Nat}{R:KR}{n:Nat}{nodes:List Node}
theorem qqd(f:Ent->Bool)(l:List Ent):es0 (l.filter f)=(l.map fun e=>if f e then e.n0 else 0).sum:=by
 unfold es0
 induction l with
 |nil=>rfl
 |cons a l ih=>cases h:f a<;>simp[xrz,h,ih]
theorem qqe(f:Ent->Bool)(l:List Ent):es1 (l.filter f)=(l.map fun e=>if f e then e.n1 else 0).sum:=by
 unfold es1
 induction l with
 |nil=>rfl
 |cons a l ih=>cases h:f a<;>simp[xrz,h,ih]
theorem qsm{a b:List Ent}(h:a.Perm b):es0 a=es0 b:=by
 unfold es0
 induction h with
 |nil=>rfl
 |cons x _ ih=>simp[ih]
 |swap x y l=>simp;omega
 |trans _ _ h1 h2=>exact h1.trans h2
theorem qsn{a b:List Ent}(h:a.Perm b):es1 a=es1 b:=by
 unfold es1
 induction h with
 |nil=>rfl
 |cons x _ ih=>simp[ih]
 |swap x y l=>simp;omega
 |trans _ _ h1 h2=>exact h1.trans h2
def entK (L:List Ent)(p:List Bs):Ent:=(qeq L p).getD ⟨[],false,0,0,0,0⟩
theorem qiw(K:KInv nodes R.k){e:Ent}(he:e∈R.k.L):qeq R.k.L e.key=some e:=by
 rw[<-K.L]at he ⊢;obtain⟨m,hm,rfl⟩:=xrq.1 he;rw[qb4,qb0 K.tree hm (k:=m.ent.key) rfl]
 rfl
theorem qsj(K:KInv nodes R.k)(I:RunI n R):R.k.L.Perm (([]::R.paths).map (entK R.k.L)):=by
 have h:=I.keys.map (entK R.k.L);have e:(R.k.L.map (·.key)).map (entK R.k.L)=R.k.L:=by
  rw[List.map_map]
  conv=>rhs;rw[<-List.map_id R.k.L]
  refine List.map_congr_left fun e he=>?_
  show entK R.k.L e.key=e
  unfold entK;rw[qiw K he]
  rfl
 rw[e]at h
 exact h
theorem qsi(K:KInv nodes R.k)(I:RunI n R){p:List Bs}(hp:R.paths[i]?=some p):entK R.k.L p∈R.k.L/\(entK R.k.L p).key=p/\(entK R.k.L p).leaf=decide (i<5)/\(i<5->qai R.k.L (qaa p)=[entK R.k.L p]):=by
 obtain⟨e,he,hk,hl⟩:=I.leaf i p hp;have h1:=qiw K he;rw[hk]at h1;have h2:entK R.k.L p=e:=by unfold entK;rw[h1];rfl
 rw[h2]
 refine⟨he,hk,hl,fun h5=>?_⟩
 have jF:=he;rw[<-K.L]at jF
 have:=qhp K.tree jF (by rw[hl];simp[h5])
 rw[K.L,hk]at this
 exact this
theorem qpq(K:KInv nodes R.k):∃r,r∈R.k.L/\r.key=[]/\r.leaf=false/\qeq R.k.L []=some r/\r.b0=0/\r.b1=0:=by
 obtain⟨r,hr,hk,hl,h0,h1⟩:=K.tree.root;have hm:r.ent∈R.k.L:=by rw[<-K.L];exact xrj (xr2 hr)
 have:=qiw K hm
 rw[show r.ent.key=[] from hk]at this
 exact⟨r.ent,hm,hk,hl,this,h0,h1⟩
def nomK (R:KR)(s:Bs):Nat->Int×Int
 |0=>(0,0)
 |k+1=>((nomK R s k).1+(if inB (qaa (R.paths.getD k [])) s then es0 (qai R.k.L (qaa (R.paths.getD k []))) else 0),(nomK R s k).2+(if inB (qaa (R.paths.getD k [])) s then es1 (qai R.k.L (qaa (R.paths.getD k []))) else 0))
theorem q0r{α : Type}{l:List α}(h:l.length=8):∃a b c d e f g i,l=[a,b,c,d,e,f,g,i]:=by
 match l,h with
 | [a,b,c,d,e,f,g,i],_=>exact⟨a,b,c,d,e,f,g,i,rfl⟩
theorem qvx(K:KInv nodes R.k)(I:RunI n R)(s:Bs):nomK R s 5=(es0 (qai R.k.L s),es1 (qai R.k.L s)):=by
 obtain⟨a,b,c,d,e,f,g,i,hl⟩:=q0r I.len;have hp:=qsj K I;have hr:(entK R.k.L []).leaf=false:=by
  obtain⟨r,_,_,h3,h4,_⟩:=qpq K;unfold entK;rw[h4];exact h3
 have E:=fun i p h=>qsi K I (i:=i) (p:=p) h
 rw[hl]at hp;have q0:=E 0 a (by rw[hl];rfl);have q1:=E 1 b (by rw[hl];rfl);have q2:=E 2 c (by rw[hl];rfl);have q3:=E 3 d (by rw[hl];rfl);have q4:=E 4 e (by rw[hl];rfl);have q5:=E 5 f (by rw[hl];rfl);have q6:=E 6 g (by rw[hl];rfl);have q7:=E 7 i (by rw[hl];rfl);clear E;have z0:es0 (qai R.k.L s)=_:=(qsm (hp.filter _)).trans (qqd _ _);have z1:es1 (qai R.k.L s)=_:=(qsn (hp.filter _)).trans (qqe _ _);rw[z0,z1];have o:∀x:Ent,es0 [x]=x.n0/\es1 [x]=x.n1:=fun x=>by simp[es0,es1]
 simp only[nomK,hl,List.getD,List.getElem?_cons_zero,List.getElem?_cons_succ,Option.getD_some,q0.2.2.2 (by omega),q1.2.2.2 (by omega),q2.2.2.2 (by omega),q3.2.2.2 (by omega),q4.2.2.2 (by omega),List.map_cons,List.map_nil,List.sum_cons,List.sum_nil,hr,q0.2.1,q1.2.1,q2.2.1,q3.2.1,q4.2.1,q0.2.2.1,q1.2.2.1,q2.2.2.1,q3.2.2.1,q4.2.2.1,q5.2.2.1,q6.2.2.1,q7.2.2.1,(o _).1,(o _).2]
 simp
 constructor<;>omega
def keyI (R:KR):Nat->List Bs
 |0=>[]
 |i+1=>R.paths.getD i []
theorem qs6(h:qau F W rb R)(K:KInv nodes R.k)(I:RunI n R)(hi:i<=8):∃x,x∈R.k.L/\x.key=keyI R i/\x.leaf=decide (1<=i/\i<=5)/\(sb (qaa (keyI R i))).size<=2000000/\∀Wx,Below W.heap.size W Wx->Calls prog 19 #[.pointer (some ⟨rb,0,none⟩),.int .i64 ((i:Int)-1)] Wx (qpz R x Wx):=by
 match i,hi with
 |0,_ =>
  obtain⟨r,h1,h2,h3,h4,_⟩:=qpq K
  refine⟨r,h1,h2,h3,by show(sb (qaa [])).size<=_;decide,fun Wx hb=>?_⟩
  exact qn6 (h.below hb) h4 h2
 |i+1,hi =>
  obtain⟨p,hp⟩:∃p,R.paths[i]?=some p:=⟨_,xr1 (by rw[I.len];omega)⟩;obtain⟨dS,gd,pT,m,hm,kX,df,m_⟩:=I.path K hp;have hk:keyI R (i+1)=p:=by simp[keyI,List.getD,hp]
  refine⟨m.ent,by rw[<-K.L];exact xrj hm,df.trans hk.symm,?_,by rw[hk];exact I.small K hp,fun Wx hb=>?_⟩
  ·show m.leaf=_
   rw[m_]
   simp;omega
  ·have:=qzh (h.below hb) hp dS (I.small K hp) (by rw[I.len];omega) kX df
   rw[show((i+1:Nat):Int)-1=i by omega]
   exact this
end
section
variable {F:Nat->Prop}{W:World}{rb:Nat}{R:KR}{n:Nat}{nodes:List Node}
theorem Hid.mk'{p:Prop}(h:p):Hid p:=h
def Told (R:KR)(e_:ByteArray)(lf:Bool)(N0 N1 b0 b1 U0 U1:Int)(nw:Nat)(i:Int)(rb:Nat)(W:World):Prop:=∀Wx,Below W.heap.size W Wx->Calls prog 19 #[.pointer (some ⟨rb,0,none⟩),.int .i64 i] Wx fun e w1=>∃a1 c1,e=.returned (.tuple #[.agg #[.string e_,.bool lf,.int .i64 N0,.int .i64 N1,.int .i64 b0,.int .i64 b1,.int .i64 U0,.int .i64 U1,.slice a1 nw c1],.bool true])/\Below Wx.heap.size Wx w1
theorem quf{x:Ent}{i:Int}(h:∀Wx,Below W.heap.size W Wx->Calls prog 19 #[.pointer (some ⟨rb,0,none⟩),.int .i64 i] Wx (qpz R x Wx)):Told R (sb (qaa x.key)) x.leaf (es0 (qai R.k.L (qaa x.key))) (es1 (qai R.k.L (qaa x.key))) x.b0 x.b1 (ws0 (qae R.k.Ws (qaa x.key))) (ws1 (qae R.k.Ws (qaa x.key))) (R.k.waits x).length i rb W:=fun Wx hb=>by
 refine(h Wx hb).mono ?_
 rintro e w3 ⟨v,rfl,g1,g2,g3⟩
 obtain⟨a1,c1,rfl,_,_⟩:=qa7 g1
 exact⟨a1,c1,rfl,g2⟩
theorem qrm(h:qau F W rb R)(I:RunI n R)(hk:k<=8):∃(e_:ByteArray) (lf:Bool) (N0 N1 b0 b1 U0 U1:Int) (nw:Nat) (u:Nat->Int×Int),Told R e_ lf N0 N1 b0 b1 U0 U1 nw ((k:Int)-1) rb W /\
  (∀Wx,Below W.heap.size W Wx->Calls prog 45 #[.pointer (some ⟨rb,0,none⟩),.string e_] Wx fun e w'=>e=.returned (.agg #[.int .i64 U0,.int .i64 U1])/\Below Wx.heap.size Wx w') /\
  u 0=(0,0)/\u 5=(N0,N1)/\lf=decide (1<=k/\k<=5)/\U0<=N0+b0/\U1<=N1+b1/\((0<=N0/\N0<=20000)/\(0<=N1/\N1<=20000)/\(0<=b0/\b0<=1000)/\(0<=b1/\b1<=1000)/\(0<=U0/\U0<=24000)/\(0<=U1/\U1<=24000)) /\
  (∀j:Nat,j<=5->(0<=(u j).1/\(u j).1<=100000)/\(0<=(u j).2/\(u j).2<=100000)) /\
  (∀j:Nat,j<5->∃(pj:ByteArray) (lj is:Bool) (M0 M1 e0 e1 V0 V1:Int) (nj:Nat),Told R pj lj M0 M1 e0 e1 V0 V1 nj (j:Int) rb W/\(∀w,Calls prog 35 #[.string pj,.string e_] w fun e w'=>e=.returned (.bool is)/\w'=w)/\((0<=M0/\M0<=20000)/\(0<=M1/\M1<=20000))/\(u (j+1)).1=(u j).1+(if is then M0 else 0)/\(u (j+1)).2=(u j).2+(if is then M1 else 0)):=by
 obtain⟨nodes,K⟩:=h.kinv;obtain⟨x,hx,nA,ie,cY,hq⟩:=qs6 h K I hk;have jn:=qiu K.tree.ents;rw[K.L]at jn;have bZ:=qyf K.inv.wks.wks (qaa x.key);have dI:=I.nb x hx;have zG:(0<=x.b0/\x.b0<=1000)/\(0<=x.b1/\x.b1<=1000):=by
  rw[<-K.L]at hx;obtain⟨m,hm,rfl⟩:=xrq.1 hx
  exact⟨(K.tree.num m hm).2.2.1,(K.tree.num m hm).2.2.2.1⟩
 have sf:(sb (qaa x.key)).size<=2000000:=by rw[nA];exact cY
 have gu:∀j,0<=(nomK R (qaa x.key) j).1/\(nomK R (qaa x.key) j).1<=20000*j/\0<=(nomK R (qaa x.key) j).2/\(nomK R (qaa x.key) j).2<=20000*j:=fun j=>by
  induction j with
  |zero=>simp[nomK]
  |succ j ih =>
   have:=jn (qaa (R.paths.getD j []))
   simp only[nomK]
   split<;>omega
 refine⟨_,_,_,_,_,_,_,_,_,nomK R (qaa x.key),quf hq,fun Wx hb=>?_,rfl,qvx K I _,ie,dI.1,dI.2,⟨(jn _).1,(jn _).2,zG.1,zG.2,bZ.1,bZ.2⟩,fun j hj=>?_,fun j hj=>?_⟩
 ·have:=qzj (h.below hb) I (sb (qaa x.key)) sf
  rw[qbs]at this
  exact this
 ·have:=gu j;omega
 ·obtain⟨y,hy,sH,oc,x8,sJ⟩:=qs6 h K I (i:=j+1) (by omega);rw[show((j+1:Nat):Int)-1=j by omega]at sJ;have bD:=fun w=>qph (sb (qaa y.key)) (sb (qaa x.key)) w (by rw[sH];exact x8) sf
  rw[qbs,qbs]at bD
  refine⟨_,_,_,_,_,_,_,_,_,_,quf sJ,bD,⟨(jn _).1,(jn _).2⟩,?_,?_⟩
  ·rw[sH];rfl
  ·rw[sH];rfl
theorem q0p(h:qau F W rb R)(I:RunI n R):Calls prog 18 #[.pointer (some ⟨rb,0,none⟩)] W fun e w'=>e=.returned (.bool true)/\Below W.heap.size W w':=by
 have HR:=Hid.mk' (fun (k:Nat) (hk:k<=8)=>qrm h I hk);obtain⟨P,bt,vp,vw,vl,h⟩:=h;obtain⟨ap,cp,cu,b_,cO⟩:=qa7 h.prow;have c1:=h.at_.cell 1;simp only[xq0,xq1,xq2]at c1;rw[cu,I.len]at c1;have jV:=h.at_.lt;clear h I cu b_ cO
 go_enter func18,ntmps18
 go_wp2
 go_loopw [3] (fun i wr=>∃k:Nat,k<=9/\i=.int .i64 ((k:Int)-1)/\Below W.heap.size W wr) (fun i _=>(8-intOf i).toNat)
 case atStart=>exact⟨0,by omega,rfl,Below.refl _ _⟩
 case round =>
  obtain⟨k,hk,rfl,hB⟩:=hrel;have r1:=(hB.cell (p:=⟨rb,1,none⟩) jV).trans c1
  by_cases ak:k<9
  ·obtain⟨e_,lf,N0,N1,b0,b1,U0,U1,nw,u,hq,hu,sk,Cx,eS,Bi,Em,⟨n0,n1,n2,n3,n4,n5⟩,z9,bD⟩:=HR.out k (by omega);have xV:=Hid.mk' bD;have x_:=Hid.mk' z9;have xW:=Hid.mk' eS;clear bD HR z9 eS;have ja:(k:Int)-1<8:=by omega
   go_upto_region 10 with (first
    |(go_at_call 19;refine(hq _ hB).mono ?_;rintro e w1 ⟨a1,dr,rfl,aa⟩;have au:=hB.trans (aa.mono hB.size))
    |(go_at_call 45;refine(hu _ (au.alloc au.size _)).mono ?_;rintro e w2 ⟨rfl,ag⟩))
   have jI:w1.heap.size<w2.heap.size:=by have:=ag.size;simp at this;omega
   have tQ:W.heap.size<=w1.heap.size:=au.size;obtain⟨W5,kI⟩:∃W5,W5=(w2.alloc (.cells #[.int .i64 U0,.int .i64 U1] 35)).alloc (.cells #[.int .i64 0,.int .i64 0] 35):=⟨_,rfl⟩;have bq:Blk W5 w1.heap.size 37 #[.string e_,.bool lf,.int .i64 N0,.int .i64 N1,.int .i64 b0,.int .i64 b1,.int .i64 U0,.int .i64 U1,.slice a1 nw dr]:=by
    rw[kI];exact(((Blk.new w1 37 _).below ag (by simp)).alloc _).alloc _
   have bu:Blk W5 w2.heap.size 35 #[.int .i64 U0,.int .i64 U1]:=by rw[kI];exact blk2
   have bn:Blk W5 (w2.heap.size+1) 35 #[.int .i64 0,.int .i64 0]:=by rw[kI];exact blk2
   have aP:Below W.heap.size W w2:=(au.alloc au.size _).trans (ag.mono (by simp;omega));have dE:Below W.heap.size W W5:=by rw[kI];exact(aP.alloc aP.size _).alloc (by simp;have:=aP.size;omega) _
   rw[<-kI];clear kI ag aa aP au hq hu r1;generalize w1.heap.size=g1 at *;generalize w2.heap.size=g2 at *
   go_loopw [8] (fun i wx=>∃j:Nat,j<=5/\i=.int .i64 j/\Blk wx (g2+1) 35 #[.int .i64 (u j).1,.int .i64 (u j).2]/\Keep (fun b=>b=g2+1) W5 wx) (fun i _=>5-(intOf i).toNat)
   case atStart=>exact⟨0,by omega,rfl,by rw[sk];exact bn,Keep.refl _ _⟩
   case round =>
    obtain⟨j,hj,rfl,jn,tF⟩:=hrel;have yD:Below W.heap.size W wr:=dE.trans (tF.toBelow dE.size (fun b hb e=>by omega));have kj:=bq.keep tF (by omega);have uK:=bu.keep tF (by omega);have pQ:=kj.lt;have Ez:=jn.lt;have y0:=kj.cell 0;simp only[xq0,xq1,xq2]at y0
    by_cases hj5:j<5
    ·obtain⟨pj,lj,is,M0,M1,e0,e1,V0,V1,nj,hq,dk,⟨m0,m1⟩,s0,s1⟩:=xV.out j hj5;obtain⟨v0,v1⟩:=x_.out j hj;have HS:=Hid.mk' (And.intro s0 s1);clear s0 s1;have zj:(j:Int)<5:=by omega
     have Ab:=Hid.mk' jn;clear jn;generalize (u j).1=f0 at *;generalize (u j).2=f1 at *
     go_upto_region 13 with (go_at_call 19;refine(hq _ yD).mono ?_;rintro e w6 ⟨a6,c6,rfl,il⟩)
     have zm:=il.size;obtain⟨W7,tK⟩:∃W7,W7=w6.alloc (.cells #[.string pj,.bool lj,.int .i64 M0,.int .i64 M1,.int .i64 e0,.int .i64 e1,.int .i64 V0,.int .i64 V1,.slice a6 nj c6] 37):=⟨_,rfl⟩;have b7:Blk W7 w6.heap.size 37 #[.string pj,.bool lj,.int .i64 M0,.int .i64 M1,.int .i64 e0,.int .i64 e1,.int .i64 V0,.int .i64 V1,.slice a6 nj c6]:=by rw[tK];exact Blk.new w6 37 _
     have pH:Below wr.heap.size wr W7:=by rw[tK];exact il.alloc zm _
     rw[<-tK];clear tK il hq;have pE:=Ab.out.below pH (by omega);have yr:=kj.below pH (by omega);have yK:Keep (fun b=>b=g2+1) W5 W7:=tF.trans (Keep.new pH);generalize w6.heap.size=g6 at *;have x0:=b7.cell 0;have x2:=b7.cell 2;have x3:=b7.cell 3;have z0:=yr.cell 0;have d0:=pE.cell 0;have d1:=pE.cell 1;have t0:=pE.frozen 0;have t1:=pE.frozen 1;simp only[xq0,xq1,xq2]at x0 x2 x3 z0 d0 d1;have Eu:¬(g6=g2+1):=by omega
     have me:¬(g1=g2+1):=by omega
     clear yr
     cases is
     ·go_wp2_with (go_at_call 35;refine(dk _).mono ?_;rintro e wz ⟨rfl,lP⟩;subst lP)
      refine⟨⟨j+1,by omega,by go_num,?_,yK⟩,by simp[intOf];omega⟩
      rw[HS.out.1,HS.out.2]
      simpa using pE
     ·go_wp2_with (go_at_call 35;refine(dk _).mono ?_;rintro e wz ⟨rfl,lP⟩;subst lP)
      refine⟨⟨j+1,by omega,by go_num,?_,(yK.setCell (p:=⟨g2+1,0,none⟩) rfl _).setCell (p:=⟨g2+1,1,none⟩) rfl _⟩,by simp[intOf];omega⟩
      rw[HS.out.1,HS.out.2]
      have:=(pE.set 0 (.int .i64 (f0+M0))).set 1 (.int .i64 (f1+M1))
      simpa using this
    ·have wC:j=5:=by omega
     subst wC;rw[Cx]at jn;have y1:=kj.cell 1;have y2:=kj.cell 2;have y3:=kj.cell 3;have y4:=kj.cell 4;have y5:=kj.cell 5;have y6:=kj.cell 6;have y7:=kj.cell 7;have x0:=uK.cell 0;have x1:=uK.cell 1;have d0:=jn.cell 0;have d1:=jn.cell 1;simp only[xq0,xq1,xq2]at y1 y2 y3 y4 y5 y6 y7 x0 x1 d0 d1;have BX:(lf=true/\(0:Int)<=(k:Int)-1/\(k:Int)-1<5)\/(lf=false/\¬((0:Int)<=(k:Int)-1))\/(lf=false/\(0:Int)<=(k:Int)-1/\¬((k:Int)-1<5)):=by
      rw[xW.out];simp;omega
     clear xV x_ xW;have gm:∀(a b:Int) W,(Op.equalIn 10000 35 (.agg #[.int .i64 a,.int .i64 b]) (.agg #[.int .i64 a,.int .i64 b])).run prog W=.ok true W:=fun a b W=>by
      have:=eq35 9998 a b a b W
      simpa using this
     have Ae:=Hid.mk' kj;have vN:U0<=N0+b0:=Bi;clear kj uK jn
     rcases BX with ⟨q1,q2,q3⟩|⟨q1,q2⟩|⟨q1,q2,q3⟩
     all_goals subst q1
     all_goals go_upto_region 21 with fail
     all_goals
      obtain⟨zZ,sE⟩:∃zZ,zZ=wr:=⟨_,rfl⟩;rw[<-sE]
      go_loopw [13] (fun i wx=>∃j:Nat,j<=2/\i=.int .i64 j/\∃m,wx=wr.drewN m) (fun i _=>2-(intOf i).toNat)
      case atStart=>exact⟨0,by omega,rfl,0,by rw[sE];rfl⟩
      case round =>
       obtain⟨j,rz,rfl,m,rfl⟩:=hrel;have pF:=Ae.out.drewN m;have z2:=pF.cell 2;have z3:=pF.cell 3;have z4:=pF.cell 4;have z5:=pF.cell 5;have z6:=pF.cell 6;have z7:=pF.cell 7;simp only[xq0,xq1,xq2]at z2 z3 z4 z5 z6 z7;have w0:IntKind.i64.wrap (N0+b0)=N0+b0:=by rw[IntKind.wrap_i64];omega
       have F1:IntKind.i64.wrap (N1+b1)=N1+b1:=by rw[IntKind.wrap_i64];omega
       rcases(show j=0\/j=1\/j=2 by omega) with rfl|rfl|rfl
       ·have Ce:¬(N0+b0<U0):=by omega
        go_upto_region 23 with fail
        go_quiet (fail)
        go_wp2_with fail
        exact⟨⟨1,by omega,rfl,m+nq,rfl⟩,by simp[intOf]⟩
       ·have Ce:¬(N1+b1<U1):=by omega
        go_upto_region 23 with fail
        go_quiet (fail)
        go_wp2_with fail
        exact⟨⟨2,by omega,rfl,m+nq,rfl⟩,by simp[intOf]⟩
       ·go_wp2_with fail
        refine⟨⟨k+1,by omega,by go_num,xrm yD _⟩,?_⟩
        simp[intOf]
        omega
  ·have ja:¬((k:Int)-1<8):=by omega
   go_wp2_with fail
   go_ret
   exact⟨rfl,hB⟩
end
theorem qrl{F:Nat->Prop}{rb:Nat}(h:∃R,RunI k R/\qau F wr rb R):
  Calls prog 18 #[.pointer (some ⟨rb,0,none⟩)] wr fun e w'=>e=.returned (.bool true)/\Hid (∃R,RunI k R/\qau F w' rb R)/\Below wr.heap.size wr w':=by
 obtain⟨R,hI,hR⟩:=h
 refine(q0p hR hI).mono ?_
 rintro e w' ⟨rfl,g⟩
 exact⟨rfl,⟨R,hI,hR.below g⟩,g⟩
theorem ql5{W:World}{as_:Option Addr}{cs:Nat}{q:Nat->Int}{S:Nat->Stp}(hq:QIn W aq lq q)(pQ:lq<=cq)(BD:cq<=maxLen)(hS:StIn W as_ ls S)(E3:ls<=cs)(cv:cs<=maxLen):
  Calls prog 6 #[.slice aq lq cq,.slice as_ ls cs] W fun e w'=>e=.returned (.bool true)/\Below W.heap.size W w':=by
 have HS:Hid (StIn W as_ ls S):=hS;clear hS;have a9:ls<=9223372036854775807:=by unfold maxLen at cv;omega
 go_enter func6,ntmps6
 go_upto_region 5 with (first
  |(go_at_call 15;refine(ql8 _).mono ?_;rintro e w1 ⟨rfl,aa⟩)
  |(go_at_call 16;refine(qqs (hq.below (n:=0) aa) pQ BD).mono ?_;rintro e w2 ⟨rb,rfl,cX,ag⟩))
 have Bc:Hid (∃R,RunI 0 R/\qau (fun b=>b<w1.heap.size) w2 rb R):=by
  obtain⟨nodes,K⟩:=cX.kinv
  exact⟨_,qyt K,cX⟩
 clear cX hq
 go_wp2_with fail
 go_loopw [7] (fun i wr=>∃k:Nat,k<=50/\k<=ls/\i=.int .i64 k/\Hid (∃R,RunI k R/\qau (fun b=>b<w1.heap.size) wr rb R)/\Below w1.heap.size w1 wr) (fun i _=>50-(intOf i).toNat)
 case atStart=>exact⟨0,Nat.zero_le _,Nat.zero_le _,rfl,Bc,ag⟩
 case round =>
  obtain⟨k,hk,fO,rfl,hR,hB⟩:=hrel;have qB:Below W.heap.size W wr:=aa.trans (hB.mono aa.size)
  by_cases ak:k<ls/\k<50
  ·obtain⟨wM,eW⟩:=ak;obtain⟨gb,dP,rfl,tO,q0,q1,q2,q3,i0,i1,i2,i3⟩:=HS.out k wM;have r0:=(qB.cell (p:=⟨gb,dP+k*4,none⟩) tO).trans q0;have r1:=(qB.cell (p:=⟨gb,dP+k*4+1,none⟩) tO).trans q1;have r2:=(qB.cell (p:=⟨gb,dP+k*4+2,none⟩) tO).trans q2;have r3:=(qB.cell (p:=⟨gb,dP+k*4+3,none⟩) tO).trans q3;have cJ:=qri hR.out eW i0 i1 i2 i3;have ja:(k:Int)<ls:=by omega
   have eM:(0:Int)<=k:=by omega
   have BY:(k:Int)<50:=by omega
   clear q0 q1 q2 q3 hR
   go_wp2_with (first
    |(go_at_call 17;refine cJ.mono ?_;rintro e w3 ⟨rfl,kH,eH⟩)
    |(go_at_call 18;refine(qrl kH.out).mono ?_;rintro e w4 ⟨rfl,mJ,dL⟩))
   have bH:=hB.trans (eH.toBelow hB.size (fun b hb e=>e hb))
   exact⟨⟨k+1,by omega,by omega,by go_num,mJ,bH.trans (dL.mono bH.size)⟩,by simp[intOf];omega⟩
  ·have oN:¬((k:Int)<ls)\/¬((k:Int)<50):=by omega
   have eM:(0:Int)<=k:=by omega
   rcases oN with oN|oN
   all_goals go_wp2_with fail
   all_goals go_ret
   all_goals exact⟨rfl,qB⟩
end
section
open Go.ChangeShapes Go.WideShapes Go.ChangeAt Go.RowKit
theorem qir(H:Type)(enc:TypeId×Value->H)(W:World)(base:Nat)(args:Array Value)(ds gs:List (DataW H))(before:List MemPlace)
  (aA:∀(j:Nat) t v,f6.params[j]?=some t->args[j]?=some v->Value.okWide prog W .any base t v)
  (hW:DataW.Whole enc prog f6.params.toList Rows.boundedSpec.vars false W args.toList ds gs before) :
  Calls prog 6 args W fun e W'=>∃v,e=.returned v/\Rows.boundedSpec.post enc prog f6 false true false false W args v W':=by
 have aX:=hW;obtain⟨p,q,uS,hV,rfl,Et,bT⟩:=hW;have hA:DataW.TrodAll enc prog W 0 (fun _=>true) true f6.params.toList args.toList ds p:=uS;rw[params6]at hA aA;obtain⟨v0,Fy,d0,DW,p0,q0,yX,rfl,rfl,h0,r0⟩:=trodAll_cons hA;obtain⟨v1,Fz,d1,DY,p1,q1,ox,rfl,rfl,h1,r1⟩:=trodAll_cons r0;obtain⟨rfl,rfl,rfl⟩:=trodAll_nil r1;subst ox;obtain rfl:args=#[v0,v1]:=by cases args;simp_all
 obtain⟨rfl,rfl⟩:=trodVars_none hV;obtain⟨Ef,zd⟩:=id h0;obtain⟨Eg,hZ⟩:=id h1;have c0:v0.cells.toList=[v0]:=by
  obtain⟨a,l,c,e⟩:=okWide_slice underlying25 (aA 0 25 v0 rfl rfl);rw[e];rfl
 have c1:v1.cells.toList=[v1]:=by
  obtain⟨a,l,c,e⟩:=okWide_slice underlying26 (aA 1 26 v1 rfl rfl);rw[e];rfl
 obtain⟨aq,lq,cq,q,rfl,dV,gU,hq⟩:=open_ints zd c0;obtain⟨as_,ls,cs,S,rfl,nZ,dW,hS⟩:=qq9 hZ c1
 refine(ql5 hq dV gU hS nZ dW).mono fun e W' ⟨he,ah⟩=>?_
 subst he;have ak:∀x∈p0++(p1++[]),x.block<W.heap.size:=fun x hx=>aX.lt x (by simpa using hx)
 exact⟨_,rfl,_,_,_,[],p0++(p1++[]),[],aX,trodAll_cons_mk (shut_bool underlying4 _) trodAll_mk0,
  trodAll_cons_mk (Below.trod laidOut (by kernel_rfl) (of_decide_eq_true (by kernel_rfl)) h0 ah (fun x hx=>ak x (by simp[hx]))) (trodAll_cons_mk (Below.trod laidOut (by kernel_rfl) (of_decide_eq_true (by kernel_rfl)) h1 ah (fun x hx=>ak x (by simp[hx]))) trodAll_mk0),rfl,ah.frame _,fun h=>by cases h⟩
def qez:Array Value:=#[.slice none 0 0,.slice none 0 0]
theorem qi2(os:Os):laidMetH prog Rows.boundedRow.laid ((World.laidAll prog os Rows.boundedRow.laid).forCall (fun _ _=>0) ⟨#[],qez,[]⟩).memory:=by
 rw[MakeChecks.laidMetH_plain _ _ _ (by kernel_rfl)]
 exact laidMet_laidAll _ (by kernel_rfl) (by kernel_rfl)
theorem qm9(os:Os){H:Type}(enc:TypeId×Value->H):∃lR,DataW.whole enc prog ((World.laidAll prog os Rows.boundedRow.laid).forCall (fun _ _=>0) ⟨#[],qez,[]⟩).memory f6.params.toList Rows.boundedSpec.vars false qez.toList 8=some ([.nil,.nil],[],lR) :=
 ⟨[],by kernel_rfl⟩
theorem qln(os:Os)(gZ:os.Started)(H:Type)(enc:TypeId×Value->H)(F:Stop.Interp):
  ReturnsInHanded {} checked os 6 .any ((OpenSpec.ofChange Rows.boundedSpec).preRow enc prog f6 Rows.boundedRow.domain false Rows.boundedRow.laid) (((OpenSpec.ofChange Rows.boundedSpec).at F).post enc prog f6 false true false false):=by
 obtain⟨lR,hx⟩:=qm9 os enc
 refine returnsInHanded_of_row (C:=checked) (s:=OpenSpec.ofChange Rows.boundedSpec) own gZ (by kernel_rfl) func6
  (qhb (enc:=enc) (C:=checked) (World.laidAll prog os Rows.boundedRow.laid) qez (World.laidAll_os _ _ _) (World.shaped_of_ZipB (by kernel_rfl) (by kernel_rfl)) (by kernel_rfl)
   (OpenSpec.preRow_of_cond 8 hx (by kernel_rfl) (fun k hk=>by cases hk) (by kernel_rfl) (qi2 os))) ?_
 intro W base args ds gs before aA hW _ za _ hL _ _
 exact qir H enc W base args ds gs before aA hW
theorem qom:Rows.BoundedSaid :=
 OpenClaim.holds_of_cond 6 f6 rfl rfl rfl rfl rfl rfl rfl ⟨rfl,rfl,rfl,rfl,rfl⟩ rfl rfl rfl rfl rfl (by kernel_rfl) func6 (by kernel_rfl)
  (of_decide_eq_true (by kernel_rfl)) (by unfold Func.isWrapper;first|(rw[if_pos (by decide +kernel)];kernel_rfl)|(rw[if_neg (by decide +kernel)];exact⟨rfl,rfl⟩))
  (fun os gZ H enc _ F=>by rw[OpenClaim.pre_eq_preRow];exact qln os gZ H enc F)
theorem qm5 (f : FuncId) (fn : Func) (hf : Tryz.pinned.checked.prog.funcNamed "borrow/borrowkeep.Bounded" = some f) (BJ : Tryz.pinned.checked.prog.funcs[f]? = some fn) :
  false=Tryz.pinned.checked.prog.looks []/\∀(j:Nat) t,fn.params[j]?=some t->Tryz.pinned.checked.prog.wantsStandIn t=false:=by
 obtain rfl : f = 6 := Option.some.inj ((show prog.funcNamed "borrow/borrowkeep.Bounded" = some 6 by kernel_rfl).symm.trans hf) |>.symm;obtain rfl:fn=f6:=(Option.some.inj (func6.symm.trans BJ)).symm
 refine⟨by kernel_rfl,fun j t ht=>?_⟩
 rw[params6]at ht;have hm:=Array.mem_of_getElem? ht;simp only[List.mem_toArray,List.mem_cons,List.mem_nil_iff,or_false]at hm
 rcases hm with rfl|rfl
 ·exact(show prog.wantsStandIn 25=false by kernel_rfl)
 ·exact(show prog.wantsStandIn 26=false by kernel_rfl)
theorem boundedCard:Rows.BoundedCardSaid :=
 Claim7.holds_tied_plain_at .later [] _ _ _ _ qom (fun _ h=>by cases h) (by kernel_rfl) (fun _ h=>by cases h) bounded_row_tie rfl ⟨rfl,rfl⟩ (by kernel_rfl) rfl qm5 (by kernel_rfl)
end
end Go.Proofs.YtphclnolomgjoaaGreatDoor
