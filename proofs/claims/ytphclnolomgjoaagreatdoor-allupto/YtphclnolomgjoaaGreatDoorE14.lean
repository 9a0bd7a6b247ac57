import Derived.Test.YtphclnolomgjoaaGreatDoorE13
import Derived.Test.YtphclnolomgjoaaGreatDoorE06
set_option linter.unusedVariables false
set_option linter.unusedSimpArgs false
set_option maxRecDepth 100000
set_option maxHeartbeats 4000000
namespace Go.Proofs.YtphclnolomgjoaaGreatDoor
open Tryz
section
open Go.RowKit
variable {Ek c s c1 c3 ev r u:Value}{cap i q:Nat}{p:Pw}{k o l:List Pw}{ok zj:Bool}{x:Wk}{a d last' m:Int}{T:Nat->Prop}{fin:SS}{A j w' f:World}
theorem sG{w:World}{bt:Nat}{zw vw va:Value}{ws zh:List Pw}(h:xh w bt r zw vw va ws zh)(C:ws[i]?=some p):
  Calls prog 83 #[.pointer (some (vA bt 1)),zi p.ze] w fun e w'=>e=vT #[]/\∃c,xh w' bt r zw c va (ws.take i++ws.drop (i+1)) zh/\zd (wz bt vw va) w w'/\c.ownBlock=vw.ownBlock:=by
 have m:=Uq C;have ha:=h.zu p (UM _ m);have ia:=h.zl.lt;have ja:=h.len;have ga:ws.length<=100:=o_;have S:p ∉ zh:=fun e=>(List.nodup_append.1 h.nd).2.2 p m p e rfl
 have E:=Zq ⟨h.yc,fun q hq=>h.zu q (UM _ hq)⟩ ga ha (fun a t e=>h.inj a (UM _ t) p (UM _ m) e) (List.nodup_append.1 h.nd).1;have B:vw.ownBlock≠some bt:=UY h.yc h.zl d_;have M:va.ownBlock≠some bt:=UY h.yr h.zl d_;have c2:=h.zl.cell 2;simp only[s7]at c2;unfold zi at E ⊢
 go_enter func83,ntmps83
 go_wp2_with fail
 refine E.mono ?_
 rintro e f (⟨X,rfl,o⟩|⟨j,d,Q,rfl,K,x,v⟩)
 ·exact absurd m X
 ·have da:j=i:=(List.getElem?_inj (Uy.1 Q).1 (List.nodup_append.1 h.nd).1).1 (Q.trans C.symm);subst da;have u:=h.zl.zf x B;have ka:=u.frozen 2;have ba:=u.cell 2;have ca:=u.cell 3;simp only[s7]at ba ca;have A:zg (f.setCell (vA bt 2) d) bt 102 #[r,zw,d,va]:=by have:=u.set 2 d;simpa using this
  have O:(f.setCell (vA bt 2) d).ownsRow 0 95 1 va zh.length (UN zh):=UQ (s8 h.yr x (fun g Z e=>h.sep g e Z)) (fun e=>M e) _;have P:(f.setCell (vA bt 2) d).ownsRow 0 95 1 d (ws.take j++ws.drop (j+1)).length (UN (ws.take j++ws.drop (j+1))):=UQ K.row (fun e=>B (by rw[<-v];exact e)) _;have D:∀q∈ws++zh,zg (f.setCell (vA bt 2) d) q.ze 105 q.cells:=fun q hq=>((h.zu q hq).zf x (UY h.yc (h.zu q hq) d_)).other _ _ (fun e=>by
   have N:=h.zu q hq;rw[show q.ze=bt from e]at N
   have:=N.symm.trans h.zl
   injection this with this;injection this with _ Y _
   exact absurd Y d_)
  have L:zd (wz bt vw va) w (f.setCell (vA bt 2) d):=(x.mono (fun y e=>.inr (.inl e))).setCell (p:=vA bt 2) (.inl rfl) _;have s:xh (f.setCell (vA bt 2) d) bt r zw d va (ws.take j++ws.drop (j+1)) zh:=by
   have z:∀q,q∈(ws.take j++ws.drop (j+1))++zh->q∈ws++zh:=fun q hq=>(UU.1 hq).elim (fun e=>UM _ (XI e)) (fun e=>U8 _ e)
   have G:List.Sublist ((ws.take j++ws.drop (j+1))++zh) (ws++zh):=by
    refine List.Sublist.append ?_ (List.Sublist.refl _)
    have:=Zv C
    conv=>rhs;rw[this]
    exact List.Sublist.append (List.Sublist.refl _) (List.sublist_cons_self _ _)
   refine⟨A,P,O,fun q hq=>D q (z q hq),fun b hb=>h.sep b (by rw[<-v];exact hb),G.nodup h.nd,fun a t b hb e=>h.inj a (z a t) b (z b hb) e,?_⟩
   have:=G.length_le
   simp only[List.length_append]at this ⊢
   omega
  have F:=Zq ⟨s.yr,fun q hq=>s.zu q (U8 _ hq)⟩ o_ (D p (UM _ m)) (fun a t e=>h.inj a (U8 _ t) p (UM _ m) e) (List.nodup_append.1 h.nd).2.1;obtain⟨a1,U,I,_,_⟩:=Wr s.yc;obtain⟨a2,W,J,_,_⟩:=Wr s.yr;have R:∃n1,d=.slice a1 n1 U:=⟨_,I⟩;have V:∃n2,va=.slice a2 n2 W:=⟨_,J⟩;have H:∀l,Below (f.setCell (vA bt 2) d).heap.size (f.setCell (vA bt 2) d) l->zg l bt 102 #[r,zw,d,va]/\Hid (xh (l.setCell (vA bt 3) va) bt r zw d va (ws.take j++ws.drop (j+1)) zh/\zd (wz bt vw va) w (l.setCell (vA bt 3) va)):=by
   intro l o;have n:=A.below o A.lt;have k:=s.zf (T:=fun _=>False) (zd.new o) id (fun _ _=>id) (fun _ _=>id) (fun _ _=>id)
   refine⟨n,⟨?_,?_,?_,?_,k.sep,k.nd,k.inj,k.len⟩,(L.WW o).setCell (p:=vA bt 3) (.inl rfl) _⟩
   ·have:=n.set 3 va
    simpa using this
   ·exact UQ k.yc (fun e=>B (by rw[<-v];exact e)) _
   ·exact UQ k.yr (fun e=>M e) _
   ·exact fun q hq=>(k.zu q hq).other _ _ (Wh (k.zu q hq) n d_)
  clear h K O P D L s E I J;obtain⟨n1,rfl⟩:=R;obtain⟨n2,rfl⟩:=V;unfold zi at F
  go_wp2_with fail
  refine F.mono ?_
  rintro e l (⟨_,rfl,o⟩|⟨j,ma,ea,_⟩)
  ·obtain⟨n,hp⟩:=H l o;have la:=n.frozen 3;have aa:=n.cell 3;simp only[s7]at aa;clear H F
   go_wp2_with fail
   go_end0
   exact⟨rfl,_,hp.out.1,hp.out.2,v⟩
  ·exact absurd (Uq ea) S
theorem sF{w:World}{bt:Nat}{zw vw va:Value}{ws zh:List Pw}(h:xh w bt r zw vw va ws zh)(B:zh[i]?=some p):
  Calls prog 83 #[.pointer (some (vA bt 1)),zi p.ze] w fun e w'=>e=vT #[]/\∃s,xh w' bt r zw vw s ws (zh.take i++zh.drop (i+1))/\zd (wz bt vw va) w w'/\s.ownBlock=va.ownBlock:=by
 have l:=Uq B;have ha:=h.zu p (U8 _ l);have V:=h.zl.lt;have ia:=h.len;have ga:ws.length<=100:=o_;have da:p ∉ ws:=fun e=>(List.nodup_append.1 h.nd).2.2 p e p l rfl
 have C:=Zq ⟨h.yc,fun q hq=>h.zu q (UM _ hq)⟩ ga ha (fun a u e=>h.inj a (UM _ u) p (U8 _ l) e) (List.nodup_append.1 h.nd).1;have K:vw.ownBlock≠some bt:=UY h.yc h.zl d_;have z:va.ownBlock≠some bt:=UY h.yr h.zl d_;have c2:=h.zl.cell 2;simp only[s7]at c2;obtain⟨a1,R,G,_,_⟩:=Wr h.yc;have Q:∃n1,vw=.slice a1 n1 R:=⟨_,G⟩;clear G;unfold zi at C ⊢
 go_enter func83,ntmps83
 go_wp2_with fail
 refine C.mono ?_
 rintro e f (⟨_,rfl,A⟩|⟨N,la,ea,_⟩)
 ·have t:=h.zl.below A V;have ja:=t.frozen 2;have aa:=t.cell 2;have ba:=t.cell 3;simp only[s7]at aa ba;have o:=h.zf (T:=fun _=>False) (zd.new A) id (fun _ _=>id) (fun _ _=>id) (fun _ _=>id);have I:zd (wz bt vw va) w (f.setCell (vA bt 2) vw):=(zd.new (T:=wz bt vw va) A).setCell (p:=vA bt 2) (.inl rfl) _;have j:xh (f.setCell (vA bt 2) vw) bt r zw vw va ws zh:=by
   refine⟨?_,UQ o.yc (fun e=>K e) _,UQ o.yr (fun e=>z e) _,fun q hq=>(o.zu q hq).other _ _ (Wh (o.zu q hq) t d_),h.sep,h.nd,h.inj,h.len⟩
   have:=t.set 2 vw
   simpa using this
  have D:=Zq ⟨j.yr,fun q hq=>j.zu q (U8 _ hq)⟩ o_ (j.zu p (U8 _ l)) (fun a u e=>h.inj a (U8 _ u) p (U8 _ l) e) (List.nodup_append.1 h.nd).2.1;have F:∀k d,wh k d (zh.take i++zh.drop (i+1))->zd (fun y=>va.ownBlock=some y) (f.setCell (vA bt 2) vw) k->d.ownBlock=va.ownBlock->zg k bt 102 #[r,zw,vw,va]/\(∃a n c,d=.slice a n c)/\Hid (xh (k.setCell (vA bt 3) d) bt r zw vw d ws (zh.take i++zh.drop (i+1))/\zd (wz bt vw va) w (k.setCell (vA bt 3) d)):=by
   intro k d L x M;have m:=j.zl.zf x z;have v:∀q,q∈ws++(zh.take i++zh.drop (i+1))->q∈ws++zh:=fun q hq=>(UU.1 hq).elim (fun e=>UM _ e) (fun e=>U8 _ (XI e))
   have E:List.Sublist (ws++(zh.take i++zh.drop (i+1))) (ws++zh):=by
    refine List.Sublist.append (List.Sublist.refl _) ?_
    have:=Zv B
    conv=>rhs;rw[this]
    exact List.Sublist.append (List.Sublist.refl _) (List.sublist_cons_self _ _)
   have O:∀q∈ws++zh,zg k q.ze 105 q.cells:=fun q hq=>(j.zu q hq).zf x (UY j.yr (j.zu q hq) d_)
   obtain⟨a,c,Y,_,_⟩:=Wr L.row
   refine⟨m,⟨a,_,c,Y⟩,⟨?_,?_,?_,?_,?_,?_,?_,?_⟩,(I.Vf x (fun b _ e=>.inr (.inr e))).setCell (p:=vA bt 3) (.inl rfl) _⟩
   ·have:=m.set 3 d
    simpa using this
   ·exact UQ (s8 j.yc x (fun g X e=>h.sep g X e)) (fun e=>K e) _
   ·exact UQ L.row (fun e=>z (by rw[<-M];exact e)) _
   ·exact fun q hq=>(O q (v q hq)).other _ _ (Wh (O q (v q hq)) m d_)
   ·exact fun b hb e=>h.sep b hb (by rw[<-M];exact e)
   ·exact E.nodup h.nd
   ·exact fun a u b hb e=>h.inj a (v a u) b (v b hb) e
   ·have:=E.length_le
    simp only[List.length_append]at this ⊢
    omega
  have S:=(List.nodup_append.1 h.nd).2.1;clear h o j I C;obtain⟨n1,rfl⟩:=Q;unfold zi at D
  go_wp2_with fail
  refine D.mono ?_
  rintro e k (⟨U,_,_⟩|⟨N,d,P,rfl,J,W,H⟩)
  ·exact absurd l U
  ·have ca:N=i:=(List.getElem?_inj (Uy.1 P).1 S).1 (P.trans B.symm);subst ca;obtain⟨m,⟨a,n,c,rfl⟩,hp⟩:=F k d J W H;have ka:=m.frozen 3;have Z:=m.cell 3;simp only[s7]at Z;clear F D J
   go_wp2_with fail
   go_end0
   exact⟨rfl,_,hp.out.1,hp.out.2,H⟩
 ·exact absurd (Uq ea) da
theorem oH{w:World}{bt:Nat}{vw va:Value}{zn:Int}{ws zh:List Pw}(h:xh w bt r (vI zn) vw va ws zh)(Ma:ws.length+zh.length<24)(Ka:0<=zn)(La:zn<=2000000)(q:Nat)(x:Wk)(X:x.zm=zn+1):
  Calls prog 100 #[.pointer (some (vA bt 1)),vP q,.agg #[vI x.d0,vI x.d1]] w fun e w'=>e=vR (vI (zn+1))/\∃c,xh w' bt r (vI (zn+1)) c va (ws++[⟨w.heap.size+1,x,q⟩]) zh/\zd (wz bt vw va) w w'/\(∀b,c.ownBlock=some b->vw.ownBlock=some b\/w.heap.size<=b):=by
 have J:vw.ownBlock≠some bt:=UY h.yc h.zl d_;have U:va.ownBlock≠some bt:=UY h.yr h.zl d_;have Ha:=h.zl.lt;obtain⟨a1,Ba,H,L,aa⟩:=Wr h.yc;have c1:=h.zl.cell 1;have c2:=h.zl.cell 2;have la:=h.zl.frozen 1;simp only[s7]at c1 c2;have n0:¬(bt=w.heap.size):=o_;have n1:¬(bt=w.heap.size+1):=o_;have n2:¬(bt=w.heap.size+1+1):=o_;have m0:¬(w.heap.size=bt):=o_;have m1:¬(w.heap.size+1=bt):=o_;have ra:¬(w.heap.size+1+1=bt):=o_
 go_enter func100,ntmps100
 go_upto_region 2 with fail
 have sa:vI (zn+1)=vI x.zm:=by rw[X]
 have s:xh (w.setCell (vA bt 1) (vI (zn+1))) bt r (vI (zn+1)) vw va ws zh:=by
  refine⟨?_,UQ h.yc (fun e=>J e) _,UQ h.yr (fun e=>U e) _,fun q hq=>(h.zu q hq).other _ _ (Wh (h.zu q hq) h.zl d_),h.sep,h.nd,h.inj,h.len⟩
  have:=h.zl.set 1 (vI (zn+1))
  simpa using this
 have Z:(w.setCell (vA bt 1) (vI (zn+1))).heap.size=w.heap.size:=s_;have D:Below (w.setCell (vA bt 1) (vI (zn+1))).heap.size (w.setCell (vA bt 1) (vI (zn+1))) ((w.setCell (vA bt 1) (vI (zn+1))).alloc (.cells #[vI x.d0,vI x.d1] 35)):=(Below.refl _ _).alloc (Nat.le_refl _) _;have i:=s.zf (T:=fun _=>False) (zd.new D) id (fun _ _=>id) (fun _ _=>id) (fun _ _=>id);have m:=i.zl;have F:zd (wz bt vw va) w ((w.setCell (vA bt 1) (vI (zn+1))).alloc (.cells #[vI x.d0,vI x.d1] 35)):=((zd.refl (wz bt vw va) w).setCell (p:=vA bt 1) (.inl rfl) _).WW D;have o:zg ((w.setCell (vA bt 1) (vI (zn+1))).alloc (.cells #[vI x.d0,vI x.d1] 35)) w.heap.size 35 #[vI x.d0,vI x.d1]:=by
  have:=zg.new (w.setCell (vA bt 1) (vI (zn+1))) 35 #[vI x.d0,vI x.d1]
  rwa[Z]at this
 have v:((w.setCell (vA bt 1) (vI (zn+1))).alloc (.cells #[vI x.d0,vI x.d1] 35)).heap.size=w.heap.size+1:=s_;clear s D Z;generalize ((w.setCell (vA bt 1) (vI (zn+1))).alloc (.cells #[vI x.d0,vI x.d1] 35))=d at m i F o v ⊢;have Ca:Hid (d.heap.size=w.heap.size+1):=v;have Da:=m.lt;have Ea:=o.lt;have G:=fun (W:World) (t:Bw d W) (Y:Nat) (ha:zg W Y 95 #[vP d.heap.size])=>Wv un94 cx o_ W vw ws.length (UN ws) (s8 (T:=fun _=>False) i.yc (zd.new t) (fun _ _ e=>e)) Y 1 1 o_ [vP d.heap.size] rfl ha (fun u V=>by simp at V;subst V;rfl) (by unfold maxLen;omega) o_
 have E:∀W,Bw d W->zg W d.heap.size 105 #[vI (zn+1),vP q,vI x.d0,vI x.d1]->∀g' cap' w',xq W vw.ownBlock 95 1 (ws.length+1) (UN ws++[vP d.heap.size]) g' cap' w'->zg w' bt 102 #[r,vI (zn+1),vw,va]/\zg w' w.heap.size 35 #[vI x.d0,vI x.d1]/\Hid (∀j,Below (w'.setCell (vA bt 2) (vS g' (ws.length+1) cap')).heap.size (w'.setCell (vA bt 2) (vS g' (ws.length+1) cap')) j->∃c,xh j bt r (vI (zn+1)) c va (ws++[⟨w.heap.size+1,x,q⟩]) zh/\zd (wz bt vw va) w j/\(∀b,c.ownBlock=some b->vw.ownBlock=some b\/w.heap.size<=b)):=by
  intro W t ua g' cap' w' R;have Na:=t.size;have I:=(m.below t m.lt).zf R.zf J;have ia:vw.ownBlock≠some w.heap.size:=fun e=>by
   have:=UY i.yc o d_
   exact this e
  have ca:vw.ownBlock≠some d.heap.size:=fun e=>by have:=UI i.yc e;omega
  have Aa:=(o.below t o.lt).zf R.zf ia;have ba:=ua.zf R.zf ca;have ma:g'≠bt:=fun e=>by
   rcases R.new with l|l
   ·rw[e]at l;exact J l
   ·omega
  have M:vw.ownBlock=some g'\/d.heap.size<=g':=R.new.imp id (fun e=>by omega);have K:zd (fun b=>vw.ownBlock=some b) d w':=(zd.new (T:=fun b=>vw.ownBlock=some b) t).Vf R.zf (fun b _ e=>e)
  refine⟨I,Aa,fun j S=>?_⟩
  have ea:(⟨w.heap.size+1,x,q⟩:Pw).cells=#[vI (zn+1),vP q,vI x.d0,vI x.d1]:=by
   simp[Pw.cells,zi,X]
  have B:∀y∈ws++zh,zg w' y.ze 105 y.cells/\y.ze<d.heap.size:=fun y k=>⟨(i.zu y k).zf K (UY i.yc (i.zu y k) d_),(i.zu y k).lt⟩
  have N:∀y∈ws++[⟨w.heap.size+1,x,q⟩]++zh,zg w' y.ze 105 y.cells:=fun y k=>by
   rcases UU.1 k with e|e
   ·rcases UU.1 e with e|e
    ·exact(B y (UM _ e)).1
    ·simp at e;subst e;rw[ea,<- v];exact ba
   ·exact(B y (U8 _ e)).1
  have ka:xh (w'.setCell (vA bt 2) (vS g' (ws.length+1) cap')) bt r (vI (zn+1)) (vS g' (ws.length+1) cap') va (ws++[⟨w.heap.size+1,x,q⟩]) zh:=by
   refine⟨?_,?_,?_,?_,?_,?_,?_,?_⟩
   ·have:=I.set 2 (vS g' (ws.length+1) cap')
    simpa using this
   ·have:UN (ws++[⟨w.heap.size+1,x,q⟩])=UN ws++[vP d.heap.size]:=by simp[UN,zi,v]
    rw[this,show(ws++[(⟨w.heap.size+1,x,q⟩:Pw)]).length=ws.length+1 by simp]
    exact UQ R.own (by simp[Value.ownBlock];exact ma) _
   ·exact UQ (s8 i.yr K (fun g oa e=>i.sep g e oa)) (fun e=>U e) _
   ·exact fun y k=>(N y k).other _ _ (Wh (N y k) I d_)
   ·intro b hb e
    simp[Value.ownBlock]at hb
    subst hb
    rcases M with l|l
    ·exact i.sep _ l e
    ·have:=UI i.yr e;omega
   ·have ga:(⟨w.heap.size+1,x,q⟩:Pw) ∉ ws++zh:=fun e=>by have:=(B _ e).2;simp at this;omega
    have:(ws++[(⟨w.heap.size+1,x,q⟩:Pw)]++zh).Perm ((⟨w.heap.size+1,x,q⟩:Pw)::(ws++zh)):=by
     rw[List.append_assoc];exact List.perm_middle
    rw[this.nodup_iff]
    exact List.nodup_cons.2 ⟨ga,i.nd⟩
   ·have Q:∀y∈ws++[⟨w.heap.size+1,x,q⟩]++zh,y=⟨w.heap.size+1,x,q⟩\/y∈ws++zh:=fun y k=>by
     simp only[UU,List.mem_singleton]at k ⊢
     rcases k with (e|e)|e
     ·exact .inr (.inl e)
     ·exact .inl e
     ·exact .inr (.inr e)
    intro a na b hb e
    rcases Q a na with z|z<;>rcases Q b hb with A|A
    ·rw[z,A]
    ·have:=(B b A).2;rw[z]at e;simp at e;omega
    ·have:=(B a z).2;rw[A]at e;simp at e;omega
    ·exact i.inj a z b A e
   ·simp only[List.length_append,List.length_singleton];omega
  refine⟨_,ka.zf (T:=fun _=>False) (zd.new S) id (fun _ _=>id) (fun _ _=>id) (fun _ _=>id),((F.Vf K (fun b _ e=>.inr (.inl e))).setCell (p:=vA bt 2) (.inl rfl) _).WW S,fun b hb=>?_⟩
  simp[Value.ownBlock]at hb
  subst hb
  exact M.imp id (fun e=>by omega)
 have O:=m.cell 1;have l:=m.cell 2;have P:=o.cell 0;have ja:=o.cell 1;simp only[s7]at O l P ja;generalize UN ws=Va at G E;rw[H]at l;have Ia:=m.lt;clear h i F c1 c2 la m;generalize pa:ws.length=n at G E l H L;clear pa sa L aa;subst H;have Qa:¬(bt=d.heap.size):=o_;have Ra:¬(bt=d.heap.size+1):=o_;have Sa:¬(w.heap.size=d.heap.size):=o_;have Ta:¬(w.heap.size=d.heap.size+1):=o_;clear n0 n1 n2 m0 m1 ra v;have Fa:=World.new_ne d (vA bt 1) O;have Ga:=World.new_ne d (vA w.heap.size 0) P
 go_region_law (refine WL rfl (.tmp 18) (.tmp 27) 98 98 rfl _ _ ?_ ?_ (G _ ?_ ?_ ?_) ?_;(focus (simp[Act.eval,Act.put]));(focus ((try simp[Act.eval,Act.put]);(try rfl)));(focus exact cl);(focus exact s6);rintro Xa f ⟨g1,Wa,rfl,C⟩;obtain⟨s,Ua,ta⟩:=E _ cl s6 _ _ _ C;have Ja:=s.frozen 2;have qa:=s.cell 2;have da:=s.cell 1;have Oa:=C.le;have Pa:=C.mx;simp only[s7]at qa da)
 all_goals (go_wp2_with fail;go_ret;refine⟨rfl,ta.out _ ?_⟩;exact cl)
theorem yt.dC{W:World}{za:List zc}{bt:Nat}{r:zc}{zw vw va:Value}{ws zh:List Pw}(h:yt W za bt r zw vw va ws zh):∀n∈za,¬wz bt vw va n.ze/\∀g,n.sl.ownBlock=some g->¬wz bt vw va g:=fun n d=>by
 have b:zg W n.ze 136 n.cells:=(h.yj n d).zl;have a:=(h.yj n d).row
 refine⟨?_,fun g c=>?_⟩
 ·rintro(e|e|e)
  ·exact Wh b h.bk.zl d_ e
  ·exact UY h.bk.yc b d_ e
  ·exact UY h.bk.yr b d_ e
 ·rintro(e|e|e)
  ·subst e;exact UY a h.bk.zl d_ c
  ·exact Xu a h.bk.yc d_ c e
  ·exact Xu a h.bk.yr d_ c e
theorem yt.next{W W':World}{za:List zc}{bt:Nat}{r:zc}{zw vw va:Value}{ws zh:List Pw}(h:yt W za bt r zw vw va ws zh)(b:xh W' bt (zi r.ze) Ek c s o k)(d:zd (wz bt vw va) W W')
  (a:∀p∈o++k,p∈ws++zh\/((∃n∈za,n.ze=p.q/\n.zb=p.x.zb)/\(0<=p.x.d0/\p.x.d0<=1000)/\(0<=p.x.d1/\p.x.d1<=1000))):yt W' za bt r Ek c s o k :=
 ⟨Y3 h.dC h.yj d,b,fun p hp=>(a p hp).elim (h.lf p) (fun e=>e.1),fun p hp=>(a p hp).elim (h.nm p) (fun e=>e.2)⟩
theorem dj{za:List zc}{zo:Nat}{s:Bs}(h:zS za zo s ok=0):∃n,zp za (s4 s)=some n/\n.zj=true/\ok=true/\zo<24:=by
 unfold zS at h
 split at h
 ·cases h
 ·split at h
  ·cases h
  ·rename_i n b
   refine⟨n,b,?_⟩
   cases a:n.zj<;>cases ok<;>simp[a]at h<;>simp
   omega
theorem pG{za:List zc}(c:zr za){w:World}{bt:Nat}{r:zc}{zw vw va:Value}{ws zh:List Pw}(h:yt w za bt r zw vw va ws zh)(l:r∈za)(g:r.zb=[])(s:ByteArray)(m:s.size<=2000000)(a b:Int)(k:zS za (ws.length+zh.length) (bl s) (Uu a b)≠0):
  Calls prog 59 #[vP bt,vG s,.agg #[vI a,vI b]] w fun e w'=>e=vR (.tuple #[vI 0,vI (zS za (ws.length+zh.length) (bl s) (Uu a b))])/\Bw w w':=by
 have i:=fun W (j:Bw w W)=>fx c (h.below j) l g s m a b
 have p:=h.bk.zl.lt;generalize zS za (ws.length+zh.length) (bl s) (Uu a b)=err at *;have o:(err == 0)=false:=by simp[k]
 have b0:zg (w.alloc (.cells #[vI a,vI b] 35)) w.heap.size 35 #[vI a,vI b]:=zg.new w 35 _;have n:=b0.cell
 go_enter func59,ntmps59
 go_wp2_with (first
  |(go_at_call 99;refine(i _ ?_).mono ?_;(focus exact cl);rintro e f ⟨rfl,d⟩))
 exact Us (v:=.tuple #[vI 0,vI err]) (by simp[results,results59,go_sem]) rfl ⟨rfl,s5 cl d⟩
theorem pH{za:List zc}(u:zr za){w:World}{bt:Nat}{r:zc}{zn:Int}{vw va:Value}{ws zh:List Pw}(h:yt w za bt r (vI zn) vw va ws zh)(Q:0<=zn)(g:zn<=2000000)(F:r∈za)(A:r.zb=[])(s:ByteArray)(G:s.size<=2000000)(a b:Int){n:zc}(q:zS za (ws.length+zh.length) (bl s) (Uu a b)=0)(E:zp za (s4 (bl s))=some n):
  Calls prog 59 #[vP bt,vG s,.agg #[vI a,vI b]] w fun e w'=>e=vT #[vI (zn+1),vI 0]/\∃c k,w.heap.size<=k/\yt w' za bt r (vI (zn+1)) c va (ws++[⟨k,⟨zn+1,s4 (bl s),a,b,0⟩,n.ze⟩]) zh/\zd (wz bt vw va) w w'/\(∀b,c.ownBlock=some b->vw.ownBlock=some b\/w.heap.size<=b):=by
 have B:=fun W (d:Bw w W)=>fx u (h.below d) F A s G a b
 rw[q]at B;obtain⟨da,N,ba,K,S⟩:=dj q;obtain⟨M,L⟩:=VZ E;have l:=fun W (d:Bw w W) v R=>XA u F A s G W (h.below d).yj v R
 rw[E]at l;have x:=fun W (d:Bw w W)=>oH (h.below d).bk S Q g n.ze ⟨zn+1,s4 (bl s),a,b,0⟩ rfl
 have aa:=h.bk.zl.lt;have o:∀W,Bw w W->W.cell? (vA bt 0)=some (zi r.ze):=fun W (d:Bw w W)=>(h.below d).bk.zl.cell 0
 have b0:zg (w.alloc (.cells #[vI a,vI b] 35)) w.heap.size 35 #[vI a,vI b]:=zg.new w 35 _;have Y:=b0.cell;simp only[zi]at l x o;clear q N;have T:¬wz bt vw va w.heap.size:=by
  rintro(e|e|e)
  ·omega
  ·have:=UI h.bk.yc e;omega
  ·have:=UI h.bk.yr e;omega
 go_enter func59,ntmps59
 go_upto_region 4 with (first
  |(go_at_call 99;refine(B _ ?_).mono ?_;(focus exact cl);rintro e f ⟨rfl,y⟩;have m:Bw w f:=s5 cl y;have b1:=b0.below y s_;have ca:=o f m;have d0:=b1.cell 0;have d1:=b1.cell 1;simp only[s7]at d0 d1))
 go_region_held3 (fun w'=>w'.cell? (vA bt 0)=some (vP r.ze)/\w'.cell? (vA w.heap.size 0)=some (vI a)/\w'.cell? (vA w.heap.size 1)=some (vI b)) (go_keep)
  (first
   |(go_at_call 63;refine(l _ ?_ (vP n.ze) rfl).mono ?_;(focus exact m.drew);rintro e t ⟨rfl,z⟩;have i:Bw w t:=s5 m.drew z;have b2:=zg.below (show zg f.drew w.heap.size 35 #[vI a,vI b] from b1) z b1.lt;have X:=o t i;have O:=b2.cell 0;have P:=b2.cell 1;simp only[s7]at O P)
   |(go_at_call 100;refine(x _ i).mono ?_;rintro e V ⟨rfl,U,C,H,J⟩;have b3:=b2.zf H T;have I:=C.zl.cell 0;have g0:=b3.cell 0;have g1:=b3.cell 1;simp only[s7,zi]at I g0 g1))
 go_wp2_with fail
 have Z:=i.size;have D:zd (wz bt vw va) w V:=(zd.new i).Vf H (fun b hb e=>e)
 refine Us (v:=.tuple #[vI (zn+1),vI 0]) (by simp[results,results59,go_sem]) rfl ⟨rfl,U,t.heap.size+1,o_,h.next C D (fun p hp=>?_),D,fun b hb=>?_⟩
 ·rcases UU.1 hp with g|g
  ·rcases UU.1 g with j|j
   ·exact .inl (UM _ j)
   ·simp only[List.mem_singleton]at j;subst j
    refine .inr ⟨⟨n,M,rfl,L⟩,?_⟩
    simp[Uu]at K
    simp only
    omega
  ·exact .inl (U8 _ g)
 ·rcases J b hb with e|e
  ·exact .inl e
  ·exact .inr o_
theorem yl.append{za:List zc}{Ws:List Wk}{ws zh:List Pw}(R:yl za Ws ws zh)(b:x.st=0){k:Nat}{n:zc}(h:n∈za)(g:n.zb=x.zb):yl za (Ws++[x]) (ws++[⟨k,x,n.ze⟩]) zh:=by
 obtain⟨c,d,f,h3⟩:=R.a
 refine⟨?_,⟨c,d,?_,h3⟩,fun p hp=>?_⟩
 ·rw[List.map_append,List.filter_append,R.w]
  simp[b]
 ·rw[List.filter_append]
  simpa [b] using f
 ·rcases UU.1 hp with e|e
  ·rcases UU.1 e with e|e
   ·exact R.zj p (UM _ e)
   ·simp only[List.mem_singleton]at e;subst e
    exact⟨n,h,rfl,g⟩
  ·exact R.zj p (U8 _ e)
def SetT (za:List zc)(bt:Nat)(r:zc)(zw vw va:Value)(ws zh:List Pw)(fin:SS)(ev:Value)(w w':World):Prop :=
 ∃c s o k,yt w' za bt r zw c s o k/\w'.ownsRow 0 60 2 ev fin.zt.length (UZ fin.zt)/\yl za fin.Ws o k/\zd (wz bt vw va) w w'/\(∀b,c.ownBlock=some b\/s.ownBlock=some b->vw.ownBlock=some b\/va.ownBlock=some b\/w.heap.size<=b)/\(∀b,ev.ownBlock=some b->w.heap.size<=b)/\(∀p∈o++k,p∈ws++zh\/w.heap.size<=p.ze)
theorem oO{za:List zc}(d:zr za){w:World}{bt:Nat}{r:zc}{zw vw va:Value}{ws zh:List Pw}(h:yt w za bt r zw vw va ws zh)(m:r∈za)(j:r.zb=[])(s:ByteArray)(n:s.size<=2000000)(a b:Int)(c:zS za (ws.length+zh.length) (bl s) (Uu a b)≠0):
  Calls prog 32 #[vP bt,vG s,.agg #[vI a,vI b]] w fun e w'=>e=vR (.tuple #[vI 0,v0_,vI (zS za (ws.length+zh.length) (bl s) (Uu a b))])/\Bw w w':=by
 have g:=fun W (l:Bw w W)=>pG d (h.below l) m j s n a b c
 have q:=h.bk.zl.lt;generalize zS za (ws.length+zh.length) (bl s) (Uu a b)=err at *;have o:=fun W=>XX (w:=W) (bt:=bt) c
 have b0:zg (w.alloc (.cells #[vI a,vI b] 35)) w.heap.size 35 #[vI a,vI b]:=zg.new w 35 _;have p:=b0.cell
 go_enter func32,ntmps32
 go_wp2_with (first
  |(go_at_call 59;refine(g _ ?_).mono ?_;(focus exact cl);rintro e f ⟨rfl,i⟩)
  |(go_at_call 51;refine(o _).mono ?_;rintro e t ⟨rfl,k⟩;subst k))
 exact Us (v:=.tuple #[vI 0,v0_,vI err]) (by simp[results,results32,go_sem]) rfl ⟨rfl,s5 cl i⟩
theorem oY{za:List zc}(j:zr za)(K:U_ za){w:World}{bt:Nat}{r:zc}{zn:Int}{vw va:Value}{ws zh:List Pw}(h:yt w za bt r (vI zn) vw va ws zh)(H:0<=zn)(J:zn<=2000000)(t:r∈za)(l:r.zb=[])(s:ByteArray)(N:s.size<=2000000)(a b:Int)(o:zS za (ws.length+zh.length) (bl s) (Uu a b)=0){Ws:List Wk}{st:Int}(R:yl za Ws ws zh)(I:ye ⟨Ws++[VR zn (bl s) a b],st,[]⟩):
  Calls prog 32 #[vP bt,vG s,.agg #[vI a,vI b]] w fun e w'=>∃ev,e=vT #[vI (zn+1),ev,vI 0]/\SetT za bt r (vI (zn+1)) vw va ws zh (UH (za.map zc.zq) ⟨Ws++[VR zn (bl s) a b],st,[]⟩) ev w w':=by
 obtain⟨n,q,ca,aa,ga⟩:=dj o;obtain⟨D,C⟩:=VZ q;have y:=fun W (M:Bw w W)=>pH j (h.below M) H J t l s N a b o q
 have u:=fun W c k (L:yt W za bt r (vI (zn+1)) c va (ws++[⟨k,⟨zn+1,s4 (bl s),a,b,0⟩,n.ze⟩]) zh)=>ZT j K L t l (s0:=⟨Ws++[VR zn (bl s) a b],st,[]⟩) (R.append (x:=VR zn (bl s) a b) rfl D C) I rfl
 generalize UH (za.map zc.zq) ⟨Ws++[VR zn (bl s) a b],st,[]⟩=fin at u ⊢;have ba:=h.bk.zl.lt;have b0:zg (w.alloc (.cells #[vI a,vI b] 35)) w.heap.size 35 #[vI a,vI b]:=zg.new w 35 _;have Z:=b0.cell
 go_enter func32,ntmps32
 go_wp2_with (first
  |(go_at_call 59;refine(y _ ?_).mono ?_;(focus exact cl);rintro e f ⟨rfl,da,ea,B,G,E,i⟩)
  |(go_at_call 51;refine(u _ _ _ G).mono ?_;rintro e ha ⟨P,F,m,Q,O,rfl,m1,S,T,U,V,X,Y⟩))
 have A:Bw w (w.alloc (.cells #[vI a,vI b] 35)):=cl;have g:zd (wz bt vw va) w f:=(zd.new A).Vf E (fun b hb e=>e);have z:=g.size
 refine Us (v:=.tuple #[vI (zn+1),m,vI 0]) (by simp[results,results32,go_sem]) rfl ⟨m,rfl,P,F,Q,O,m1,S,T,g.Vf U (fun b hb e=>?_),fun b hb=>?_,fun b hb=>Nat.le_trans z (X b hb),fun p hp=>?_⟩
 ·rcases e with e|e|e
  ·exact .inl e
  ·rcases i b e with d|d
   ·exact .inr (.inl d)
   ·simp at d;omega
  ·exact .inr (.inr e)
 ·rcases V b hb with e|e|e
  ·rcases i b e with d|d
   ·exact .inl d
   ·simp at d;exact .inr (.inr o_)
  ·exact .inr (.inl e)
  ·exact .inr (.inr o_)
 ·rcases UU.1 (Y p hp) with e|e
  ·rcases UU.1 e with e|e
   ·exact .inl (UM _ e)
   ·simp only[List.mem_singleton]at e;subst e
    simp at B
    exact .inr (by simp only;omega)
  ·exact .inl (U8 _ e)
theorem aG{α : Type}(g : α -> Int):∀ {l:List α},(l.map g).Nodup->∀ {i:Nat} {x : α},l[i]?=some x->l.take i++l.drop (i+1)=l.filter (fun y=>!(g y == g x))
 | [],_,i,x,h=>by simp at h
 |a::l,c,0,x,h=>by
  simp only[List.getElem?_cons_zero,Option.some.injEq]at h;subst h;simp only[List.map_cons,List.nodup_cons]at c;simp only[List.take_zero,List.nil_append,Nat.zero_add,List.drop_succ_cons,List.drop_zero];rw[List.filter_cons_of_neg s_]
  symm
  rw[List.filter_eq_self];intro b hb
  have:g b≠g a:=fun e=>c.1 (e ▸ VF hb)
  simp[this]
 |a::l,c,i+1,x,h=>by
  simp only[List.getElem?_cons_succ]at h;simp only[List.map_cons,List.nodup_cons]at c;have d:g a≠g x:=fun e=>c.1 (e ▸ VF (Uq h))
  simp only[List.take_succ_cons,List.drop_succ_cons,List.cons_append];rw[List.filter_cons_of_pos (by simp[d]),aG g c.2 h]
theorem yl.ll{za:List zc}{Ws:List Wk}{ws zh:List Pw}(R:yl za Ws ws zh)(m:Int):yl za (Ws.filter fun y=>!(y.zm == m)) (ws.filter fun p=>!(p.x.zm == m)) (zh.filter fun p=>!(p.x.zm == m)):=by
 obtain⟨c,d,e,h3⟩:=R.a;have b:∀l:List Pw,(l.filter fun p=>!(p.x.zm == m)).map (·.x)=(l.map (·.x)).filter fun y=>!(y.zm == m):=fun l=>by rw[List.filter_map];rfl
 refine⟨?_,⟨c.filter fun y=>!(y.zm == m),?_,?_,h3.sublist List.filter_sublist⟩,fun p hp=>?_⟩
 ·rw[b,R.w,List.filter_filter,List.filter_filter]
  exact List.filter_congr fun x _=>Bool.and_comm _ _
 ·rw[b,d,List.filter_map];rfl
 ·rw[List.filter_filter]
  have:=e.filter fun y=>!(y.zm == m)
  rw[List.filter_filter]at this
  refine this.trans (List.Perm.of_eq (List.filter_congr fun x _=>Bool.and_comm _ _))
 ·rw[<-List.filter_append]at hp
  exact R.zj p (Vu.1 hp).1
theorem pZ{za:List zc}{Ws:List Wk}{ws zh:List Pw}(R:yl za Ws ws zh){st:Int}(a:vr Ws st):((ws++zh).map (·.x.zm)).Nodup:=(R.nums (fun x b=>(a.st x b).1)).nodup_iff.2 a.nums
theorem jk(h:∀p∈l,p.x.zm≠m):(l.filter fun p=>!(p.x.zm == m))=l:=by
 rw[List.filter_eq_self];intro p hp
 simp[h p hp]
theorem yl.found{za:List zc}{Ws:List Wk}{ws zh:List Pw}(R:yl za Ws ws zh){st:Int}(l:vr Ws st)(s:Ws[i]?=some x):
  ∃p b,tp ws zh x.zm=(zi p.ze,b)/\((∃j,ws[j]?=some p/\yl za (Ws.take i++Ws.drop (i+1)) (ws.take j++ws.drop (j+1)) zh)\/(∃j,zh[j]?=some p/\yl za (Ws.take i++Ws.drop (i+1)) ws (zh.take j++zh.drop (j+1)))):=by
 have r:=pZ R l;rw[List.map_append,List.nodup_append]at r;obtain⟨u,t,v⟩:=r;have m:x.zm∈(ws++zh).map (·.x.zm):=(R.nums (fun x m=>(l.st x m).1)).mem_iff.2 (VF (Uq s));have c:=R.ll x.zm;rw[<-aG (·.zm) l.nums s]at c
 cases d:V1 zh x.zm with
 |some p =>
  have hp:p∈zh:=List.mem_of_find?_eq_some d;have k:p.x.zm=x.zm:=by have:=List.find?_some d;simpa using this
  obtain⟨j,f⟩:=Vh hp
  refine⟨p,true,by simp[tp,d],.inr ⟨j,f,?_⟩⟩
  have a:=aG (·.x.zm) t f;rw[k]at a;rw[<-a,jk (fun q hq=>fun e=>v _ (VF hq) _ (VF hp) (e.trans k.symm))]at c
  exact c
 |none =>
  have o:∀q∈zh,q.x.zm≠x.zm:=fun q hq e=>by
   have:=List.find?_eq_none.1 d q hq
   simp[e]at this
  obtain⟨q,hq,n⟩:=UC.1 m;have hq:q∈ws:=(UU.1 hq).resolve_right (fun h=>o q h n)
  cases g:V1 ws x.zm with
  |none =>
   have:=List.find?_eq_none.1 g q hq
   simp[n]at this
  |some p =>
   have hp:p∈ws:=List.mem_of_find?_eq_some g;have k:p.x.zm=x.zm:=by have:=List.find?_some g;simpa using this
   obtain⟨j,f⟩:=Vh hp
   refine⟨p,false,by simp[tp,d,g,xd],.inl ⟨j,f,?_⟩⟩
   have a:=aG (·.x.zm) u f;rw[k]at a;rw[<-a,jk o]at c
   exact c
theorem yl.lost{za:List zc}{Ws:List Wk}{ws zh:List Pw}(R:yl za Ws ws zh){st:Int}(d:vr Ws st)(h:∀x∈Ws,x.zm≠m):tp ws zh m=(.pointer none,false):=by
 have b:∀q∈ws++zh,q.x.zm≠m:=fun q hq e=>by
  have:=(R.nums (fun x a=>(d.st x a).1)).mem_iff.1 (VF hq)
  obtain⟨x,a,c⟩:=UC.1 this
  exact h x a (c.trans e)
 have f:V1 zh m=none:=List.find?_eq_none.2 fun q hq=>by simp[b q (U8 _ hq)]
 have g:V1 ws m=none:=List.find?_eq_none.2 fun q hq=>by simp[b q (UM _ hq)]
 simp[tp,f,g,xd]
theorem pz{za:List zc}{w:World}{bt:Nat}{r:zc}{zw vw va:Value}{ws zh:List Pw}(h:yt w za bt r zw vw va ws zh)(d:tp ws zh m=(.pointer none,false)):
  Calls prog 55 #[vP bt,vI m] w fun e w'=>e=vR (vI 12)/\Bw w w':=by
 have a:=fun W (c:Bw w W)=>bm (h.below c).bk m
 rw[d]at a;have g:=h.bk.zl.lt
 go_enter func55,ntmps55
 go_wp2_with (first
  |(go_at_call 46;refine(a _ ?_).mono ?_;(focus exact cl);rintro e f ⟨rfl,b⟩;subst b))
 exact Us (v:=vI 12) (by simp[results,results55,go_sem]) rfl ⟨rfl,cl⟩
theorem pA{za:List zc}{w:World}{bt:Nat}{r:zc}{zw vw va:Value}{ws zh:List Pw}(h:yt w za bt r zw vw va ws zh){Ws:List Wk}{st:Int}(R:yl za Ws ws zh)(D:vr Ws st)(E:Ws[i]?=some x):
  Calls prog 55 #[vP bt,vI x.zm] w fun e w'=>e=vR (vI 0)/\∃c s o k,yt w' za bt r zw c s o k/\yl za (Ws.take i++Ws.drop (i+1)) o k/\zd (wz bt vw va) w w'/\(∀b,c.ownBlock=some b\/s.ownBlock=some b->vw.ownBlock=some b\/va.ownBlock=some b)/\(∀p∈o++k,p∈ws++zh):=by
 obtain⟨p,b,hb,A⟩:=R.found D E;have m:=fun W (d:Bw w W)=>bm (h.below d).bk x.zm
 rw[hb]at m;have z:∀W,Bw w W->Calls prog 83 #[.pointer (some (vA bt 1)),zi p.ze] W fun e w'=>e=vT #[]/\∃c s o k,yt w' za bt r zw c s o k/\yl za (Ws.take i++Ws.drop (i+1)) o k/\zd (wz bt vw va) W w'/\(∀b,c.ownBlock=some b\/s.ownBlock=some b->vw.ownBlock=some b\/va.ownBlock=some b)/\(∀p∈o++k,p∈ws++zh):=by
  intro W d
  rcases A with ⟨j,t,n⟩|⟨j,t,n⟩
  ·refine(sG (h.below d).bk t).mono ?_
   rintro e w' ⟨rfl,c,u,g,y⟩
   have l:∀q∈(ws.take j++ws.drop (j+1))++zh,q∈ws++zh:=fun q hq=>by
    rcases UU.1 hq with a|a
    ·exact UM _ (XI a)
    ·exact U8 _ a
   refine⟨rfl,c,va,_,_,(h.below d).next u g (fun q hq=>.inl (l q hq)),n,g,fun b e=>?_,l⟩
   rw[y]at e;exact e
  ·refine(sF (h.below d).bk t).mono ?_
   rintro e w' ⟨rfl,s,u,g,y⟩
   have l:∀q∈ws++(zh.take j++zh.drop (j+1)),q∈ws++zh:=fun q hq=>by
    rcases UU.1 hq with a|a
    ·exact UM _ a
    ·exact U8 _ (XI a)
   refine⟨rfl,vw,s,_,_,(h.below d).next u g (fun q hq=>.inl (l q hq)),n,g,fun b e=>?_,l⟩
   rw[y]at e;exact e
 have N:=h.bk.zl.lt;have M:=fun W=>ZD (W:=W) (x:=p)
 clear A;unfold zi at m z
 go_enter func55,ntmps55
 go_wp2_with (first
  |(go_at_call 46;refine(m _ ?_).mono ?_;(focus exact cl);rintro e f ⟨rfl,B⟩;subst B)
  |(go_at_call 83;refine(z _ ?_).mono ?_;(focus exact cl);rintro e O ⟨rfl,G,C,H,F,m1,I,J,K,L⟩))
 exact Us (v:=vI 0) (by simp[results,results55,go_sem]) rfl ⟨rfl,G,C,H,F,m1,I,(zd.new cl).Vf J (fun b hb e=>e),K,L⟩
theorem oL{za:List zc}{w:World}{bt:Nat}{r:zc}{zw vw va:Value}{ws zh:List Pw}(h:yt w za bt r zw vw va ws zh){Ws:List Wk}{st:Int}(R:yl za Ws ws zh)(d:vr Ws st)(i:∀x∈Ws,x.zm≠m):
  Calls prog 28 #[vP bt,vI m] w fun e w'=>e=vT #[v0_,vI 12]/\Bw w w':=by
 have a:=fun W (g:Bw w W)=>pz (h.below g) (R.lost d i)
 have j:=fun W=>XX (w:=W) (bt:=bt) (x:=12) d_
 have k:=h.bk.zl.lt
 go_enter func28,ntmps28
 go_wp2_with (first
  |(go_at_call 55;refine(a _ ?_).mono ?_;(focus exact cl);rintro e f ⟨rfl,b⟩)
  |(go_at_call 51;refine(j _).mono ?_;rintro e l ⟨rfl,c⟩;subst c))
 exact Us (v:=.tuple #[v0_,vI 12]) (by simp[results,results28,go_sem]) rfl ⟨rfl,s5 cl b⟩
theorem oM{za:List zc}(m:zr za)(y:U_ za){w:World}{bt:Nat}{r:zc}{zw vw va:Value}{ws zh:List Pw}(h:yt w za bt r zw vw va ws zh)(D:r∈za)(q:r.zb=[]){Ws:List Wk}{st:Int}(R:yl za Ws ws zh)(I:ye ⟨Ws,st,[]⟩)(C:Ws[i]?=some x)(l:ye ⟨Ws.take i++Ws.drop (i+1),st,[]⟩):
  Calls prog 28 #[vP bt,vI x.zm] w fun e w'=>∃ev,e=vT #[ev,vI 0]/\SetT za bt r zw vw va ws zh (UH (za.map zc.zq) ⟨Ws.take i++Ws.drop (i+1),st,[]⟩) ev w w':=by
 have n:=fun W (B:Bw w W)=>pA (h.below B) R I.yh C
 have j:=fun W c s o k (A:yt W za bt r zw c s o k) (z:yl za (Ws.take i++Ws.drop (i+1)) o k)=>ZT m y A D q (s0:=⟨Ws.take i++Ws.drop (i+1),st,[]⟩) z l rfl
 generalize UH (za.map zc.zq) ⟨Ws.take i++Ws.drop (i+1),st,[]⟩=fin at j ⊢;have Q:=h.bk.zl.lt
 go_enter func28,ntmps28
 go_wp2_with (first
  |(go_at_call 55;refine(n _ ?_).mono ?_;(focus exact cl);rintro e f ⟨rfl,U,S,yg,T,n1,n2,O,a,P⟩)
  |(go_at_call 51;refine(j _ _ _ _ _ n1 n2).mono ?_;rintro e V ⟨F,u,g,G,E,rfl,m1,H,J,K,L,M,N⟩))
 have d:zd (wz bt vw va) w f:=(zd.new cl).Vf O (fun b hb e=>e);have t:=d.size
 refine Us (v:=.tuple #[g,vI 0]) (by simp[results,results28,go_sem]) rfl ⟨g,rfl,F,u,G,E,m1,H,J,d.Vf K (fun b hb e=>?_),fun b hb=>?_,fun b hb=>Nat.le_trans t (M b hb),fun p hp=>.inl (P p (N p hp))⟩
 ·rcases e with e|e
  ·exact .inl e
  ·exact .inr (a b e)
 ·rcases L b hb with e|e|e
  ·exact(a b (.inl e)).imp id .inl
  ·exact(a b (.inr e)).imp id .inl
  ·exact .inr (.inr o_)
structure UJ (τ : Nat->yd) (t:Nat) (W:World) (bt:Nat) (za:List zc) (zn:Int) (vw va:Value) (ws zh:List Pw):Prop where
 pr:X2 τ t W bt za (vI zn) vw va
 bk:∃r,za[0]?=some r/\yt W za bt r (vI zn) vw va ws zh
 vf:∀b,vw.ownBlock=some b\/va.ownBlock=some b -> τ b=.book t
 ptag:∀p∈ws++zh,τ p.ze=.work t
section
variable {τ τ':Nat->yd}{t:Nat}{W W':World}{bt:Nat}{za:List zc}{zn:Int}{vw va:Value}{ws zh:List Pw}
theorem X2.WY{c2:Value}(h:X2 τ t W bt za c1 c2 c3):U_ za:=fun a c b hb e=>by
 exact h.uk a c b hb e
theorem UJ.lts(h:UJ τ t W bt za zn vw va ws zh):bt<W.heap.size/\(∀b,vw.ownBlock=some b\/va.ownBlock=some b->b<W.heap.size)/\(∀p∈ws++zh,p.ze<W.heap.size):=by
 obtain⟨r,_,hb⟩:=h.bk
 exact⟨hb.bk.zl.lt,fun b e=>e.elim (fun e=>UI hb.bk.yc e) (fun e=>UI hb.bk.yr e),fun p hp=>(hb.bk.zu p hp).lt⟩
theorem UJ.zf(h:UJ τ t W bt za zn vw va ws zh)(k:zd T W W')(c:∀b,b<W.heap.size->T b->¬(τ b).prog t)(d:∀b,b<W.heap.size -> τ' b = τ b):UJ τ' t W' bt za zn vw va ws zh:=by
 have hp:=h.pr.zf k c d;obtain⟨l1,l2,f⟩:=h.lts;obtain⟨r,g,hb⟩:=h.bk
 refine⟨hp,⟨r,g,hp.yj,?_,hb.lf,hb.nm⟩,fun b e=>by rw[d b (l2 b e)];exact h.vf b e,fun p hq=>by rw[d _ (f p hq)];exact h.ptag p hq⟩
 exact hb.bk.zf k (fun e=>c _ l1 e (by rw[h.pr.ui];rfl)) (fun b e a=>c _ (l2 b (.inl e)) a (by rw[h.vf b (.inl e)];rfl)) (fun b e a=>c _ (l2 b (.inr e)) a (by rw[h.vf b (.inr e)];rfl)) (fun p hq a=>c _ (f p hq) a (by rw[h.ptag p hq];rfl))
open Classical in
theorem UJ.set(h:UJ τ t W bt za zn vw va ws zh){r:zc}(hr:za[0]?=some r)(hs:SetT za bt r (.int .i64 last') vw va ws zh fin ev W W'):
  ∃τ' c s o k,(∀x,x<W.heap.size -> τ' x = τ x)/\(∀x,W.heap.size<=x -> τ' x=.free\/(τ' x).prog t)/\UJ τ' t W' bt za last' c s o k/\yl za fin.Ws o k/\W'.ownsRow 0 60 2 ev fin.zt.length (UZ fin.zt)/\(∀b,ev.ownBlock=some b->W.heap.size<=b /\ τ' b=.free)/\zd (fun x=>x<W.heap.size/\(τ x).prog t) W W':=by
 obtain⟨c,s,o,k,m1,m2,m3,m4,m5,m6,m7⟩:=hs;obtain⟨l1,l2,l3⟩:=h.lts;obtain⟨τ',ij⟩:∃τ':Nat->yd,τ'=fun x=>if x<W.heap.size then τ x else if c.ownBlock=some x\/s.ownBlock=some x then .book t else if ∃p∈o++k,p.ze=x then .work t else .free:=⟨_,rfl⟩
 have jm:∀x,x<W.heap.size -> τ' x = τ x:=fun x hx=>by rw[ij];simp[hx]
 have OT:∀p∈o++k,¬(c.ownBlock=some p.ze\/s.ownBlock=some p.ze):=fun p hp e=>by
  rcases e with e|e
  ·exact UY m1.bk.yc (m1.bk.zu p hp) (by decide) e
  ·exact UY m1.bk.yr (m1.bk.zu p hp) (by decide) e
 refine⟨τ',c,s,o,k,jm,fun x hx=>?_,⟨⟨h.pr.tree,m1.yj,fun i n hi=>?_,⟨r,hr,m1.bk.zl⟩,?_,h.pr.uk⟩,⟨r,hr,m1⟩,fun b e=>?_,fun p hp=>?_⟩,m3,m2,fun b e=>⟨m6 b e,?_⟩,?_⟩
 ·rw[ij];simp only[Nat.not_lt.2 hx,if_false]
  split
  ·exact .inr rfl
  ·split
   ·exact .inr rfl
   ·exact .inl rfl
 ·obtain⟨t1,t2⟩:=h.pr.tags i n hi;have hn:=h.pr.yj n (Uq hi)
  exact⟨by rw[jm _ hn.lt];exact t1,fun g hg=>by rw[jm _ (hn.row.lt g hg).2];exact t2 g hg⟩
 ·rw[jm _ l1];exact h.pr.ui
 ·rcases m5 b e with e2|e2|e2
  ·rw[jm _ (l2 b (.inl e2))];exact h.vf b (.inl e2)
  ·rw[jm _ (l2 b (.inr e2))];exact h.vf b (.inr e2)
  ·rw[ij];simp[Nat.not_lt.2 e2,e]
 ·rcases m7 p hp with e|e
  ·rw[jm _ (l3 p e)];exact h.ptag p e
  ·have h1:∃q∈o++k,q.ze=p.ze:=⟨p,hp,rfl⟩;rw[ij];simp only[Nat.not_lt.2 e,if_false,OT p hp,if_pos h1]
 ·have h1:¬b<W.heap.size:=Nat.not_lt.2 (m6 b e);have h2:¬(c.ownBlock=some b\/s.ownBlock=some b):=fun e2=>by
   rcases e2 with e2|e2
   ·exact Xu m2 m1.bk.yc (by decide) e e2
   ·exact Xu m2 m1.bk.yr (by decide) e e2
  have h3:¬ ∃p∈o++k,p.ze=b:=fun ⟨p,hp,e2⟩=>by
   subst e2
   exact UY m2 (m1.bk.zu p hp) (by decide) e
  rw[ij];simp only[h1,h2,if_false,if_neg h3]
 ·refine(zd.refl _ W).Vf m4 (fun x hx e=>⟨hx,?_⟩)
  rcases e with e|e|e
  ·rw[e,h.pr.ui];rfl
  ·rw[h.vf x (.inl e)];rfl
  ·rw[h.vf x (.inr e)];rfl
theorem UJ.hung(h:UJ τ t W bt za zn vw va ws zh){w:World}(J:Bw W w)(hq:W.heap.size<=q){s:Bs}{b c:Int}
  (G:UB s=true) (hd:WR s<=4) (E:(0<=a/\a<=1000)/\(0<=b/\b<=1000)/\(0<=c/\c<=1000)/\(0<=d/\d<=1000)/\(zj=false->a=0/\b=0))
  (hp:dF za q s zj a b c d w w') :
  ∃τ' j,(∀x,x<W.heap.size -> τ' x = τ x)/\(∀x,W.heap.size<=x -> τ' x=.free\/(τ' x).prog t)/\UJ τ' t w' bt j zn vw va ws zh/\j.map zc.zq=za.map zc.zq++[⟨s4 s,zj,a,b,c,d⟩] /\
   zd (fun x=>x<W.heap.size/\(τ x).prog t) W w'/\(∀n∈za,∃o∈j,o.ze=n.ze/\o.zb=n.zb):=by
 obtain⟨τ',j,g1,g2,g3,g4,m,v,K⟩:=h.pr.hung J hq G hd E hp;obtain⟨l1,l2,I⟩:=h.lts;obtain⟨r,L,hb⟩:=h.bk;obtain⟨r',z,A⟩:=g3.tow
 refine⟨τ',j,g1,g2,⟨g3,⟨r',z,g3.yj,⟨A,?_,?_,?_,hb.bk.sep,hb.bk.nd,hb.bk.inj,hb.bk.len⟩,fun p hp=>?_,hb.nm⟩,fun b e=>by rw[g1 b (l2 b e)];exact h.vf b e,fun p hq=>by rw[g1 _ (I p hq)];exact h.ptag p hq⟩,g4,(zd.refl _ W).Vf m (fun x H e=>⟨H,?_⟩),v⟩
 ·exact s8 hb.bk.yc m (fun g u e=>by have:=e.2.1;rw[h.vf g (.inl u)]at this;simp at this)
 ·exact s8 hb.bk.yr m (fun g u e=>by have:=e.2.1;rw[h.vf g (.inr u)]at this;simp at this)
 ·exact fun p hp=>(hb.bk.zu p hp).zf m (fun e=>by have:=e.2.1;rw[h.ptag p hp]at this;simp at this)
 ·obtain⟨n,F,f,l⟩:=hb.lf p hp;obtain⟨o,B,C,D⟩:=v n F
  exact⟨o,B,C.trans f,D.trans l⟩
 ·obtain⟨_,f,l⟩:=e;generalize τ x=y at f l;obtain⟨k,M,i⟩:=y
  simp only at f l
  rcases f with f|f<;>subst f<;>exact l
theorem yl.b8{za c:List zc}{Ws:List Wk}{ws zh:List Pw}(R:yl za Ws ws zh)(h:∀n∈za,∃b∈c,b.ze=n.ze/\b.zb=n.zb):yl c Ws ws zh :=
 ⟨R.w,R.a,fun p hp=>by
  obtain⟨n,j,d,e⟩:=R.zj p hp;obtain⟨b,f,g,i⟩:=h n j
  exact⟨b,f,g.trans d,i.trans e⟩⟩
end
def X7 (τ : Nat->yd)(t:Nat)(W:World)(bt:Nat)(za:List zc)(zn:Int)(Ws:List Wk)(st:Int)(err:Int)(x:zx)(e:Ending)(w':World):Prop :=
 (err≠0/\e=vT #[v0_,vI err]/\Bw W w') \/
 (err=0/\∃τ' a c s o k ev,e=vT #[ev,vI 0]/\(∀b,b<W.heap.size -> τ' b = τ b)/\(∀b,W.heap.size<=b -> τ' b=.free\/(τ' b).prog t)/\UJ τ' t w' bt a zn c s o k /\
  a.map zc.zq=za.map zc.zq++[x]/\yl a (UH (za.map zc.zq++[x]) ⟨Ws,st,[]⟩).Ws o k/\w'.ownsRow 0 60 2 ev (UH (za.map zc.zq++[x]) ⟨Ws,st,[]⟩).zt.length (UZ (UH (za.map zc.zq++[x]) ⟨Ws,st,[]⟩).zt)/\(∀b,ev.ownBlock=some b->W.heap.size<=b /\ τ' b=.free)/\zd (fun b=>b<W.heap.size/\(τ b).prog t) W w')
def Yr (τ : Nat->yd)(t:Nat)(W:World)(bt:Nat)(za:List zc)(zn:Int)(vw va:Value)(ws zh:List Pw)(Ws:List Wk)(x:zx)(w':World):Prop :=
 ∃τ' a,(∀b,b<W.heap.size -> τ' b = τ b)/\(∀b,W.heap.size<=b -> τ' b=.free\/(τ' b).prog t)/\UJ τ' t w' bt a zn vw va ws zh/\a.map zc.zq=za.map zc.zq++[x]/\yl a Ws ws zh/\zd (fun b=>b<W.heap.size/\(τ b).prog t) W w'
section
variable {τ : Nat->yd}{t:Nat}{W:World}{bt:Nat}{za:List zc}{zn:Int}{vw va:Value}{ws zh:List Pw}{Ws:List Wk}{st:Int}
theorem Ww{za:List zc}(T:zr za){r:zc}(h:za[0]?=some r):r∈za/\r.zb=[]:=by
 obtain⟨r',a,b,_⟩:=T.root;rw[h]at a;cases a
 exact⟨Uq h,b⟩
theorem nw{x:zx}(h:Yr τ t W bt za zn vw va ws zh Ws x f)(I:ye ⟨Ws,st,[]⟩):
  Calls prog 51 #[vP bt,vI 0] f fun e w'=>X7 τ t W bt za zn Ws st 0 x e w':=by
 obtain⟨τ1,q,g1,g2,g3,g4,o,c⟩:=h;obtain⟨r,d,K⟩:=g3.bk;obtain⟨s,m⟩:=Ww g3.pr.tree d
 refine(ZT g3.pr.tree g3.pr.WY K s m (s0:=⟨Ws,st,[]⟩) o I rfl).mono ?_
 rintro e w' ⟨v,n,a,w,u,rfl,m1,C,D,E,F,G,H⟩
 obtain⟨τ2,L,M,B,J,g,y,z,i,j,k,A⟩:=g3.set d (last':=zn) (ev:=a) ⟨v,n,w,u,m1,C,D,E,F,G,fun p hp=>.inl (H p hp)⟩;have N:=c.size;rw[g4]at i j
 refine .inr ⟨rfl,τ2,q,L,M,B,J,a,rfl,fun b hb=>(g b o_).trans (g1 b hb),fun b hb=>?_,z,g4,i,j,fun b hb=>⟨by have:=(k b hb).1;omega,(k b hb).2⟩,c.Vf A (fun b hb e=>⟨hb,by have:=e.2;rw[g1 b hb]at this;exact this⟩)⟩
 by_cases l:b<f.heap.size
 ·rw[g b l];exact g2 b hb
 ·exact y b o_
theorem e8{w:World}(h:UJ τ t W bt za zn vw va ws zh)(R:yl za Ws ws zh)(m:Bw W w)(s:ByteArray)(J:s.size<=2000000)(k cp:Nat)(l:List (Int×Int))(H:l.length<=100)(hb:k<w.heap.size)
  (F:∀(j:Nat) (x:Int×Int),l[j]?=some x->w.cell? (vA k (j*2))=some (vI x.1)/\w.cell? (vA k (j*2+1))=some (vI x.2))
  (q:Nat) (hq:W.heap.size<=q) (zj:Bool) (a b c d:Int) (M:zg w q 136 #[vG ⟨#[]⟩,.bool zj,vI a,vI b,vI c,vI d,.pointer none,v0_])
  (D:UX l=true->(0<=a/\a<=1000)/\(0<=b/\b<=1000)/\(0<=c/\c<=1000)/\(0<=d/\d<=1000)/\(zj=false->a=0/\b=0)) :
  Calls prog 52 #[vP bt,vG s,vP q,vS k l.length cp] w fun e w'=>e=vR (vI (VC za (bl s) (UX l)))/\(VC za (bl s) (UX l)≠0->Bw W w')/\(VC za (bl s) (UX l)=0->Yr τ t W bt za zn vw va ws zh Ws ⟨s4 (bl s),zj,a,b,c,d⟩ w')/\zd (fun x=>x<W.heap.size\/x=q) w w':=by
 obtain⟨r,z,N⟩:=h.bk;obtain⟨I,v⟩:=Ww h.pr.tree z;have y:w.cell? (vA bt 0)=some (zi r.ze):=(N.below m).bk.zl.cell 0
 refine(sK h.pr.tree w (fun n f=>(h.pr.yj n f).below m) I v bt y s J k cp l H hb F q zj a b c d M (fun n f=>?_)).mono ?_
 ·obtain⟨i,G⟩:=Vh f;obtain⟨O,P⟩:=h.pr.tags i n G
  refine⟨fun e=>by have:=(h.pr.yj n f).lt;omega,fun e=>by have:=((h.pr.yj n f).row.lt _ e).2;omega,fun e=>by have:=P _ e;rw[O]at this;cases this⟩
 ·rintro e w' (⟨g,rfl,o⟩|⟨g,rfl,hp⟩)
  ·exact⟨rfl,fun _=>s5 m o,fun e=>absurd e g,zd.new o⟩
  ·obtain⟨K,Q,A,hd,_⟩:=gu g;obtain⟨τ',u,g1,g2,g3,g4,B,C⟩:=h.hung m hq K hd (D A) hp
   refine⟨by rw[g],fun e=>absurd g e,fun _=>⟨τ',u,g1,g2,g3,g4,R.b8 C,B⟩,?_⟩
   obtain⟨p,nm,S,zl,sl,h3,_,_,_,_,E⟩:=hp.ex
   refine E.zf.mono (fun x L=>?_)
   have f:=h.pr.yj p h3
   rcases L with rfl|rfl|e
   ·exact .inl f.lt
   ·exact .inr rfl
   ·exact .inl (f.row.lt _ e).2
end
theorem X7.ret{τ : Nat->yd}{t:Nat}{W:World}{bt:Nat}{za:List zc}{zn:Int}{Ws:List Wk}{st:Int}{x:zx}{e:Ending}(h:X7 τ t W bt za zn Ws st 0 x e w'):∃ev,e=vT #[ev,vI 0]:=by
 rcases h with ⟨h,_⟩|⟨_,_,_,_,_,_,_,ev,h,_⟩
 ·exact absurd rfl h
 ·exact⟨ev,h⟩
theorem kI{τ : Nat->yd}{t:Nat}{W:World}{bt:Nat}{za:List zc}{zn:Int}{vw va:Value}{ws zh:List Pw}{Ws:List Wk}{st:Int}(h:UJ τ t W bt za zn vw va ws zh)(R:yl za Ws ws zh)(I:ye ⟨Ws,st,[]⟩)(s:ByteArray)(C:s.size<=2000000)(c d:Int):
  Calls prog 27 #[vP bt,vG s,.agg #[vI c,vI d]] W
   (X7 τ t W bt za zn Ws st (VC za (bl s) (UX [(c,d)])) ⟨s4 (bl s),false,0,0,c,d⟩):=by
 have b:∀W',Bw W W'->∀q a,W.heap.size<=q->zg W' q 136 #[vG ⟨#[]⟩,.bool false,vI 0,vI 0,vI c,vI d,.pointer none,v0_]->zg W' a 35 #[vI c,vI d] ->
   Calls prog 52 #[vP bt,vG s,vP q,vS a 1 1] W' fun e w'=>e=vR (vI (VC za (bl s) (UX [(c,d)])))/\(VC za (bl s) (UX [(c,d)])≠0->Bw W w')/\(VC za (bl s) (UX [(c,d)])=0->Yr τ t W bt za zn vw va ws zh Ws ⟨s4 (bl s),false,0,0,c,d⟩ w')/\zd (fun x=>x<W.heap.size\/x=q) W' w':=by
  intro W' B q a hq F o
  refine e8 h R B s C a 1 [(c,d)] s_ o.lt (fun j x n=>?_) q hq false 0 0 c d F (fun u=>by simp[UX,Uu]at u;exact⟨o_,o_,o_,o_,fun _=>⟨rfl,rfl⟩⟩)
  cases j with
  |zero=>simp at n;subst n;have c0:=o.cell 0;have c1:=o.cell 1;simp at c0 c1;exact⟨c0,c1⟩
  |succ j=>simp at n
 have k:=fun f (m:Yr τ t W bt za zn vw va ws zh Ws ⟨s4 (bl s),false,0,0,c,d⟩ f)=>(nw (st:=st) m I).mono (R':=fun e w'=>∃ev,e=vT #[ev,vI 0]/\X7 τ t W bt za zn Ws st 0 ⟨s4 (bl s),false,0,0,c,d⟩ (vT #[ev,vI 0]) w') (fun e w' g=>by obtain⟨ev,rfl⟩:=g.ret;exact⟨ev,rfl,g⟩)
 generalize (⟨s4 (bl s),false,0,0,c,d⟩:zx)=X at *;generalize VC za (bl s) (UX [(c,d)])=E at b ⊢;have M:=h.lts.1;clear h R I
 by_cases i:E=0
 ·subst i;simp only[ne_eq,not_true_eq_false,false_implies,true_and,forall_const]at b;generalize Yr τ t W bt za zn vw va ws zh Ws X=K at b k;generalize X7 τ t W bt za zn Ws st 0 X=L at k ⊢
  go_enter func27,ntmps27
  go_wp2
  go_region_with (first
   |(go_at_call 54;refine(cQ _ _ _).mono ?_;rintro e f ⟨rfl,l⟩;subst l)
   |(go_at_call 52;refine Calls.mono (b _ ?_ _ _ ?_ ?_ ?_) ?_;(focus exact Vy);(focus (first|omega|(simp<;>omega)));(focus exact Yg);(focus exact Yg);rintro e G ⟨rfl,p,N⟩)
   |(go_at_call 51;refine(k _ p).mono ?_;rintro e H ⟨ev,rfl,r⟩))
  all_goals go_wp2
  all_goals exact Us (v:=.tuple #[ev,vI 0]) (by simp[results,results27,go_sem]) rfl r
 ·have J:∀W',Bw W W'->∀q a,W.heap.size<=q->zg W' q 136 #[vG ⟨#[]⟩,.bool false,vI 0,vI 0,vI c,vI d,.pointer none,v0_]->zg W' a 35 #[vI c,vI d] ->
    Calls prog 52 #[vP bt,vG s,vP q,vS a 1 1] W' fun e w'=>e=vR (vI E)/\Bw W w':=fun W' m q a z h3 A=>(b W' m q a z h3 A).mono (fun e w' g=>⟨g.1,g.2.1 i⟩)
  have D:=fun w=>XX (w:=w) (bt:=bt) i
  clear b k
  go_enter func27,ntmps27
  go_wp2
  go_region_with (first
   |(go_at_call 54;refine(cQ _ _ _).mono ?_;rintro e f ⟨rfl,l⟩;subst l)
   |(go_at_call 52;refine Calls.mono (J _ ?_ _ _ ?_ ?_ ?_) ?_;(focus exact Vy);(focus (first|omega|(simp<;>omega)));(focus exact Yg);(focus exact Yg);rintro e G ⟨rfl,p⟩)
   |(go_at_call 51;refine(D _).mono ?_;rintro e H ⟨rfl,y⟩;subst y))
  all_goals go_wp2
  all_goals exact Us (v:=.tuple #[v0_,vI E]) (by simp[results,results27,go_sem]) rfl (.inl ⟨i,rfl,cl⟩)
theorem mL{τ : Nat->yd}{t:Nat}{W:World}{bt:Nat}{za:List zc}{zn:Int}{vw va:Value}{ws zh:List Pw}{Ws:List Wk}{st:Int}{x:zx}(c:bt<W.heap.size/\(∀b,vw.ownBlock=some b\/va.ownBlock=some b->b<W.heap.size))(h:Yr τ t W bt za zn vw va ws zh Ws x f)(I:ye ⟨Ws,st,[]⟩):
  Calls prog 51 #[vP bt,vI 0] f fun e w'=>∃ev,e=vT #[ev,vI 0]/\X7 τ t W bt za zn Ws st 0 x (vT #[ev,vI 0]) w'/\zd (fun b=>b<W.heap.size) f w':=by
 obtain⟨τ1,u,g1,g2,g3,g4,s,d⟩:=h;obtain⟨r,g,M⟩:=g3.bk;obtain⟨v,o⟩:=Ww g3.pr.tree g
 refine(ZT g3.pr.tree g3.pr.WY M v o (s0:=⟨Ws,st,[]⟩) s I rfl).mono ?_
 rintro e w' ⟨z,q,a,A,y,rfl,m1,F,G,m,H,J,K⟩
 obtain⟨τ2,N,O,E,L,i,B,C,j,k,l,D⟩:=g3.set g (last':=zn) (ev:=a) ⟨z,q,A,y,m1,F,G,m,H,J,fun p hp=>.inl (K p hp)⟩;have P:=d.size;rw[g4]at j k
 refine⟨a,rfl,.inr ⟨rfl,τ2,u,N,O,E,L,a,rfl,fun b hb=>(i b o_).trans (g1 b hb),fun b hb=>?_,C,g4,j,k,fun b hb=>⟨by have:=(l b hb).1;omega,(l b hb).2⟩,d.Vf D (fun b hb e=>⟨hb,by have:=e.2;rw[g1 b hb]at this;exact this⟩)⟩,m.mono (fun x w=>?_)⟩
 ·by_cases n:b<f.heap.size
  ·rw[i b n];exact g2 b hb
  ·exact B b o_
 ·rcases w with e|e|e
  ·rw[e];exact c.1
  ·exact c.2 x (.inl e)
  ·exact c.2 x (.inr e)
theorem fh{τ : Nat->yd}{t:Nat}{W:World}{bt:Nat}{za:List zc}{zn:Int}{vw va:Value}{ws zh:List Pw}{Ws:List Wk}{st:Int}(h:UJ τ t W bt za zn vw va ws zh)(R:yl za Ws ws zh)(I:ye ⟨Ws,st,[]⟩)(s:ByteArray)(oa:s.size<=2000000)(a b c d:Int):
  Calls prog 26 #[vP bt,vG s,.agg #[vI a,vI b],.agg #[vI c,vI d]] W
   (X7 τ t W bt za zn Ws st (VC za (bl s) (UX [(a,b),(c,d)])) ⟨s4 (bl s),true,a,b,c,d⟩):=by
 have n:∀W',Bw W W'->∀q i,W.heap.size<=q->zg W' q 136 #[vG ⟨#[]⟩,.bool true,vI a,vI b,vI c,vI d,.pointer none,v0_]->zg W' i 35 #[vI a,vI b,vI c,vI d] ->
   Calls prog 52 #[vP bt,vG s,vP q,vS i 2 2] W' fun e w'=>e=vR (vI (VC za (bl s) (UX [(a,b),(c,d)])))/\(VC za (bl s) (UX [(a,b),(c,d)])≠0->Bw W w')/\(VC za (bl s) (UX [(a,b),(c,d)])=0->Yr τ t W bt za zn vw va ws zh Ws ⟨s4 (bl s),true,a,b,c,d⟩ w')/\zd (fun x=>x<W.heap.size\/x=q) W' w':=by
  intro W' N q i hq qa A
  refine e8 h R N s oa i 2 [(a,b),(c,d)] s_ A.lt (fun j x u=>?_) q hq true a b c d qa (fun ka=>by simp[UX,Uu]at ka;exact⟨o_,o_,o_,o_,fun h=>by cases h⟩)
  cases j with
  |zero=>simp at u;subst u;have c0:=A.cell 0;have c1:=A.cell 1;simp at c0 c1;exact⟨c0,c1⟩
  |succ j =>
   cases j with
   |zero=>simp at u;subst u;have c0:=A.cell 2;have c1:=A.cell 3;simp at c0 c1;exact⟨c0,c1⟩
   |succ j=>simp at u
 have V:∀W',Bw W W'->W.heap.size+2<=W'.heap.size->Calls prog 53 #[.agg #[vI a,vI b],.agg #[vI c,vI d]] W' fun e w'=>∃q,e=vR (vP q)/\Below W'.heap.size W' w'/\W.heap.size+2<=q/\zg w' q 136 #[vG ⟨#[]⟩,.bool true,vI a,vI b,vI c,vI d,.pointer none,v0_]:=by
  intro W' N Y
  refine(nT _ _ _ _ _).mono ?_
  rintro e f ⟨rfl,rfl⟩
  have:=N.size
  exact⟨_,rfl,cl,o_,s6⟩
 have F:=fun f (L:Yr τ t W bt za zn vw va ws zh Ws ⟨s4 (bl s),true,a,b,c,d⟩ f)=>mL (st:=st) ⟨h.lts.1,h.lts.2.1⟩ L I
 generalize (⟨s4 (bl s),true,a,b,c,d⟩:zx)=X at *;generalize VC za (bl s) (UX [(a,b),(c,d)])=E at n ⊢;have Ga:=h.lts.1;clear h R I;have k:zg ((W.alloc (.cells #[vI a,vI b] 35)).alloc (.cells #[vI c,vI d] 35)) W.heap.size 35 #[vI a,vI b]:=s6;have l:zg ((W.alloc (.cells #[vI a,vI b] 35)).alloc (.cells #[vI c,vI d] 35)) (W.heap.size+1) 35 #[vI c,vI d]:=zg.new' s_;have C:Bw W ((W.alloc (.cells #[vI a,vI b] 35)).alloc (.cells #[vI c,vI d] 35)):=cl
 by_cases D:E=0
 ·subst D;simp only[ne_eq,not_true_eq_false,false_implies,true_and,forall_const]at n;generalize Yr τ t W bt za zn vw va ws zh Ws X=Ea at n F;generalize X7 τ t W bt za zn Ws st 0 X=Fa at F ⊢
  go_enter func26,ntmps26
  go_upto_region 1 with fail
  generalize ((W.alloc (.cells #[vI a,vI b] 35)).alloc (.cells #[vI c,vI d] 35))=m at k l C ⊢;have d0:=k.cell 0;have d1:=k.cell 1;have G:=l.cell 0;have H:=l.cell 1;have ra:=k.lt;have sa:=l.lt;have la:=C.size;simp only[s7]at d0 d1 G H;have ta:¬(W.heap.size=m.heap.size):=o_;have ua:¬(W.heap.size+1=m.heap.size):=o_
  go_region_held3 (fun w'=>w'.cell? (vA W.heap.size 0)=some (vI a)/\w'.cell? (vA W.heap.size 1)=some (vI b)/\w'.cell? (vA (W.heap.size+1) 0)=some (vI c)/\w'.cell? (vA (W.heap.size+1) 1)=some (vI d)) (go_keep)
   (first
   |(go_at_call 53;refine(V _ ?_ ?_).mono ?_;(focus exact cl);(focus (first|omega|(simp<;>omega)));rintro e f ⟨q,rfl,g,hq,bq⟩;have ja:Bw W f:=s5 cl g;have o:zg f W.heap.size 35 #[vI a,vI b]:=zg.below s6 g g_;have p:zg f (W.heap.size+1) 35 #[vI c,vI d]:=zg.below s6 g g_;have J:=o.cell 0;have K:=o.cell 1;have g0:=p.cell 0;have g1:=p.cell 1;have ca:=o.lt;have ea:=p.lt;have ha:¬(W.heap.size=f.heap.size):=o_;have ia:¬(W.heap.size+1=f.heap.size):=o_;simp only[s7]at J K g0 g1;(try (have ga:zg f m.heap.size 35 #[vI a,vI b,vI c,vI d]:=zg.below (by first|(with_reducible exact zg.new' s_)|(with_reducible exact zg.drew (zg.new' s_))) g s_)))
   |(go_at_call 52;refine Calls.mono (n _ ?_ _ _ ?_ ?_ ?_) ?_;(focus exact cl);(focus omega);(focus exact s6);(focus exact s6);rintro e B ⟨rfl,M,z⟩;have y:zg B W.heap.size 35 #[vI a,vI b]:=zg.zf s6 z o_;have r:zg B (W.heap.size+1) 35 #[vI c,vI d]:=zg.zf s6 z o_;have P:=y.cell 0;have Q:=y.cell 1;have S:=r.cell 0;have T:=r.cell 1;simp only[s7]at P Q S T)
   |(go_at_call 51;refine(F _ M).mono ?_;rintro e U ⟨ev,rfl,da,Z⟩;have aa:zg U W.heap.size 35 #[vI a,vI b]:=zg.zf s6 Z o_;have ba:zg U (W.heap.size+1) 35 #[vI c,vI d]:=zg.zf s6 Z o_;have Aa:=aa.cell 0;have Ba:=aa.cell 1;have Ca:=ba.cell 0;have Da:=ba.cell 1;simp only[s7]at Aa Ba Ca Da))
  all_goals go_wp2
  all_goals exact da
 ·replace n:∀W',Bw W W'->∀q i,W.heap.size<=q->zg W' q 136 #[vG ⟨#[]⟩,.bool true,vI a,vI b,vI c,vI d,.pointer none,v0_]->zg W' i 35 #[vI a,vI b,vI c,vI d] ->
    Calls prog 52 #[vP bt,vG s,vP q,vS i 2 2] W' fun e w'=>e=vR (vI E)/\Bw W w'/\zd (fun x=>x<W.heap.size\/x=q) W' w':=fun W' L q i Y h3 na=>(n W' L q i Y h3 na).mono (fun e w' O=>⟨O.1,O.2.1 D,O.2.2.2⟩)
  have pa:=fun w=>XX (w:=w) (bt:=bt) D
  clear F
  go_enter func26,ntmps26
  go_upto_region 1 with fail
  generalize ((W.alloc (.cells #[vI a,vI b] 35)).alloc (.cells #[vI c,vI d] 35))=m at k l C ⊢;have d0:=k.cell 0;have d1:=k.cell 1;have G:=l.cell 0;have H:=l.cell 1;have ra:=k.lt;have sa:=l.lt;have la:=C.size;simp only[s7]at d0 d1 G H;have ta:¬(W.heap.size=m.heap.size):=o_;have ua:¬(W.heap.size+1=m.heap.size):=o_
  go_region_held3 (fun w'=>w'.cell? (vA W.heap.size 0)=some (vI a)/\w'.cell? (vA W.heap.size 1)=some (vI b)/\w'.cell? (vA (W.heap.size+1) 0)=some (vI c)/\w'.cell? (vA (W.heap.size+1) 1)=some (vI d)) (go_keep)
   (first
   |(go_at_call 53;refine(V _ ?_ ?_).mono ?_;(focus exact cl);(focus (first|omega|(simp<;>omega)));rintro e f ⟨q,rfl,g,hq,bq⟩;have ja:Bw W f:=s5 cl g;have o:zg f W.heap.size 35 #[vI a,vI b]:=zg.below s6 g g_;have p:zg f (W.heap.size+1) 35 #[vI c,vI d]:=zg.below s6 g g_;have J:=o.cell 0;have K:=o.cell 1;have g0:=p.cell 0;have g1:=p.cell 1;have ca:=o.lt;have ea:=p.lt;have ha:¬(W.heap.size=f.heap.size):=o_;have ia:¬(W.heap.size+1=f.heap.size):=o_;simp only[s7]at J K g0 g1;(try (have ga:zg f m.heap.size 35 #[vI a,vI b,vI c,vI d]:=zg.below (by first|(with_reducible exact zg.new' s_)|(with_reducible exact zg.drew (zg.new' s_))) g s_)))
   |(go_at_call 52;refine Calls.mono (n _ ?_ _ _ ?_ ?_ ?_) ?_;(focus exact cl);(focus omega);(focus exact s6);(focus exact s6);rintro e B ⟨rfl,M,z⟩;have y:zg B W.heap.size 35 #[vI a,vI b]:=zg.zf s6 z o_;have r:zg B (W.heap.size+1) 35 #[vI c,vI d]:=zg.zf s6 z o_;have P:=y.cell 0;have Q:=y.cell 1;have S:=r.cell 0;have T:=r.cell 1;simp only[s7]at P Q S T)
   |(go_at_call 51;refine(pa _).mono ?_;rintro e U ⟨rfl,ma⟩;subst ma))
  all_goals go_wp2
  all_goals exact Us (v:=.tuple #[v0_,vI E]) (by simp[results,results26,go_sem]) rfl (.inl ⟨D,rfl,M⟩)
theorem i37a:(prog.info? 37).map (fun i=>(i.size,i.bytes))=some (9,96):=k_
theorem i37b:(prog.info? 37).bind (fun i=>i.zero)=some (.agg #[vG ⟨#[]⟩,.bool false,vI 0,vI 0,vI 0,vI 0,vI 0,vI 0,v0_]):=k_
theorem jY:Wx 37 9 96:=XD i37a i37b rfl
theorem un61:prog.underlying 61=some (.slice 37):=k_
def qCs (za:List zc)(zh:List Pw)(n:zc)(v:Value):List Value:=(WU (kN n.zb) n.zj (xt za n.zb) (xr za n.zb) n.b0 n.b1 (yf (pun zh n.zb)) (yg (pun zh n.zb)) v).toList
def XE (za:List zc)(zh:List Pw)(pre:List zc)(vs:List Value):List Value:=(List.zipWith (qCs za zh) pre vs).flatten
def SepV (vs:List Value):Prop:=∀(i j:Nat) (u v:Value) (b:Nat),i<j->vs[i]?=some u->vs[j]?=some v->u.ownBlock=some b->v.ownBlock≠some b
theorem SepV.snoc{vs:List Value}(h:SepV vs)(f:∀(i:Nat) (v:Value) (b:Nat),vs[i]?=some v->v.ownBlock=some b->u.ownBlock≠some b):SepV (vs++[u]):=fun i j x y b g c a hb=>by
 have d:=(Uy.1 a).1
 simp at d
 rw[Wu o_]at c
 by_cases e:j<vs.length
 ·rw[Wu e]at a
  exact h i j x y b g c a hb
 ·rw[Wp o_,show j-vs.length=0 by omega]at a
  simp at a
  subst a
  exact f i x b c hb
def TolN (ws:List Pw)(A:World)(lo:Nat)(pre:List zc)(vs:List Value):Prop :=
 vs.length=pre.length/\(∀(i:Nat) (n:zc) (u:Value),pre[i]?=some n->vs[i]?=some u->(A.ownsRow 0 3 1 u (U6 ws n.ze).length (WE (U6 ws n.ze))/\(∀b,u.ownBlock=some b->lo<=b)))/\SepV vs
structure Tl (za:List zc) (ws zh:List Pw) (w:World) (bt lo:Nat) (pre:List zc) (A:World) (v:Value) (vs:List Value):Prop where
 row:A.ownsRow 0 37 9 v pre.length (XE za zh pre vs)
 lb:zz A (w.heap.size+1) 61 v
 tb:zz A w.heap.size 45 (vP bt)
 nums:TolN ws A lo pre vs
 own:∀b,v.ownBlock=some b->lo<=b
 bel:Bw w A
section
variable {za:List zc}{ws zh:List Pw}{w:World}{bt lo:Nat}{pre:List zc}{v:Value}{vs:List Value}
theorem TolN.zf{B:World}(h:TolN ws A lo pre vs)(e:zd T A B)(d:∀(i:Nat) (n:zc) (u:Value) (b:Nat),pre[i]?=some n->vs[i]?=some u->u.ownBlock=some b->¬T b):TolN ws B lo pre vs :=
 ⟨h.1,fun i n u a c=>⟨s8 (h.2.1 i n u a c).1 e (fun b hb=>d i n u b a c hb),(h.2.1 i n u a c).2⟩,h.2.2⟩
theorem Tl.zf{B:World}(h:Tl za ws zh w bt lo pre A v vs)(c:zd T A B)(a:∀b,b<w.heap.size+2\/lo<=b->¬T b):Tl za ws zh w bt lo pre B v vs :=
 ⟨s8 h.row c (fun b hb=>a b (.inr (h.own b hb))),h.lb.zf c (a _ (.inl o_)),h.tb.zf c (a _ (.inl o_)),TolN.zf h.nums c (fun i n u b d e h3=>a b (.inr ((h.nums.2.1 i n u d e).2 b h3))),h.own,h.bel.trans (c.ya h.bel.size (fun b hb=>a b (.inl o_)))⟩
theorem oI(a:vs.length=pre.length)(x:zc)(u:Value):XE za zh (pre++[x]) (vs++[u])=XE za zh pre vs++qCs za zh x u:=by
 unfold XE;rw[List.zipWith_append a.symm]
 simp
theorem Tl.step(h:Tl za ws zh w bt lo pre A v vs)(S:w.heap.size+2<=lo)(H:lo<=A.heap.size)(o:Bw A j){x:zc}(K:j.ownsRow 0 3 1 u (U6 ws x.ze).length (WE (U6 ws x.ze)))(r:∀b,u.ownBlock=some b->A.heap.size<=b)
  {q:Array Value} {g:Nat} (a:xq (j.alloc (.cells q 37)) v.ownBlock 37 9 (pre.length+1) (XE za zh pre vs++qCs za zh x u) g cap f) :
  zd (fun b=>b=w.heap.size+1\/lo<=b) A (f.setCell (vA (w.heap.size+1) 0) (vS g (pre.length+1) cap))/\Tl za ws zh w bt lo (pre++[x]) (f.setCell (vA (w.heap.size+1) 0) (vS g (pre.length+1) cap)) (vS g (pre.length+1) cap) (vs++[u]):=by
 have d:Bw A (j.alloc (.cells q 37)):=o.alloc o.size _;have R:=d.size;have P:=o.size;have b1:zz f (w.heap.size+1) 61 v:=(h.lb.below d h.lb.lt).zf a.zf (fun e=>by have:=h.own _ e;omega);have b2:zz f w.heap.size 45 (vP bt):=(h.tb.below d h.tb.lt).zf a.zf (fun e=>by have:=h.own _ e;omega);have I:zd (fun b=>b=w.heap.size+1\/lo<=b) A f:=(zd.new d).Vf a.zf (fun b hb e=>.inr (h.own b e));have t:=I.setCell (p:=vA (w.heap.size+1) 0) (.inl rfl) (vS g (pre.length+1) cap);have Q:lo<=g:=by
  rcases a.new with e|e
  ·exact h.own _ e
  ·omega
 have D:A.ownsRow 0 37 9 v pre.length (XE za zh pre vs):=h.row;have C:=s8 (T:=fun _=>False) D (zd.new d) (fun _ _ e=>e);have m:=(zd.refl (fun b=>b=w.heap.size+1) f).setCell (p:=vA (w.heap.size+1) 0) rfl (vS g (pre.length+1) cap)
 refine⟨t,⟨?_,b1.set _,b2.zf m o_,⟨by simp[h.nums.1],fun i n N c k=>?_,SepV.snoc h.nums.2.2 (fun i O b z hb J=>?_)⟩,fun b hb=>?_,h.bel.trans (t.ya h.bel.size (fun b hb e=>by omega))⟩⟩
 ·rw[oI h.nums.1,show(pre++[x]).length=pre.length+1 by simp]
  exact s8 a.own m (fun b hb e=>by simp[Value.ownBlock]at hb;omega)
 ·by_cases y:i<pre.length
  ·rw[Wu y]at c;rw[Wu (by rw[h.nums.1];exact y)]at k;obtain⟨L,B⟩:=h.nums.2.1 i n N c k;have l:=s8 (T:=fun _=>False) L (zd.new d) (fun _ _ e=>e)
   refine⟨s8 (s8 l a.zf (fun b hb e=>Xu l C d_ hb e)) m (fun b hb e=>by have:=B b hb;omega),B⟩
  ·have M:i=pre.length:=by
    have:=(Uy.1 c).1
    simp at this
    omega
   subst M;rw[Wp (Nat.le_refl _)]at c;rw[Wp (by rw[h.nums.1];exact Nat.le_refl _)]at k
   simp[h.nums.1]at c k
   subst c;subst k;have E:Bw j (j.alloc (.cells q 37)):=(Below.refl _ _).alloc (Nat.le_refl _) _;have l:=s8 (T:=fun _=>False) K (zd.new E) (fun _ _ e=>e)
   refine⟨s8 (s8 l a.zf (fun b hb e=>Xu l C d_ hb e)) m (fun b hb e=>by have:=r b hb;omega),fun b hb=>Nat.le_trans H (r b hb)⟩
 ·have F:=(Uy.1 z).1;obtain⟨s,G⟩:∃s,pre[i]?=some s:=⟨_,Ur (by rw[<-h.nums.1];exact F)⟩;have c:=UI (h.nums.2.1 i s O G z).1 hb;have k:=r b J
  omega
 ·simp[Value.ownBlock]at hb;omega
end
end
section
open Go.RowKit Go.Shelf
variable {w:World}{bt:Nat}{va vw:Value}{ws zh:List Pw}
attribute [local go_sem] Oper.semAt_some
theorem nO{za:List zc}(ba:zr za)(Na:U_ za){ch:zc->List zc}(Z:xy za ch){r:zc}{zw:Value}(h:yt w za bt r zw vw va ws zh)(ga:r∈za)(cb:r.zb=[]):
  Calls prog 61 #[vP bt] w fun e w'=>∃F vs,e=vR F/\w'.ownsRow 0 37 9 F (dfs ch 4 r).length (XE za zh (dfs ch 4 r) vs)/\TolN ws w' w.heap.size (dfs ch 4 r) vs/\Bw w w'/\(∀b,F.ownBlock=some b->w.heap.size<=b):=by
 have Fa:∀k:Nat,Fence.wide.depth.isSome=true->1<=k:=fun k h=>by simp[Fence.wide]at h
 have db:=h.bk.zl.lt;have Ia:=fun W (s:Bw w W) n (I:n∈za)=>hK ba Na (h.below s) I
 have ca:=fun W (s:Bw w W)=>ZG ba Z ga W (h.below s).yj
 have Ca:=ZH Z 4 r ga;have bb:=an ba Z ga;have la:∀W,Bw w W->W.cell? (vA bt 0)=some (zi r.ze):=fun W (s:Bw w W)=>(h.below s).bk.zl.cell 0
 generalize dfs ch 4 r=X at *
 refine(UK (n:=3)).1 ?_
 refine callsIn_of_wp_marks func61 rfl trivial ?_ rfl
 unfold zi at ca la;simp only[ntmps61,zC,Nat.reduceAdd,Nat.reduceSub];have sa:=la _ (show Bw w ((w.alloc (.cells #[vP bt] 45)).alloc (.cells #[v0_] 61)) by exact cl)
 gi_wp2_with ((first|refine⟨trivial,Fa _,?_⟩|refine⟨trivial,?_⟩);gi_at_call 101;refine(UK.2 (ca _ cl)).mono ?_;rintro e p ⟨rfl,rfl,O⟩)
 obtain⟨W,s⟩:∃W,W=(((w.alloc (.cells #[vP bt] 45)).alloc (.cells #[v0_] 61)).alloc (.cells #[vP r.ze] 97)):=⟨_,rfl⟩;have eb:W.heap.size=w.heap.size+3:=by rw[s];simp
 have Ga:Bw w W:=by rw[s];exact cl
 have Ta:zz W w.heap.size 45 (vP bt):=by rw[s];exact((zz.new w 45 _).alloc _).alloc _
 have Ua:zz W (w.heap.size+1) 61 v0_:=by
  have:=zz.new (w.alloc (.cells #[vP bt] 45)) 61 v0_
  rw[Vv]at this;rw[s];exact this.alloc _
 simp only[Vv]at O;simp only[<-s]at O ⊢;have hq:SeqM prog 149 #[vP (w.heap.size+1+1)] (fun x:zc=>#[vP x.ze]) (fun _=>False) 0 (fun b=>b=w.heap.size+1) X W:=eo (fun B kb H U=>O _ (fun n I=>⟨fun e=>by have:=(h.yj n I).lt;omega,fun g Oa e=>by have:=((h.yj n I).row.lt g Oa).2;omega⟩));clear O ca s sa;have ab:∀b,b<W.heap.size->¬(False\/(W.heap.size<=b/\b<W.heap.size+2+0)):=fun b hb e=>by rcases e with e|e;exact e;omega
 refine Y6 (T:=fun b=>b=w.heap.size+1) (S:=fun _=>False) rfl (enters_of func149 k_ rfl) hq (Below.refl _ _) (fun _=>rfl) (fun b e=>e.elim) (fun b e=>by omega)
  (fun (pre:List zc) A=>∃v vs,Tl za ws zh w bt (W.heap.size+2+0) pre A v vs)
  (fun c (pre:List zc) A=>False)
  (fun pre A B M V=>by
   obtain⟨v,vs,M⟩:=M
   exact⟨v,vs,M.zf V (fun b hb e=>by rcases e with e|e;exact e;omega)⟩)
  (fun c pre A B M V=>M)
  ⟨_,[],⟨rfl,.inl ⟨rfl,rfl⟩⟩,Ua,Ta,⟨rfl,fun i n u H U=>(by simp at H),fun i j u v b _ H=>(by simp at H)⟩,by simp[Value.ownBlock],Ga⟩
  (fun x=>{tmps:=#[vP bt,vP w.heap.size,v0_,vP (w.heap.size+1),vP x.ze,vP bt,vP bt,vP bt,vP r.ze,.func (.func 149) #[] #[vP (w.heap.size+1+1)],vP x.ze,undef,undef,undef,undef,undef,undef,undef],defers:=[]}) ?assign ?body ?done ?stop
 case assign =>
  intro l x W K a
  gi_wp2
  exact a
 case stop =>
  rintro c pre A da Qa oa
  exact Qa.elim
 case body =>
  rintro l2 pre x m ⟨v,vs,g⟩ Ma da
  have Ha:x∈za:=Ca x (da.subset s_);have ib:pre.length<=90:=by have:=da.length_le;simp at this;omega
  have Y:=fun W' (Ea:Bw w W')=>Ia W' Ea x Ha
  obtain⟨a0,L,Pa,Xa,Ya⟩:=Wr g.row;subst Pa;have ka:=g.row;have ha:Hid (∀(p:World) (d:Option Addr) (f:Nat) (t:World) (g1 cap:Nat),Bw m p->p.ownsRow 0 3 1 (.slice d (U6 ws x.ze).length f) (U6 ws x.ze).length (WE (U6 ws x.ze))->(∀b,(Value.slice d (U6 ws x.ze).length f).ownBlock=some b->m.drew.heap.size<b)->xq (p.alloc (.cells (WU (kN x.zb) x.zj (xt za x.zb) (xr za x.zb) x.b0 x.b1 (yf (pun zh x.zb)) (yg (pun zh x.zb)) (.slice d (U6 ws x.ze).length f)) 37)) (Value.slice a0 pre.length L).ownBlock 37 9 (pre.length+1) (XE za zh pre vs++(WU (kN x.zb) x.zj (xt za x.zb) (xr za x.zb) x.b0 x.b1 (yf (pun zh x.zb)) (yg (pun zh x.zb)) (.slice d (U6 ws x.ze).length f)).toList) g1 cap t->zd (fun b=>b=w.heap.size+1\/W.heap.size+2+0<=b) m (t.setCell (vA (w.heap.size+1) 0) (vS g1 (pre.length+1) cap))/\Tl za ws zh w bt (W.heap.size+2+0) (pre++[x]) (t.setCell (vA (w.heap.size+1) 0) (vS g1 (pre.length+1) cap)) (vS g1 (pre.length+1) cap) (vs++[.slice d (U6 ws x.ze).length f])) :=
   fun p d f t g1 cap ma Ja Ka La=>g.step o_ Ma ma Ja (fun b hb=>Nat.le_of_lt (Ka b hb)) La
  unfold WU at ha Y;generalize xt za x.zb=s0 at *;generalize xr za x.zb=C at *;generalize yf (pun zh x.zb)=D at *;generalize yg (pun zh x.zb)=E at *;generalize sb (kN x.zb)=z at *;generalize (U6 ws x.ze).length=G at *;generalize WE (U6 ws x.ze)=nb at *;generalize htc:XE za zh pre vs=Sa at ka ha;have Va:Hid (Tl za ws zh w bt (W.heap.size+2+0) pre m (.slice a0 pre.length L) vs):=g;have c0:=g.lb.cell;have c1:=g.tb.cell;have Za:=g.lb.lt;have Wa:=g.own;generalize I:pre.length=n at *;clear I htc hq;unfold zi at Y
  gi_upto_region 4 with fail
  refine cN ?_
  refine YA (fun W'=>W'.cell? (vA w.heap.size 0)=some (vP bt)) k_ k_ g.tb.cell (fun q=>?_)
  refine wpAnyH_take (i:=1) (v:=vP bt) rfl k_ k_ k_ (fun _ _ _ h=>absurd h.1 e_) (Or.inl ⟨r_,?_⟩) q ?_
  ·intro w' Da
   go_simp
  try simp only[Ux,Uv,Uw,Act.put,UF,UE,UD]
  refine wpAnyH_take (i:=2) (v:=vP x.ze) rfl k_ k_ k_ (fun _ _ _ h=>absurd h.1 e_) (Or.inl ⟨r_,?_⟩) q ?_
  ·intro w' Da
   go_simp
  try simp only[Ux,Uv,Uw,Act.put,UF,UE,UD]
  refine wpAnyH_ready (rs:=[0,3]) k_ s_ ?_
  refine AllReadyH.cons rfl (fun y a=>?_) (AllReadyH.cons rfl (fun y a=>?_) AllReadyH.nil)
  rw[if_pos r_]
  try simp only[Ux,Uv,Uw]
  go_simp
  refine a.out _ _ (g.tb.cell) (fun q=>?_)
  clear a
  try simp only[Ux,Uv,Uw,Act.put,UF,UE,UD]
  refine wpAnyH_ready (rs:=[3]) k_ s_ ?_
  refine AllReadyH.cons rfl (fun y a=>?_) AllReadyH.nil
  rw[if_pos r_]
  try simp only[Ux,Uv,Uw]
  go_simp
  refine(Y _ (s5 g.bel cl)).mono ?_
  rintro e p ⟨vq,rfl,Q,ea,qa⟩
  obtain⟨d,f,ia,ua,Aa⟩:=Wr Q;subst ia;have o:Bw m p:=s5 (show Bw m m.drew by exact cl) ea;have Ra:=(g.lb.below o g.lb.lt).cell;have N:=(g.tb.below o g.tb.lt).cell
  refine a.out _ _ N (fun q=>?_)
  clear a
  try simp only[Ux,Uv,Uw,Act.put,UF,UE,UD]
  refine wpAnyH_ready (rs:=[4]) k_ s_ ?_
  refine AllReadyH.cons rfl (fun y a=>?_) AllReadyH.nil
  rw[if_pos r_]
  try simp only[Ux,Uv,Uw]
  go_simp
  have J:=(((g.tb.below o g.tb.lt)).alloc (.cells #[vG z,.bool x.zj,vI s0,vI C,vI x.b0,vI x.b1,vI D,vI E,.slice d G f] 37)).cell;have na:=(((g.lb.below o g.lb.lt)).alloc (.cells #[vG z,.bool x.zj,vI s0,vI C,vI x.b0,vI x.b1,vI D,vI E,.slice d G f] 37)).cell
  refine a.out _ _ J (fun q=>?_)
  clear a
  try simp only[Ux,Uv,Uw,Act.put,UF,UE,UD]
  rotate_left
  rw[if_pos r_]
  try simp only[Ux,Uv,Uw]
  go_simp
  refine(Y _ (s5 g.bel cl)).mono ?_
  rintro e p ⟨vq,rfl,Q,ea,qa⟩
  obtain⟨d,f,ia,ua,Aa⟩:=Wr Q;subst ia;have o:Bw m p:=s5 (show Bw m m.drew by exact cl) ea;have Ra:=(g.lb.below o g.lb.lt).cell;have N:=(g.tb.below o g.tb.lt).cell
  refine a.out _ _ N (fun q=>?_)
  clear a
  try simp only[Ux,Uv,Uw,Act.put,UF,UE,UD]
  refine wpAnyH_ready (rs:=[0,4]) k_ s_ ?_
  refine AllReadyH.cons rfl (fun y a=>?_) (AllReadyH.cons rfl (fun y a=>?_) AllReadyH.nil)
  rw[if_pos r_]
  try simp only[Ux,Uv,Uw]
  go_simp
  refine a.out _ _ (N) (fun q=>?_)
  clear a
  try simp only[Ux,Uv,Uw,Act.put,UF,UE,UD]
  refine wpAnyH_ready (rs:=[4]) k_ s_ ?_
  refine AllReadyH.cons rfl (fun y a=>?_) AllReadyH.nil
  rw[if_pos r_]
  try simp only[Ux,Uv,Uw]
  go_simp
  have J:=(((g.tb.below o g.tb.lt)).alloc (.cells #[vG z,.bool x.zj,vI s0,vI C,vI x.b0,vI x.b1,vI D,vI E,.slice d G f] 37)).cell;have na:=(((g.lb.below o g.lb.lt)).alloc (.cells #[vG z,.bool x.zj,vI s0,vI C,vI x.b0,vI x.b1,vI D,vI E,.slice d G f] 37)).cell
  refine a.out _ _ J (fun q=>?_)
  clear a
  try simp only[Ux,Uv,Uw,Act.put,UF,UE,UD]
  rotate_left
  rw[if_pos r_]
  try simp only[Ux,Uv,Uw]
  go_simp
  have J:=(((g.tb.below o g.tb.lt)).alloc (.cells #[vG z,.bool x.zj,vI s0,vI C,vI x.b0,vI x.b1,vI D,vI E,.slice d G f] 37)).cell;have na:=(((g.lb.below o g.lb.lt)).alloc (.cells #[vG z,.bool x.zj,vI s0,vI C,vI x.b0,vI x.b1,vI D,vI E,.slice d G f] 37)).cell
  refine a.out _ _ J (fun q=>?_)
  clear a
  try simp only[Ux,Uv,Uw,Act.put,UF,UE,UD]
  refine wpAnyH_ready (rs:=[0]) k_ s_ ?_
  refine AllReadyH.cons rfl (fun y a=>?_) AllReadyH.nil
  rw[if_pos r_]
  try simp only[Ux,Uv,Uw]
  go_simp
  refine a.out _ _ (J) (fun q=>?_)
  clear a
  try simp only[Ux,Uv,Uw,Act.put,UF,UE,UD]
  all_goals
   obtain⟨mb,t,ra,g1,cap,rfl,aa⟩:=Wv un61 jY o_ (p.alloc (.cells #[vG z,.bool x.zj,vI s0,vI C,vI x.b0,vI x.b1,vI D,vI E,.slice d G f] 37)) (.slice a0 n L) n Sa (s8 (T:=fun _=>False) ka (zd.new (o.alloc o.size _)) (fun _ _ e=>e)) p.heap.size 1 1 o_ [vG z,.bool x.zj,vI s0,vI C,vI x.b0,vI x.b1,vI D,vI E,.slice d G f] rfl (zg.new p 37 _) (fun u pa=>by simp at pa;rcases pa with rfl|rfl|rfl|rfl|rfl|rfl|rfl|rfl|rfl<;>rfl) (by unfold maxLen;omega) o_;have P:=ha.out p d f t g1 cap o Q qa aa;have ja:=P.2.tb.cell;have Ba:t.cell? (vA w.heap.size 0)=some (vP bt):=(World.cell?_setCell_other _ _ _ _ (by intro e;injection e with ma;omega)).symm.trans ja;have ta:Hid (zd (fun b=>b=w.heap.size+1\/W.heap.size+2+0<=b) m (t.setCell (vA (w.heap.size+1) 0) (vS g1 (n+1) cap))/\∃F vs',Tl za ws zh w bt (W.heap.size+2+0) (pre++[x]) (t.setCell (vA (w.heap.size+1) 0) (vS g1 (n+1) cap)) F vs'):=⟨P.1,_,_,P.2⟩;have b1:zz t (w.heap.size+1) 61 (.slice a0 n L):=((g.lb.below o g.lb.lt).alloc _).zf aa.zf (fun e=>by have:=g.own _ e;omega);have jb:=b1.cell;have gb:=b1.frozen;clear P aa b1
   refine wpAnyH_ready (rs:=[5]) k_ s_ ?_
   refine AllReadyH.cons rfl (fun y a=>?_) AllReadyH.nil
   refine WL (R:=fun F w'=>F=vS g1 (n+1) cap/\w'=t) rfl (.tmp 11) (.tmp 15) 61 61 rfl (.slice a0 n L) (vS p.heap.size 1 1) rfl rfl ⟨_,_,ra,rfl,rfl⟩ ?_
   rintro F w' ⟨rfl,rfl⟩
   refine a.out _ _ Ba (fun q=>?_)
   clear a
   try simp only[Ux,Uv,Uw,Act.put,UF,UE,UD]
   refine wpAnyH_ready (rs:=[6]) k_ s_ ?_
   refine AllReadyH.cons rfl (fun y a=>?_) AllReadyH.nil
   rw[if_pos r_]
   try simp only[Ux,Uv,Uw]
   go_simp
   refine a.out _ _ ja (fun q=>?_)
   clear a
   refine wpAnyH_done k_ ⟨rfl,?_⟩ _
   exact ta.out
 case done =>
  rintro A ⟨v,vs,g⟩ oa
  have c0:=g.lb.cell
  gi_wp2_with fail
  refine⟨s_,.inl ⟨_,_,rfl,run_takeDeferred oa,?_⟩⟩
  have V:zd (fun b=>b=W.heap.size) A (A.putObj W.heap.size (.deferred none)):=(zd.refl (fun b=>b=W.heap.size) _).putObj rfl _;have g2:=g.zf V (fun b hb e=>by omega)
  exact⟨v,by simp[results,results61,go_sem],v,vs,rfl,g2.row,⟨g2.nums.1,fun i n u H U=>⟨(g2.nums.2.1 i n u H U).1,fun b hb=>(h_ ((g2.nums.2.1 i n u H U).2 b hb))⟩,g2.nums.2.2⟩,g2.bel,fun b hb=>by have:=g2.own b hb;omega⟩
end
section
open Go.RowKit
variable {E8 Ws Ws':List Wk}{ws zh:List Pw}{a st zo:Int}{x y:Wk}
theorem yl.length{za:List zc}(R:yl za Ws ws zh)(a:vr Ws st):ws.length+zh.length=Ws.length:=by
 have:=(R.nums (fun x b=>(a.st x b).1)).length_eq
 simpa using this
theorem n8{za:List zc}(R:yl za Ws ws zh)(a:vr Ws st)(s:Bs)(ok:Bool):zS za (ws.length+zh.length) s ok=xx (za.map zc.zq) Ws s ok:=by
 unfold zS xx;rw[R.length a,WN]
 cases zp za (s4 s) with
 |none=>rfl
 |some n=>rfl
theorem iV{za:List zc}(T:zr za){m:zc}(o:m∈za)(h:m.zj=true):∀(j:Nat) (n:zc),n∈za->n.zb.length=j->m.zb <+: n.zb->m.zb=n.zb:=by
 intro j
 induction j with
 |zero =>
  intro n i a hp;have c:n.zb=[]:=List.eq_nil_of_length_eq_zero a;rw[c]at hp ⊢
  exact List.prefix_nil.1 hp
 |succ j p =>
  intro n i a hp
  rcases List.eq_nil_or_concat n.zb with c|⟨k,x,b⟩
  ·rw[c]at a;cases a
  ·rw[List.concat_eq_append]at b;obtain⟨d,f,g,h3,r⟩:=T.par n i k x b;rw[b]at hp ⊢
   rcases List.prefix_concat_iff.1 hp with e|e
   ·exact e
   ·exfalso
    have q:d.zb.length=j:=by rw[g];rw[b]at a;simpa using a
    have l:=p d f q (by rw[g];exact e)
    have:=T.inj m o d f l
    rw[this,h3]at h
    cases h
structure ue (za:List zc) (Ws:List Wk) (zo:Int):Prop where
 zj:∀x∈Ws,∃n∈za,n.zb=x.zb/\n.zj=true
 zm:∀x∈Ws,1<=x.zm/\x.zm<=zo
theorem ue.wy{za:List zc}(T:zr za)(h:ue za Ws zo):u6 Ws:=fun x f y g e=>by
 obtain⟨n,d,a,l1⟩:=h.zj x f;obtain⟨m,c,b,l2⟩:=h.zj y g;have hp:=(ZI (a ▸ (T.ok n d).1) (b ▸ (T.ok m c).1)).1 e;rw[<-a,<- b]at hp ⊢
 exact(iV T c l2 _ n d rfl hp).symm
theorem ue.append{za:List zc}(h:ue za Ws zo)(i:0<=zo){n:zc}(g:n∈za)(f:n.zj=true){s:Bs}(d:n.zb=s4 s)(a b:Int):ue za (Ws++[VR zo s a b]) (zo+1):=by
 refine⟨fun x c=>?_,fun x c=>?_⟩<;>rcases UU.1 c with e|e
 ·exact h.zj x e
 ·simp only[List.mem_singleton]at e;subst e
  exact⟨n,g,d,f⟩
 ·have:=h.zm x e;omega
 ·simp only[List.mem_singleton]at e;subst e;simp only[VR];omega
theorem ye.append{za:List zc}(T:zr za)(I:ye ⟨Ws,st,[]⟩)(L:ue za Ws zo)(l:0<=zo){n:zc}(i:n∈za)(o:n.zj=true){s:Bs}(h:n.zb=s4 s){b:Int}(m:Uu a b=true)(p:Ws.length<24):ye ⟨Ws++[VR zo s a b],st,[]⟩:=by
 have g:vr Ws st:=I.yh;have j:0<=st:=I.st0
 refine⟨⟨⟨fun x f=>?_,fun x f=>?_,by simp;omega⟩,?_,fun x f=>?_,?_⟩,j,(L.append l i o h a b).wy T⟩
 ·rcases UU.1 f with e|e
  ·exact g.yh.ok x e
  ·simp only[List.mem_singleton]at e;subst e;simp only[VR];rw[<-h]
   exact T.ok n i
 ·rcases UU.1 f with e|e
  ·exact g.yh.zm x e
  ·simp only[List.mem_singleton]at e;subst e
   simp[Uu]at m
   simp only[VR]
   omega
 ·simp only[List.map_append,List.map_cons,List.map_nil]
  refine List.nodup_append.2 ⟨g.nums,s_,?_⟩
  intro c k d hd e;simp only[List.mem_singleton]at hd;obtain⟨x,f,rfl⟩:=UC.1 k
  have:=(L.zm x f).2
  rw[hd]at e;simp only[VR]at e
  omega
 ·rcases UU.1 f with e|e
  ·exact g.st x e
  ·simp only[List.mem_singleton]at e;subst e;simp only[VR]
   omega
 ·simp only[List.filter_append]
  simpa [VR] using g.sts
def OfW (E8 Ws:List Wk):Prop:=∀y∈Ws,∃z∈E8,z.yi 0=y.yi 0
theorem OfW.refl(Ws:List Wk):OfW Ws Ws:=fun y a=>⟨y,a,rfl⟩
theorem OfW.step(h:OfW E8 Ws)(c:∀y∈Ws',∃z∈Ws,z.yi 0=y.yi 0):OfW E8 Ws':=fun y d=>by
 obtain⟨z,f,e⟩:=c y d;obtain⟨g,b,a⟩:=h z f
 exact⟨g,b,a.trans e⟩
theorem jQ(L:List zx)(x:Wk):∀(n:Nat) (s:MS),OfW s.Ws (room L x n s).Ws
 |0,s=>OfW.refl _
 |n+1,s=>by
  simp only[room]
  cases a:tu L x s with
  |none=>exact OfW.refl _
  |some b =>
   refine OfW.step (Ws:=b.Ws) ?_ (jQ L x n b)
   unfold tu at a
   split at a
   ·cases a
   ·split at a
    ·cases a
    ·split at a
     ·rename_i i _ v c
      simp only[Option.some.injEq]at a;subst a;intro y d
      rcases List.mem_cons.1 d with e|e
      ·exact⟨v,Uq c,by rw[e];rfl⟩
      ·exact⟨y,XI e,rfl⟩
     ·cases a
theorem qz(Ws:List Wk)(m t:Int):OfW Ws (al Ws m t):=by
 intro y a;unfold al at a;obtain⟨z,b,e⟩:=UC.1 a
 refine⟨z,b,?_⟩
 subst e
 split<;>rfl
theorem rp(L:List zx)(s:SS):OfW s.Ws (UH L s).Ws:=by
 unfold UH VN;have j:OfW s.Ws (wW (ej L) s.Ws.length s).Ws:=by
  refine ZZ (I:=fun d=>OfW s.Ws d.Ws) (fun a b h c=>?_) _ _ (OfW.refl _)
  obtain⟨i,x,_,f,_,_,rfl⟩:=fZ c
  exact(h.step (jQ L x _ ⟨a.Ws,a.zt⟩)).step (qz _ _ _)
 refine ZZ (I:=fun d=>OfW s.Ws d.Ws) (fun a b h c=>?_) _ _ j
 obtain⟨i,x,_,f,_,_,rfl⟩:=fC c
 refine h.step (fun y g=>?_)
 unfold Xj at g
 rcases List.mem_or_eq_of_mem_set g with e|e
 ·exact⟨y,e,rfl⟩
 ·exact⟨x,Uq f,by rw[e];rfl⟩
theorem eW(h:x.yi 0=y.yi 0):x.zm=y.zm/\x.zb=y.zb/\x.d0=y.d0/\x.d1=y.d1:=by
 simp only[Wk.yi,Wk.mk.injEq]at h
 exact⟨h.1,h.2.1,h.2.2.1,h.2.2.2.1⟩
theorem ue.of{za:List zc}(h:ue za Ws zo)(c:OfW Ws Ws'):ue za Ws' zo :=
 ⟨fun y a=>by
  obtain⟨z,b,e⟩:=c y a;obtain⟨n,f,d,l1⟩:=h.zj z b
  exact⟨n,f,d.trans (eW e).2.1,l1⟩,fun y a=>by
  obtain⟨z,b,e⟩:=c y a;rw[<-(eW e).1];exact h.zm z b⟩
theorem ue.sub{za:List zc}(h:ue za Ws zo)(b:Ws'.Sublist Ws):ue za Ws' zo:=⟨fun y a=>h.zj y (b.subset a),fun y a=>h.zm y (b.subset a)⟩
end
end Go.Proofs.YtphclnolomgjoaaGreatDoor
