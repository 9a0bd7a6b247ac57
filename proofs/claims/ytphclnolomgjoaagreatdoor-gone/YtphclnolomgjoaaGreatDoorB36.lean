import Derived.Test.YtphclnolomgjoaaGreatDoorB35
set_option linter.unusedVariables false
set_option linter.unusedSimpArgs false
set_option maxRecDepth 100000
set_option maxHeartbeats 4000000
namespace Go.Proofs.YtphclnolomgjoaaGreatDoor
open Tryz
open Go.RowKit
variable {x:Wk}{L:List Ent}{a bU c d st:Int}{s s':SS}{fn i k:Nat}{A fg:List Wk}{es:List (Int×Int)}{args vs:Array Value}{t:TypeId}
section
variable {nodes:List Node}{Ws:List Wk}{cnt:Int}
theorem qv1(T:Tree nodes)(W:WkL nodes Ws cnt)(hx:x∈Ws)(ho:ownW (nodes.map Node.ent) Ws x=true){e:Ent}(he:e∈nodes.map Node.ent)(bD:inB (qaa x.key) (qaa e.key)=true)(fp:sh0 (nodes.map Node.ent) Ws e x.d0=true):
  ∃v∈Ws,0<v.st/\way (nodes.map Node.ent) Ws x v=true:=by
 refine Classical.byContradiction fun ay=>?_
 have oW:∀v∈Ws,0<v.st->way (nodes.map Node.ent) Ws x v=false:=fun v hv h0=>by
  cases hw:way (nodes.map Node.ent) Ws x v
  ·rfl
  ·exact absurd ⟨v,hv,h0,hw⟩ ay
 have sn:∀m∈qai (nodes.map Node.ent) (qaa e.key),es0 (qai (nodes.map Node.ent) (qaa m.key))=m.n0:=fun m hm=>by
  obtain⟨m1,m2,m3⟩:=qdp.1 hm;rw[qhp T m1 m2];simp[es0]
 have key:∀m∈qai (nodes.map Node.ent) (qaa e.key),ws0 (qae Ws (qaa m.key))<=m.n0:=fun m hm=>by
  refine Classical.byContradiction fun wv=>?_
  obtain⟨m1,m2,m3⟩:=qdp.1 hm;have gu:0<=m.n0:=by obtain⟨n,hn,rfl⟩:=xrq.1 m1;exact(T.num n hn).1.1
  obtain⟨v,hv,hd⟩:=qoi (·.d0) (qae Ws (qaa m.key)) (by show 0<ws0 (qae Ws (qaa m.key));omega);have et:=hv;rw[qgg T W m1 m2,xrr,Bool.and_eq_true,decide_eq_true_eq,decide_eq_true_eq]at et;obtain⟨v1,v2,v3⟩:=et;have hw:=oW v v1 v2;unfold way at hw;rw[List.any_eq_false]at hw;have hw:=hw e he;have h0:way0 (nodes.map Node.ent) Ws x v e=true:=by
   unfold way0;simp only[Bool.and_eq_true,decide_eq_true_eq]
   exact⟨bD,by rw[v3];exact m3,fp,by rw[v3,sn m hm];omega,hd⟩
  rw[h0]at hw
  simp at hw
 have hg:=qpb T W (·.d0) (·.n0) (qaa e.key) x hx bD x.d0 (fun m hm=>by
  have h1:=key m hm
  by_cases ek:x.key=m.key
  ·rw[if_pos ek];unfold ownW at ho;simp only[Bool.and_eq_true,decide_eq_true_eq]at ho;have h2:=ho.1;rw[ek,sn m hm]at h2
   show x.d0+ws0 (qae Ws (qaa m.key))<=m.n0
   omega
  ·rw[if_neg ek]
   show 0+ws0 (qae Ws (qaa m.key))<=m.n0
   omega)
 unfold sh0 at fp;simp only[decide_eq_true_eq]at fp;have cd:ws0 (qae Ws (qaa e.key))+x.d0<=es0 (qai (nodes.map Node.ent) (qaa e.key)):=hg;have bh:0<=e.b0:=by obtain⟨n,hn,rfl⟩:=xrq.1 he;exact(T.num n hn).2.2.1.1
 omega
theorem qv2(T:Tree nodes)(W:WkL nodes Ws cnt)(hx:x∈Ws)(ho:ownW (nodes.map Node.ent) Ws x=true){e:Ent}(he:e∈nodes.map Node.ent)(bD:inB (qaa x.key) (qaa e.key)=true)(fp:sh1 (nodes.map Node.ent) Ws e x.d1=true):
  ∃v∈Ws,0<v.st/\way (nodes.map Node.ent) Ws x v=true:=by
 refine Classical.byContradiction fun ay=>?_
 have oW:∀v∈Ws,0<v.st->way (nodes.map Node.ent) Ws x v=false:=fun v hv h0=>by
  cases hw:way (nodes.map Node.ent) Ws x v
  ·rfl
  ·exact absurd ⟨v,hv,h0,hw⟩ ay
 have sn:∀m∈qai (nodes.map Node.ent) (qaa e.key),es1 (qai (nodes.map Node.ent) (qaa m.key))=m.n1:=fun m hm=>by
  obtain⟨m1,m2,m3⟩:=qdp.1 hm;rw[qhp T m1 m2];simp[es1]
 have key:∀m∈qai (nodes.map Node.ent) (qaa e.key),ws1 (qae Ws (qaa m.key))<=m.n1:=fun m hm=>by
  refine Classical.byContradiction fun wv=>?_
  obtain⟨m1,m2,m3⟩:=qdp.1 hm;have gu:0<=m.n1:=by obtain⟨n,hn,rfl⟩:=xrq.1 m1;exact(T.num n hn).2.1.1
  obtain⟨v,hv,hd⟩:=qoi (·.d1) (qae Ws (qaa m.key)) (by show 0<ws1 (qae Ws (qaa m.key));omega);have et:=hv;rw[qgg T W m1 m2,xrr,Bool.and_eq_true,decide_eq_true_eq,decide_eq_true_eq]at et;obtain⟨v1,v2,v3⟩:=et;have hw:=oW v v1 v2;unfold way at hw;rw[List.any_eq_false]at hw;have hw:=hw e he;have h0:way1 (nodes.map Node.ent) Ws x v e=true:=by
   unfold way1;simp only[Bool.and_eq_true,decide_eq_true_eq]
   exact⟨bD,by rw[v3];exact m3,fp,by rw[v3,sn m hm];omega,hd⟩
  rw[h0]at hw
  simp at hw
 have hg:=qpb T W (·.d1) (·.n1) (qaa e.key) x hx bD x.d1 (fun m hm=>by
  have h1:=key m hm
  by_cases ek:x.key=m.key
  ·rw[if_pos ek];unfold ownW at ho;simp only[Bool.and_eq_true,decide_eq_true_eq]at ho;have h2:=ho.2;rw[ek,sn m hm]at h2
   show x.d1+ws1 (qae Ws (qaa m.key))<=m.n1
   omega
  ·rw[if_neg ek]
   show 0+ws1 (qae Ws (qaa m.key))<=m.n1
   omega)
 unfold sh1 at fp;simp only[decide_eq_true_eq]at fp;have cd:ws1 (qae Ws (qaa e.key))+x.d1<=es1 (qai (nodes.map Node.ent) (qaa e.key)):=hg;have bh:0<=e.b1:=by obtain⟨n,hn,rfl⟩:=xrq.1 he;exact(T.num n hn).2.2.2.1.1
 omega
theorem qvz(T:Tree nodes)(W:WkL nodes Ws cnt)(hx:x∈Ws)(ho:ownW (nodes.map Node.ent) Ws x=true)(hv:qda (nodes.map Node.ent) Ws x=none):qbv (nodes.map Node.ent) Ws x=true:=by
 cases hf:qbv (nodes.map Node.ent) Ws x
 ·exfalso
  unfold qbv at hf;rw[List.all_eq_false]at hf;obtain⟨e,he,ht⟩:=hf;unfold tight at ht;simp only[Bool.not_eq_true',Bool.and_eq_true,Bool.or_eq_true,Bool.not_eq_false]at ht;have hw:∃v∈Ws,0<v.st/\way (nodes.map Node.ent) Ws x v=true:=by
   rcases ht with ⟨bD,h|h⟩
   ·exact qv1 T W hx ho he bD h
   ·exact qv2 T W hx ho he bD h
  obtain⟨v,v1,v2,v3⟩:=hw;obtain⟨k,hk,wH⟩:=List.getElem_of_mem v1;obtain⟨b,z,e1,_⟩:=qdh (nodes.map Node.ent) Ws x Ws.length k v hk (by rw[xr1 hk,wH]) (by omega) v3
  have:some b=none:=e1.symm.trans hv
  cases this
 ·rfl
theorem qnb:∀(n:Nat) (s:MS),WkS s.Ws st->admN s.Ws<=n->qa3 L x (room L x n s)=none
 |0,s,hS,hn=>by
  show qa3 L x s=none
  cases hr:qa3 L x s with
  |none=>rfl
  |some s'=>have:=(qfp hS hr).1;omega
 |n+1,s,hS,hn=>by
  cases hr:qa3 L x s with
  |none=>rw[room_end hr];exact hr
  |some s' =>
   obtain⟨h1,h2,_⟩:=qfp hS hr;rw[qlu hr]
   exact qnb n s' h2 (by omega)
theorem NB.room:∀(n:Nat) (s:MS),RInv L x st s.Ws->NB L s.Ws->NB L (room L x n s).Ws
 |0,s,R,h=>h
 |n+1,s,R,h=>by
  cases hr:qa3 L x s with
  |none=>rw[room_end hr];exact h
  |some s' =>
   obtain⟨i,v,h1,h2,h3,h4,h5,h6⟩:=qdo hr;rw[qlu hr]
   refine NB.room n s' (R.step hr).1 ?_
   rw[h6]
   exact h.qjs R.wks.wks h3 (by have:=(R.wks.st v (xr2 h3)).1;omega)
structure KI (nodes:List Node) (cnt:Int) (n:Nat) (s:SS):Prop where
 inv:SInv s
 wkl:WkL nodes s.Ws cnt
 nb:NB (nodes.map Node.ent) s.Ws
 len:s.Ws.length=n
theorem KI.own(T:Tree nodes){n:Nat}(h:KI nodes cnt n s)(he:qbc (nodes.map Node.ent) s=some s'):KI nodes cnt n s':=by
 have h1:=h.inv.own he;obtain⟨b,x,g1,g2,g3,g4,rfl⟩:=qee he;have R:=h.inv.rinv g2 g3 g4;have R2:=(R.room (admN s.Ws) ⟨s.Ws,s.evs⟩).1;have Cg:=qol (nodes.map Node.ent) x (admN s.Ws) ⟨s.Ws,s.evs⟩;have W2:=h.wkl.of Cg;have hd:=qnb (L:=nodes.map Node.ent) (x:=x) (admN s.Ws) ⟨s.Ws,s.evs⟩ R.wks (Nat.le_refl _);obtain⟨m1,m2,_⟩:=qaj R2.head;have hf:=qvz T W2 m1 R2.own (qg5.1 hd);have dI:=h.nb.room (admN s.Ws) ⟨s.Ws,s.evs⟩ R
 refine⟨h1.1,W2.of (qin _ _ _),?_,by rw[h1.2.2.2.1,h.len]⟩
 obtain⟨i,hi,BQ⟩:=List.getElem_of_mem m1;have fD:(room (nodes.map Node.ent) x (admN s.Ws) ⟨s.Ws,s.evs⟩).Ws[i]?=some x:=by rw[xr1 hi,BQ]
 show NB _ (qd7 (room (nodes.map Node.ent) x (admN s.Ws) ⟨s.Ws,s.evs⟩).Ws x.num (s.st+1))
 rw[qcg R2.wks.nums fD]
 exact dI.admit fD m2 (by have:=h.inv.st0;omega) hf
theorem KI.idle{n:Nat}(h:KI nodes cnt n s)(he:qat (nodes.map Node.ent) s=some s'):KI nodes cnt n s':=by
 have h1:=h.inv.idle he;obtain⟨b,x,g1,g2,g3,g4,rfl⟩:=qcz he;have e:(qf5 b x s).Ws=qd7 s.Ws x.num (s.st+1):=(qcg h.inv.wks.nums g2 _).symm
 refine⟨h1.1,by rw[e];exact h.wkl.of (qin _ _ _),?_,by rw[h1.2.2.2.1,h.len]⟩
 exact h.nb.admit g2 (qgt g3) (by have:=h.inv.st0;omega) g4
def qnj (L:List Ent)(Ws:List Wk):Prop:=∀y,qaz Ws y.key=some y->ownW L Ws y=false
def qyg (L:List Ent)(Ws:List Wk):Prop:=∀y,qaz Ws y.key=some y->qbv L Ws y=false
theorem qnj.idle(I:SInv s)(h:qnj L s.Ws)(he:qat L s=some s'):qnj L s'.Ws:=by
 have I':=(I.idle he).1;obtain⟨b,x,g1,g2,g3,g4,rfl⟩:=qcz he;have jY:=qgt g3;have ht:0<s.st+1:=by have:=I.st0;omega
 have hS:∀y∈s.Ws,0<=y.st:=fun y hy=>(I.wks.st y hy).1
 have C7:=qch hS g2 g3;intro y hy;obtain⟨y1,y2,_⟩:=qaj hy;have pB:=I'.wks.wks.num y y1
 show ownW L (s.Ws.set b (x.adm (s.st+1))) y=false
 by_cases e:x.key=y.key
 ·have h1:=h x C7;unfold ownW at h1 ⊢;have u:=qfu g2 jY ht (qaa x.key);rw[qie]at u;simp only[if_true]at u;rw[<-e,u.1,u.2];simp only[Bool.and_eq_false_iff,decide_eq_false_iff_not]at h1 ⊢
  omega
 ·have nB:qaz s.Ws y.key=some y:=by rw[<-qcv g2 ht e];exact hy
  rw[qc1 g2 jY ht (I.anti.not (xr2 g2) (qaj nB).1 e)]
  exact h y nB
structure qw8 (nodes:List Node) (cnt:Int) (n:Nat) (s:SS):Prop extends KI nodes cnt n s where
 own:qnj (nodes.map Node.ent) s.Ws
 fit:qyg (nodes.map Node.ent) s.Ws
theorem settled(T:Tree nodes)(E:Ents (nodes.map Node.ent))(h:KI nodes cnt Ws.length ⟨Ws,st,[]⟩):qw8 nodes cnt Ws.length (qal (nodes.map Node.ent) ⟨Ws,st,[]⟩):=by
 have e:qal (nodes.map Node.ent) ⟨Ws,st,[]⟩=qbf (qat (nodes.map Node.ent)) Ws.length (qbf (qbc (nodes.map Node.ent)) Ws.length ⟨Ws,st,[]⟩):=rfl;rw[e];have a1:=qdv (f:=qbc (nodes.map Node.ent)) (I:=KI nodes cnt Ws.length) (fun a b ha he=>ha.own T he) Ws.length ⟨Ws,st,[]⟩ h;have a2:=qhf (f:=qbc (nodes.map Node.ent)) (I:=SInv) (m:=fun s=>mOwn (nodes.map Node.ent) s.Ws) (fun a b ha he=>⟨(ha.own he).1,(ha.own he).2.1⟩) Ws.length ⟨Ws,st,[]⟩ h.inv (qtb _ _);generalize qbf (qbc (nodes.map Node.ent)) Ws.length ⟨Ws,st,[]⟩=s1 at a1 a2 ⊢;have Bd:∀y∈s1.Ws,0<=y.st:=fun y hy=>(a1.inv.wks.st y hy).1
 have ay:qnj (nodes.map Node.ent) s1.Ws:=fun y hy=>by
  refine qra Bd ?_ hy
  unfold qbc at a2
  cases hp:qlr (nodes.map Node.ent) s1.Ws with
  |none=>rfl
  |some b =>
   obtain⟨_,x,hx,_⟩:=qje hp;rw[hp]at a2;simp only[hx]at a2
   cases a2
 have b1:=qdv (f:=qat (nodes.map Node.ent)) (I:=fun s=>KI nodes cnt Ws.length s/\qnj (nodes.map Node.ent) s.Ws) (fun a b ha he=>⟨ha.1.idle he,ha.2.idle ha.1.inv he⟩) Ws.length s1 ⟨a1,ay⟩;have b2:=qhf (f:=qat (nodes.map Node.ent)) (I:=SInv) (m:=fun s=>qi4 s.Ws) (fun a b ha he=>⟨(ha.idle he).1,(ha.idle he).2.1⟩) Ws.length s1 a1.inv (by have:=qpj s1.Ws;have:=a1.len;omega);generalize qbf (qat (nodes.map Node.ent)) Ws.length s1=s2 at b1 b2 ⊢
 refine⟨b1.1,b1.2,fun y hy=>?_⟩
 have Be:∀y∈s2.Ws,0<=y.st:=fun y hy=>(b1.1.inv.wks.st y hy).1
 refine qld E Be ?_ hy
 unfold qat at b2
 cases hp:qdm (nodes.map Node.ent) s2.Ws with
 |none=>rfl
 |some b =>
  obtain⟨x,hx,_⟩:=qdn hp;rw[hp]at b2;simp only[hx]at b2
  cases b2
end
def KW.wk(paths:List (List Bs))(w:KW):Wk:=⟨w.num,paths.getD w.leaf [],w.d0,w.d1,if w.inn then w.qav else 0⟩
def KW.fix(w:KW):Int×Nat×Int×Int:=(w.num,w.leaf,w.d0,w.d1)
theorem qih{α : Type}{l:List α}{x : α}(h:l[k]?=some x):l.set k x=l:=by
 obtain⟨hk,e⟩:=xr0.1 h;rw[<-e];exact List.set_getElem_self hk
theorem qo9{ws:List KW}(hn:(ws.map (·.num)).Nodup){w:KW}(hw:w∈ws):∃k,ws[k]?=some w/\ws.findIdx? (fun y=>y.num == w.num)=some k:=by
 obtain⟨k,hk,e⟩:=List.getElem_of_mem hw;have cx:ws[k]?=some w:=by rw[xr1 hk,e]
 refine⟨k,cx,?_⟩
 rw[List.findIdx?_eq_some_iff_getElem]
 refine⟨hk,by simp[e],fun j hj=>?_⟩
 intro he;have jF:ws[j].num=w.num:=by simpa using he
 have:=qfy hn (xr1 (by omega:j<ws.length)) cx jF
 omega
theorem qou(paths:List (List Bs))(ws:List KW):(ws.map (KW.wk paths)).map (·.num)=ws.map (·.num):=by
 rw[List.map_map];rfl
theorem qzr{paths:List (List Bs)}{ws:List KW}(hn:(ws.map (·.num)).Nodup)(dC:∀w∈ws,w.inn=true->0<w.qav)(h0:0<=st)(hx:x∈ws.map (KW.wk paths))(jY:x.st=0):
  ∃an,qng (ws,st) (1,x.num)=some (an,st+1)/\an.map (KW.wk paths)=qd7 (ws.map (KW.wk paths)) x.num (st+1)/\(∀w∈an,w.inn=true->0<w.qav)/\an.map KW.fix=ws.map KW.fix:=by
 obtain⟨w,hw,rfl⟩:=xrq.1 hx;obtain⟨k,hk,hf⟩:=qo9 hn hw;have bD:w.inn=false:=by
  cases hi:w.inn
  ·rfl
  ·have:=dC w hw hi
   have h2:(if w.inn=true then w.qav else 0)=0:=jY;rw[hi]at h2
   simp at h2
   omega
 have fO:=(xr0.1 hk).1
 refine⟨ws.set k {w with inn:=true,qav:=st+1},?_,?_,?_,?_⟩
 ·unfold qng;have kV:ws.findIdx? (fun y=>y.num == (KW.wk paths w).num)=some k:=hf;simp only[kV,hk,bD]
  simp
 ·have aY:(ws.map (KW.wk paths))[k]?=some (KW.wk paths w):=by rw[xrs,hk];rfl
  rw[qcg (by rw[qou];exact hn) aY,List.map_set]
  rfl
 ·intro y hy ui
  rcases List.mem_or_eq_of_mem_set hy with e|e
  ·exact dC y e ui
  ·subst e;simp only;omega
 ·rw[List.map_set]
  have:(ws.map KW.fix)[k]?=some (KW.fix w):=by rw[xrs,hk];rfl
  exact qih this
theorem qzs{paths:List (List Bs)}{ws:List KW}(hn:(ws.map (·.num)).Nodup)(dC:∀w∈ws,w.inn=true->0<w.qav)(hx:x∈ws.map (KW.wk paths))(jY:0<x.st):
  ∃an,qng (ws,st) (2,x.num)=some (an,st)/\an.map (KW.wk paths)=qd7 (ws.map (KW.wk paths)) x.num 0/\(∀w∈an,w.inn=true->0<w.qav)/\an.map KW.fix=ws.map KW.fix:=by
 obtain⟨w,hw,rfl⟩:=xrq.1 hx;obtain⟨k,hk,hf⟩:=qo9 hn hw;have bD:w.inn=true:=by
  cases hi:w.inn
  ·have h2:0<(if w.inn=true then w.qav else 0):=jY;rw[hi]at h2
   simp at h2
  ·rfl
 refine⟨ws.set k {w with inn:=false},?_,?_,?_,?_⟩
 ·unfold qng;have kV:ws.findIdx? (fun y=>y.num == (KW.wk paths w).num)=some k:=hf;simp only[kV,hk,bD]
  simp
 ·have aY:(ws.map (KW.wk paths))[k]?=some (KW.wk paths w):=by rw[xrs,hk];rfl
  rw[qcg (by rw[qou];exact hn) aY,List.map_set]
  rfl
 ·intro y hy ui
  rcases List.mem_or_eq_of_mem_set hy with e|e
  ·exact dC y e ui
  ·subst e;simp at ui
 ·rw[List.map_set]
  have:(ws.map KW.fix)[k]?=some (KW.fix w):=by rw[xrs,hk];rfl
  exact qih this
theorem qid(ws:List KW):ws.map (·.num)=(ws.map KW.fix).map (·.1):=by rw[List.map_map];rfl
theorem qwg{p:Bool}{B:List Wk}(h:Ev L p A st es B bU):∀ {paths:List (List Bs)} {ws:List KW},(ws.map (KW.wk paths)).Perm A->(ws.map (·.num)).Nodup->(∀w∈ws,w.inn=true->0<w.qav)->0<=st ->
  ∃an,qdj (ws,st) es=some (an,bU)/\(an.map (KW.wk paths)).Perm B/\(∀w∈an,w.inn=true->0<w.qav)/\an.map KW.fix=ws.map KW.fix:=by
 induction h with
 |nil h=>intro paths ws hp hn dC h0;exact⟨ws,rfl,hp.trans h,dC,rfl⟩
 |adm h1 h2 h3 h4 ih =>
  intro paths ws hp hn dC h0;obtain⟨ws1,a1,a2,a3,a4⟩:=qzr hn dC h0 (hp.mem_iff.2 h1) h2;obtain⟨eC,b1,b2,b3,b4⟩:=ih (by rw[a2];exact qex hp _ _) (by rw[qid,a4,<- qid];exact hn) a3 (by omega)
  refine⟨eC,?_,b2,b3,b4.trans a4⟩
  unfold qdj;rw[a1]
  exact b1
 |evi h1 h2 h3 h4 ih =>
  intro paths ws hp hn dC h0;obtain⟨ws1,a1,a2,a3,a4⟩:=qzs (st:=_) hn dC (hp.mem_iff.2 h1) h2;obtain⟨eC,b1,b2,b3,b4⟩:=ih (by rw[a2];exact qex hp _ _) (by rw[qid,a4,<- qid];exact hn) a3 h0
  refine⟨eC,?_,b2,b3,b4.trans a4⟩
  unfold qdj;rw[a1]
  exact b1
section
variable {F:Nat->Prop}{W w':World}{rb:Nat}{R:KR}{P:Nat->Prop}{bt:Nat}{vp vw vl:Value}
theorem qkn{ps:List (List Bs)}(x:List Bs):qfl (ps.set k x)=(qfl ps).set k (.string (sb (qaa x))):=by
 unfold qfl;rw[List.map_set]
def qbq (f t:List Bs)(ps:List (List Bs))(k:Nat):List (List Bs):=(ps.take k).map (mvK f t)++ps.drop k
theorem qfx(f t:List Bs)(ps:List (List Bs))(hk:k<=ps.length):(qbq f t ps k).length=ps.length:=by
 unfold qbq;simp;omega
theorem qgy(f t:List Bs)(ps:List (List Bs)){q:List Bs}(hq:ps[k]?=some q):(qbq f t ps k)[k]?=some q:=by
 have hl:=(xr0.1 hq).1;unfold qbq;rw[xro (by simp;omega)];simp only[List.length_map,List.length_take];rw[Nat.min_eq_left (by omega),Nat.sub_self,List.getElem?_drop,Nat.add_zero]
 exact hq
theorem qi8(f t:List Bs)(ps:List (List Bs)){q:List Bs}(hq:ps[k]?=some q):qbq f t ps (k+1)=(qbq f t ps k).set k (mvK f t q):=by
 have hl:=(xr0.1 hq).1;unfold qbq;rw[List.set_append_right _ _ (by simp;omega)];simp only[List.length_map,List.length_take];rw[Nat.min_eq_left (by omega),Nat.sub_self,qns hq,xr8,xrf hl,List.map_append];rw[xr1 hl]at hq
 cases hq
 simp
theorem qpk{f t q:List Bs}(hf:f≠[])(ht:t≠[])(kY:qbx f=true)(cT:qbx q=true):(inB (qaa q) (qaa f)=false/\mvK f t q=q)\/(inB (qaa q) (qaa f)=true/\(qaa f).length<=(qaa q).length/\qaa (mvK f t q)=qaa t++(qaa q).drop (qaa f).length):=by
 cases hi:inB (qaa q) (qaa f)
 ·left
  exact⟨rfl,qbe (fun e=>by rw[(qe1 cT kY).2 e]at hi;cases hi)⟩
 ·right
  obtain⟨tl,rfl⟩:=(qe1 cT kY).1 hi
  refine⟨rfl,?_,?_⟩
  ·by_cases ht:tl=[]
   ·subst ht;simp
   ·rw[qea f tl hf ht];simp
  ·rw[qc0 ⟨tl,rfl⟩,List.drop_left,qoe hf ht]
theorem qgl(a b:ByteArray):a++b=sb (bl a++bl b):=qd8 (by rw[qbs];simp[bl])
theorem qvm(h:qau F W rb R){p tk:List Bs}(hp:R.paths[i]?=some p)(cg:∀q∈R.paths,qbx q=true/\q≠[]/\(sb (qaa q)).size<=2000000)(dU:R.paths.length<=100)(xo:qbx tk=true)(p_:(sb (qaa tk)).size<=2000000)(jM:R.works.length<=24)(cJ:0<=R.qav/\R.qav<=1000000){o:Out}(ho:R.k.move (qaa p) (qaa tk)=o)(he:o.err=0)(hm:o.evs.length<=1000){an:List KW}(db:qdj (R.works,R.qav) o.evs=some (an,bU)):
  Calls prog 44 #[.pointer (some ⟨rb,0,none⟩),.int .i64 i,.string (sb (qaa tk))] W fun e w'=>e=.returned (.bool true)/\qau F w' rb ⟨o.ks,R.paths.map (mvK p (tk++[qad p])),an,bU,o.evs⟩/\Keep (fun b=>¬F b) W w':=by
 obtain⟨P,bt,vp,vw,vl,h⟩:=h;obtain⟨gp,cp,cu,bK,eL,b_,cO,q0⟩:=h.path hp;have mZ:=(xr0.1 hp).1;have hz:=h.size;obtain⟨dS,gd,dg⟩:=cg p (xr2 hp);have aJ:∀Wx,Below W.heap.size W Wx->Calls prog 30 #[.pointer (some ⟨bt,0,none⟩),.string (sb (qaa p)),.string (sb (qaa tk))] Wx fun e w1=>∃a1 c1 P1,e=.returned (.tuple #[.slice a1 o.evs.length c1,.int .i64 0])/\Blk w1 rb 50 #[.pointer (some ⟨bt,0,none⟩),vp,vw,.int .i64 R.qav,vl]/\w1.cell? ⟨gp,i,none⟩=some (.string (sb (qaa p)))/\gp<w1.heap.size /\
   Hid (RunM F w1 rb {R with k:=o.ks} P1 bt vp vw vl)/\Hid (w1.ownsRow 0 60 2 (.slice a1 o.evs.length c1) o.evs.length (qam o.evs)/\(∀b,(Value.slice a1 o.evs.length c1).ownBlock=some b->W.heap.size<=b/\¬P1 b)/\Keep (fun b=>¬F b) W w1):=fun Wx hb=>by
  have hx:=h.below hb
  refine(qs2 hx.tw (sb (qaa p)) (sb (qaa tk)) dg p_).mono ?_
  rw[qbs,qbs,ho,he]
  rintro e w1 ⟨ev,rfl,hO⟩
  obtain⟨P1,g1,g2,g3,g4⟩:=hx.called hO;obtain⟨a1,c1,rfl,_,_⟩:=qa7 g2;obtain⟨_,_,e1,rj,_,_,_,q1⟩:=g1.path (i:=i) (p:=p) hp;have lV:=cu.symm.trans e1;injection lV with e2;injection e2 with e2;injection e2 with e2;subst e2
  exact⟨a1,c1,P1,rfl,g1.at_,q1,rj,g1,g2,fun b bh=>⟨Nat.le_trans hb.size (g3 b bh).1,(g3 b bh).2⟩,(Keep.new hb).trans g4⟩
 have ny:∀(w1 w2:World) (P1:Nat->Prop) (a1:Option Addr) (c1:Nat),Hid (RunM F w1 rb {R with k:=o.ks} P1 bt vp vw vl)->Hid (w1.ownsRow 0 60 2 (.slice a1 o.evs.length c1) o.evs.length (qam o.evs)/\(∀b,(Value.slice a1 o.evs.length c1).ownBlock=some b->W.heap.size<=b/\¬P1 b)/\Keep (fun b=>¬F b) W w1)->PwAt w1 vp (R.paths.map (mvK p (tk++[qad p]))) w2->Calls prog 48 #[.pointer (some ⟨rb,0,none⟩),.slice a1 o.evs.length c1] w2 fun e w3=>e=.returned (.bool true)/\Hid (qau F w3 rb ⟨o.ks,R.paths.map (mvK p (tk++[qad p])),an,bU,o.evs⟩/\Keep (fun b=>¬F b) W w3):=fun w1 w2 P1 a1 c1 hR hr fI=>by
  obtain⟨g2,g3,g4⟩:=hr.out;obtain⟨m1,m2⟩:=hR.out.setp fI;have dU:∀b,vp.ownBlock=some b->b<W.heap.size:=fun b hb=>qap h.prow hb
  refine(m1.takes (qaf g2 fI.keep (fun b hb e=>by have:=(g3 b hb).1;have:=dU b e;omega)) (fun b hb=>?_) jM hm cJ db).mono ?_
  ·have h1:=g3 b hb
   refine⟨fun e=>by have:=h.fo b e;omega,h1.2,by omega,fun e=>?_,fun e=>?_⟩
   ·have:=dU b e;omega
   ·have:=qap h.wrow e;omega
  ·rintro e w3 ⟨rfl,t1,t2⟩
   exact⟨rfl,⟨_,_,_,_,_,t1⟩,(g4.trans m2).trans t2⟩
 have bQ:=fun w=>qs5 dS gd dg w
 have c0:=h.at_.cell 0;have c1:=h.at_.cell 1;simp only[xq0,xq1,xq2]at c0 c1;rw[cu]at c1;have fF:(i:Int)<R.paths.length:=by omega
 have jJ:(0:Int)<=i:=by omega
 obtain⟨np,rQ⟩:∃np,np=R.paths.length:=⟨_,rfl⟩;have kg:Hid (np=R.paths.length):=rQ;rw[<-rQ]at c1 fF cu b_ dU mZ;have ko:∀(w1 Wx:World) (P1:Nat->Prop),Hid (RunM F w1 rb {R with k:=o.ks} P1 bt vp vw vl)->∀ps,PwAt w1 vp ps Wx->Wx.cell? ⟨rb,1,none⟩=some (.slice (some ⟨gp,0,none⟩) np cp)/\gp<Wx.heap.size:=fun w1 Wx P1 hR ps fI=>by
  have:=(hR.out.at_.keep fI.keep hR.out.ne.1).cell 1
  simp only[xq0,xq1,xq2]at this;rw[cu]at this
  exact⟨this,by have:=qap hR.out.prow (show vp.ownBlock=some gp by rw[cu];rfl);have:=fI.keep.size;omega⟩
 have jk:Hid (∀q∈R.paths,qbx q=true/\q≠[]/\(sb (qaa q)).size<=2000000):=cg;have tI:Hid ((tk=[]->sb (qad p)=sb (qaa (tk++[qad p])))/\(tk≠[]->sb (qaa tk)++(⟨#[47]⟩:ByteArray)++sb (qad p)=sb (qaa (tk++[qad p])))):=by
  refine⟨fun e=>by rw[e];rfl,fun e=>?_⟩
  rw[qhg _ _ e,qgl,qgl];simp only[qbs]
  congr 1
  simp[bl]
 clear db hm ho hp cg rQ
 go_enter func44,ntmps44
 go_upto_region 1 with fail
 go_region_held3 (fun w'=>w'.cell? ⟨rb,0,none⟩=some (.pointer (some ⟨bt,0,none⟩))/\w'.cell? ⟨rb,1,none⟩=some (.slice (some ⟨gp,0,none⟩) np cp)/\w'.cell? ⟨gp,i,none⟩=some (.string (sb (qaa p)))) (go_keep)
  (first
   |(go_at_call 30;refine(aJ _ ?_).mono ?_;(focus exact bel2);rintro e w1 ⟨a1,dr,P1,rfl,bL,dV,rj,eI,yE⟩;have d0:=bL.cell 0;have d1:=bL.cell 1;simp only[xq0,xq1,xq2]at d0 d1;rw[cu]at d1))
 have oa:=fun w2=>ny w1 w2 P1 a1 dr eI yE
 have qW:=fun Wx=>ko w1 Wx P1 eI
 have rT:Hid (PwAt w1 vp (qbq p (tk++[qad p]) R.paths 0) w1):=by
  refine⟨?_,Keep.refl _ _⟩
  have e:qbq p (tk++[qad p]) R.paths 0=R.paths:=by unfold qbq;simp
  rw[e];exact eI.out.prow
 clear ny ko aJ yE eI c0 c1 q0
 go_upto_region 6 with (go_at_call 76;refine(bQ _).mono ?_;rintro e wq ⟨rfl,C1⟩;subst C1)
 have jK:(sb (qad p)).size<=2000000:=by
  rw[qco]
  rcases List.eq_nil_or_concat p with e|⟨q,n,e⟩
  ·exact absurd e gd
  ·rw[List.concat_eq_append]at e
   have:=(qdr (qby dS (show n∈p by rw[e];simp))).2
   rw[e,qaq];omega
 by_cases pv:tk=[]
 ·obtain⟨gS,mT⟩:∃gS,gS=sb (qad p):=⟨_,rfl⟩;have HG:Hid (gS=sb (qaa (tk++[qad p]))):=by show gS=_;rw[mT];exact tI.out.1 pv
  have oJ:gS.size<=5000000:=by rw[mT];omega
  have hz:sb (qaa tk)=⟨#[]⟩:=by rw[pv];rfl
  rw[hz,<- mT];clear mT hz tI pv jK bQ
  go_wp2_with fail
  go_loopw [11] (fun kk wr=>∃k:Nat,k<=np/\kk=.int .i64 k/\PwAt wq vp (qbq p (tk++[qad p]) R.paths k) wr) (fun kk _=>np-(intOf kk).toNat)
  case atStart=>exact⟨0,Nat.zero_le _,rfl,rT.out⟩
  case round =>
   obtain⟨k,hk,rfl,fI⟩:=hrel;obtain⟨e1,eg⟩:=qW _ _ fI
   by_cases ak:k<np
   ·obtain⟨q,hq⟩:∃q,R.paths[k]?=some q:=⟨_,xr1 (by rw[<-kg.out];exact ak)⟩;obtain⟨cT,jU,lD⟩:=jk.out q (xr2 hq);have aS:=fI.row;rw[qfx _ _ _ (by rw[<-kg.out];exact hk),<- kg.out,cu]at aS;have e2:wr.cell? ⟨gp,k,none⟩=some (.string (sb (qaa q))):=by
     have:=aS.cells (g:=gp) rfl k (.string (sb (qaa q))) (by unfold qfl;rw[xrs,qgy _ _ _ hq];rfl)
     rw[Addr.add_lit,Nat.zero_add]at this
     exact this
    have e3:=aS.frozenAt k;have ja:(k:Int)<np:=by omega
    have eM:(0:Int)<=k:=by omega
    have dk:=fun w=>qph (sb (qaa q)) (sb (qaa p)) w lD dg
    rw[qbs,qbs]at dk;have ky:Hid (qbq p (tk++[qad p]) R.paths (k+1)=(qbq p (tk++[qad p]) R.paths k).set k (mvK p (tk++[qad p]) q)):=qi8 _ _ _ hq;have uq:Hid ((qbq p (tk++[qad p]) R.paths k)[k]?=some q):=qgy _ _ _ hq;have uy:Hid ((qbq p (tk++[qad p]) R.paths k).length=np):=by show _=np;rw[qfx _ _ _ (by rw[<-kg.out];exact hk),<- kg.out]
    have qk:Hid (PwAt wq vp (qbq p (tk++[qad p]) R.paths k) wr):=fI;have uC:Hid (wr.ownsRow 0 9 1 (.slice (some ⟨gp,0,none⟩) np cp) np (qfl (qbq p (tk++[qad p]) R.paths k))):=aS
    rcases qpk (q:=q) (t:=tk++[qad p]) gd (by simp) dS cT with ⟨bD,gQ⟩|⟨bD,dn,gQ⟩
    ·rw[bD]at dk;have u6:Hid (mvK p (tk++[qad p]) q=q):=gQ;clear hq aS fI gQ
     go_wp2_with (go_at_call 35;refine(dk _).mono ?_;rintro e wz ⟨rfl,lP⟩;subst lP)
     refine⟨⟨k+1,by omega,by go_num,?_⟩,by simp[intOf];omega⟩
     rw[ky.out,u6.out,qih uq.out]
     exact qk.out
    ·rw[bD]at dk;have wK:((sb (qaa p)).size:Int)<=(sb (qaa q)).size:=by rw[qco,qco];omega
     have wL:(0:Int)<=(sb (qaa p)).size:=by omega
     have mj:¬9223372036854775807<gS.size+((sb (qaa q)).size-(sb (qaa p)).size):=by omega
     have uD:Hid (gS++(sb (qaa q)).extract (sb (qaa p)).size (sb (qaa q)).size=sb (qaa (mvK p (tk++[qad p]) q))):=by
      show _=_
      rw[gQ,HG.out,qk9,qgl];simp only[qbs,qco]
     clear hq aS fI gQ
     go_wp2_with (go_at_call 35;refine(dk _).mono ?_;rintro e wz ⟨rfl,lP⟩;subst lP)
     go_region
     go_wp2_with fail
     refine⟨⟨k+1,by omega,by go_num,?_⟩,by simp[intOf];omega⟩
     rw[ky.out,uD.out];have hr:=(uC.out.stored k (.string (sb (qaa (mvK p (tk++[qad p]) q))))).1
     refine⟨?_,?_⟩
     ·rw[List.length_set,uy.out,qkn,cu]
      exact hr.drew
     ·exact(qk.out.keep.setCell (p:=⟨gp,k,none⟩) (by rw[cu];rfl) _).drew
   ·have gr:k=np:=by omega
    subst gr;have aC:qbq p (tk++[qad p]) R.paths k=R.paths.map (mvK p (tk++[qad p])):=by
     unfold qbq;rw[kg.out];simp
    rw[aC]at fI
    go_wp2_with (go_at_call 48;refine(oa _ fI).mono ?_;rintro e w3 ⟨rfl,aV⟩)
    go_ret
    exact⟨rfl,aV.out⟩
 ·obtain⟨gS,mT⟩:∃gS,gS=sb (qaa tk)++(⟨#[47]⟩:ByteArray)++sb (qad p):=⟨_,rfl⟩;have HG:Hid (gS=sb (qaa (tk++[qad p]))):=by show gS=_;rw[mT];exact tI.out.2 pv
  have oJ:gS.size<=5000000:=by
   rw[mT,ByteArray.size_append,ByteArray.size_append]
   have:(⟨#[47]⟩:ByteArray).size=1:=rfl
   omega
  have wZ:¬9223372036854775807<(sb (qaa tk)).size+1:=by omega
  have l8:¬9223372036854775807<(sb (qaa tk)++(⟨#[47]⟩:ByteArray)).size+(sb (qad p)).size:=by
   rw[ByteArray.size_append]
   have:(⟨#[47]⟩:ByteArray).size=1:=rfl
   omega
  have tV:((sb (qaa tk)).toList.isEmpty)=false:=by
   rw[qb3,qbs]
   cases hj:qaa tk with
   |nil=>exact absurd ((qcj xo).1 hj) pv
   |cons a l=>rfl
  have xU:Hid (gS=sb (qaa tk)++(⟨#[47]⟩:ByteArray)++sb (qad p)):=mT;generalize sb (qaa tk)=tS at *;clear mT tI pv bQ
  go_upto_region 8 with fail
  rw[<-xU.out];clear wZ l8 tV xU
  go_wp2_with fail
  go_loopw [11] (fun kk wr=>∃k:Nat,k<=np/\kk=.int .i64 k/\PwAt wq vp (qbq p (tk++[qad p]) R.paths k) wr) (fun kk _=>np-(intOf kk).toNat)
  case atStart=>exact⟨0,Nat.zero_le _,rfl,rT.out⟩
  case round =>
   obtain⟨k,hk,rfl,fI⟩:=hrel;obtain⟨e1,eg⟩:=qW _ _ fI
   by_cases ak:k<np
   ·obtain⟨q,hq⟩:∃q,R.paths[k]?=some q:=⟨_,xr1 (by rw[<-kg.out];exact ak)⟩;obtain⟨cT,jU,lD⟩:=jk.out q (xr2 hq);have aS:=fI.row;rw[qfx _ _ _ (by rw[<-kg.out];exact hk),<- kg.out,cu]at aS;have e2:wr.cell? ⟨gp,k,none⟩=some (.string (sb (qaa q))):=by
     have:=aS.cells (g:=gp) rfl k (.string (sb (qaa q))) (by unfold qfl;rw[xrs,qgy _ _ _ hq];rfl)
     rw[Addr.add_lit,Nat.zero_add]at this
     exact this
    have e3:=aS.frozenAt k;have ja:(k:Int)<np:=by omega
    have eM:(0:Int)<=k:=by omega
    have dk:=fun w=>qph (sb (qaa q)) (sb (qaa p)) w lD dg
    rw[qbs,qbs]at dk;have ky:Hid (qbq p (tk++[qad p]) R.paths (k+1)=(qbq p (tk++[qad p]) R.paths k).set k (mvK p (tk++[qad p]) q)):=qi8 _ _ _ hq;have uq:Hid ((qbq p (tk++[qad p]) R.paths k)[k]?=some q):=qgy _ _ _ hq;have uy:Hid ((qbq p (tk++[qad p]) R.paths k).length=np):=by show _=np;rw[qfx _ _ _ (by rw[<-kg.out];exact hk),<- kg.out]
    have qk:Hid (PwAt wq vp (qbq p (tk++[qad p]) R.paths k) wr):=fI;have uC:Hid (wr.ownsRow 0 9 1 (.slice (some ⟨gp,0,none⟩) np cp) np (qfl (qbq p (tk++[qad p]) R.paths k))):=aS
    rcases qpk (q:=q) (t:=tk++[qad p]) gd (by simp) dS cT with ⟨bD,gQ⟩|⟨bD,dn,gQ⟩
    ·rw[bD]at dk;have u6:Hid (mvK p (tk++[qad p]) q=q):=gQ;clear hq aS fI gQ
     go_wp2_with (go_at_call 35;refine(dk _).mono ?_;rintro e wz ⟨rfl,lP⟩;subst lP)
     refine⟨⟨k+1,by omega,by go_num,?_⟩,by simp[intOf];omega⟩
     rw[ky.out,u6.out,qih uq.out]
     exact qk.out
    ·rw[bD]at dk;have wK:((sb (qaa p)).size:Int)<=(sb (qaa q)).size:=by rw[qco,qco];omega
     have wL:(0:Int)<=(sb (qaa p)).size:=by omega
     have mj:¬9223372036854775807<gS.size+((sb (qaa q)).size-(sb (qaa p)).size):=by omega
     have uD:Hid (gS++(sb (qaa q)).extract (sb (qaa p)).size (sb (qaa q)).size=sb (qaa (mvK p (tk++[qad p]) q))):=by
      show _=_
      rw[gQ,HG.out,qk9,qgl];simp only[qbs,qco]
     clear hq aS fI gQ
     go_wp2_with (go_at_call 35;refine(dk _).mono ?_;rintro e wz ⟨rfl,lP⟩;subst lP)
     go_region
     go_wp2_with fail
     refine⟨⟨k+1,by omega,by go_num,?_⟩,by simp[intOf];omega⟩
     rw[ky.out,uD.out];have hr:=(uC.out.stored k (.string (sb (qaa (mvK p (tk++[qad p]) q))))).1
     refine⟨?_,?_⟩
     ·rw[List.length_set,uy.out,qkn,cu]
      exact hr.drew
     ·exact(qk.out.keep.setCell (p:=⟨gp,k,none⟩) (by rw[cu];rfl) _).drew
   ·have gr:k=np:=by omega
    subst gr;have aC:qbq p (tk++[qad p]) R.paths k=R.paths.map (mvK p (tk++[qad p])):=by
     unfold qbq;rw[kg.out];simp
    rw[aC]at fI
    go_wp2_with (go_at_call 48;refine(oa _ fI).mono ?_;rintro e w3 ⟨rfl,aV⟩)
    go_ret
    exact⟨rfl,aV.out⟩
end
structure KInv (nodes:List Node) (k:KS):Prop where
 L:nodes.map Node.ent=k.L
 tree:Tree nodes
 inv:SInv ⟨k.Ws,k.st,[]⟩
 wkl:WkL nodes k.Ws k.cnt
 cnt0:0<=k.cnt
theorem qau.kinv{F:Nat->Prop}{W:World}{rb:Nat}{R:KR}(h:qau F W rb R):∃nodes,KInv nodes R.k:=by
 obtain⟨P,bt,vp,vw,vl,h⟩:=h;obtain⟨nodes,h1,h2,h3,h4,h5⟩:=h.tw.inv
 exact⟨nodes,h1,h2,h3,h4,h5⟩
structure RunI (n:Nat) (R:KR):Prop where
 len:R.paths.length=8
 keys:(R.k.L.map (·.key)).Perm ([]::R.paths)
 leaf:∀i p,R.paths[i]?=some p->∃e∈R.k.L,e.key=p/\e.leaf=decide (i<5)
 perm:(R.works.map (KW.wk R.paths)).Perm R.k.Ws
 pos:∀w∈R.works,w.inn=true->0<w.qav
 idx:∀w∈R.works,w.leaf<5
 qav:R.qav=R.k.st
 nb:NB R.k.L R.k.Ws
 own:qnj R.k.L R.k.Ws
 fit:qyg R.k.L R.k.Ws
 cnt:R.k.cnt<=n
 st:R.k.st<=48*n
theorem RunI.mono{n m:Nat}{R:KR}(h:RunI n R)(hm:n<=m):RunI m R:=⟨h.len,h.keys,h.leaf,h.perm,h.pos,h.idx,h.qav,h.nb,h.own,h.fit,by have:=h.cnt;omega,by have:=h.st;omega⟩
theorem qg3{nodes:List Node}(T:Tree nodes){Ws:List Wk}{cnt:Int}(hL:nodes.map Node.ent=L)(I:SInv ⟨Ws,st,[]⟩)(W:WkL nodes Ws cnt)(nb:NB L Ws){paths:List (List Bs)}{works:List KW}{n:Nat}(h1:paths.length=8)(h2:(L.map (·.key)).Perm ([]::paths))(h3:∀i p,paths[i]?=some p->∃e∈L,e.key=p/\e.leaf=decide (i<5))(h4:(works.map (KW.wk paths)).Perm Ws)(h5:∀w∈works,w.inn=true->0<w.qav)(h6:∀w∈works,w.leaf<5)(hc:cnt<=n+1)(cJ:st<=48*n):
  ∃an,qdj (works,st) (KS.done L Ws cnt st).evs=some (an,(KS.done L Ws cnt st).st)/\RunI (n+1) ⟨(KS.done L Ws cnt st).ks,paths,an,(KS.done L Ws cnt st).st,(KS.done L Ws cnt st).evs⟩/\(KS.done L Ws cnt st).evs.length<=1000/\an.map KW.fix=works.map KW.fix:=by
 subst hL;have bT:(works.map (·.num)).Nodup:=by
  have:=(h4.map (·.num)).nodup_iff.2 I.wks.nums
  rw[qou]at this
  exact this
 obtain⟨an,a1,a2,a3,a4⟩:=qwg (qt2 (nodes.map Node.ent) I) h4 bT h5 I.st0;have hS:=settled T T.ents ⟨I,W,nb,rfl⟩;have ej:=qre (nodes.map Node.ent) I rfl;have xk:=(qkr (nodes.map Node.ent) I).2.2
 simp only at xk
 refine⟨an,a1,⟨h1,h2,h3,a2,a3,fun w hw=>?_,rfl,hS.nb,hS.own,hS.fit,?_,?_⟩,?_,a4⟩
 ·have:KW.fix w∈works.map KW.fix:=by rw[<-a4];exact xrj hw
  obtain⟨v,hv,e⟩:=xrq.1 this;have e2:v.leaf=w.leaf:=by
   have:=congrArg (fun t:Int×Nat×Int×Int=>t.2.1) e
   exact this
  rw[<-e2]
  exact h6 v hv
 ·exact hc
 ·show(qal (nodes.map Node.ent) ⟨Ws,st,[]⟩).st<=48*((n+1:Nat):Int)
  omega
 ·show(qal (nodes.map Node.ent) ⟨Ws,st,[]⟩).evs.length<=1000
  omega
section
variable {nodes:List Node}{R:KR}{n:Nat}
theorem RunI.path(h:RunI n R)(K:KInv nodes R.k){p:List Bs}(hp:R.paths[i]?=some p):qbx p=true/\p≠[]/\p.length<=4/\∃m∈nodes,qeq R.k.L p=some m.ent/\m.key=p/\m.leaf=decide (i<5):=by
 obtain⟨e,he,hk,hl⟩:=h.leaf i p hp;rw[<-K.L]at he;obtain⟨m,hm,rfl⟩:=xrq.1 he;have cx:m.key=p:=hk;have cg:=K.tree.ok m hm;rw[cx]at cg;have bT:([]::R.paths).Nodup:=h.keys.nodup_iff.1 (by rw[<-K.L];exact qjk K.tree)
 refine⟨cg.1,fun e=>?_,cg.2,m,hm,?_,cx,hl⟩
 ·rw[List.nodup_cons]at bT
  exact bT.1 (e ▸ xr2 hp)
 ·rw[<-K.L,qb4,<- cx,qb0 K.tree hm rfl]
  rfl
theorem RunI.small(h:RunI n R)(K:KInv nodes R.k){p:List Bs}(hp:R.paths[i]?=some p):(sb (qaa p)).size<=2000000:=by
 obtain⟨h1,h2,h3,_⟩:=h.path K hp;rw[qco]
 have:=qi1 _ h1
 omega
theorem RunI.wlen(h:RunI n R):R.works.length=R.k.Ws.length:=by
 have:=h.perm.length_eq
 simpa using this
end
section
variable {nodes:List Node}{R:KR}{n:Nat}
theorem qow(Ws:List Wk)(hx:x.st=0)(s:Bs):qae (Ws++[x]) s=qae Ws s:=by
 unfold qae;rw[List.filter_append]
 simp[hx]
theorem RunI.qbk(h:RunI n R)(K:KInv nodes R.k){leaf:Nat}(hl:leaf<5){p:List Bs}(hp:R.paths[leaf]?=some p){b:Int}(hf:qao a b=true)(a9:R.works.length<24):
  errS R.k.L R.k.Ws (qaa p) (qao a b)=0/\∃an,qdj (R.works++[⟨R.k.cnt+1,leaf,a,b,false,0⟩],R.qav) (R.k.qbk (qaa p) a b).evs=some (an,(R.k.qbk (qaa p) a b).st)/\RunI (n+1) ⟨(R.k.qbk (qaa p) a b).ks,R.paths,an,(R.k.qbk (qaa p) a b).st,(R.k.qbk (qaa p) a b).evs⟩/\(R.k.qbk (qaa p) a b).evs.length<=1000/\an.map KW.fix=(R.works++[(⟨R.k.cnt+1,leaf,a,b,false,0⟩:KW)]).map KW.fix:=by
 obtain⟨hk,gd,pT,m,hm,kX,df,m_⟩:=h.path K hp;have bQ:=qbi hk;have hw:=h.wlen;have eS:m.leaf=true:=by rw[m_];simp[hl]
 have he:errS R.k.L R.k.Ws (qaa p) (qao a b)=0:=by
  unfold errS;have hv:qar (qaa p)=true:=by rw[qcd,bQ];exact hk
  rw[hv,bQ,kX]
  have:m.ent.leaf=true:=eS
  simp only[this,hf];rw[if_neg (by decide),if_neg (by decide),if_neg (by decide),if_neg (by omega)]
 have ho:R.k.qbk (qaa p) a b=KS.done R.k.L (R.k.Ws++[qe4 R.k.cnt (qaa p) a b]) (R.k.cnt+1) R.k.st:=by
  unfold KS.qbk;rw[he];simp
 have rK:m.key=qac (qaa p):=by rw[bQ];exact df
 have I2:=SInv.append K.tree K.inv K.wkl K.cnt0 hm eS rK hf (by omega);have W2:=K.wkl.append K.cnt0 hm eS rK a b;have ue:KW.wk R.paths ⟨R.k.cnt+1,leaf,a,b,false,0⟩=qe4 R.k.cnt (qaa p) a b:=by
  unfold KW.wk qe4;rw[bQ,List.getD_eq_getElem?_getD,hp]
  rfl
 rw[ho,h.qav]
 refine⟨he,qg3 K.tree K.L I2 W2 (fun e he=>?_) h.len h.keys h.leaf ?_ ?_ ?_ (by have:=h.cnt;omega) h.st⟩
 ·rw[qow _ rfl];exact h.nb e he
 ·rw[List.map_append,List.map_cons,List.map_nil,ue]
  exact h.perm.append_right _
 ·intro w hw hi
  rcases xri.1 hw with e|e
  ·exact h.pos w e hi
  ·simp only[List.mem_singleton]at e;subst e;cases hi
 ·intro w hw
  rcases xri.1 hw with e|e
  ·exact h.idx w e
  ·simp only[List.mem_singleton]at e;subst e;exact hl
theorem RunI.full(h:RunI n R)(K:KInv nodes R.k){leaf:Nat}(hl:leaf<5){p:List Bs}(hp:R.paths[leaf]?=some p){b:Int}(hf:qao a b=true)(a9:R.works.length=24):errS R.k.L R.k.Ws (qaa p) (qao a b)=7:=by
 obtain⟨hk,gd,pT,m,hm,kX,df,m_⟩:=h.path K hp;have bQ:=qbi hk;have hw:=h.wlen;have eS:m.leaf=true:=by rw[m_];simp[hl]
 unfold errS;have hv:qar (qaa p)=true:=by rw[qcd,bQ];exact hk
 rw[hv,bQ,kX]
 have:m.ent.leaf=true:=eS
 simp only[this,hf];rw[if_neg (by decide),if_neg (by decide),if_neg (by decide),if_pos (by omega)]
theorem NB.less{Ws:List Wk}(h:NB L Ws)(hs:fg.Sublist Ws)(hW:Wks Ws):NB L fg:=fun e he=>by
 have h1:=h e he;have h2:=qw6 (l:=qae fg (qaa e.key)) (l':=qae Ws (qaa e.key)) (hs.filter _) (fun x hx=>by
  have:=hW.num x (xrr.1 hx).1
  omega)
 omega
theorem RunI.finish(h:RunI n R)(K:KInv nodes R.k){x:KW}(hi:R.works[i]?=some x):
  (R.k.finish x.num).err=0/\∃an,qdj (R.works.take i++R.works.drop (i+1),R.qav) (R.k.finish x.num).evs=some (an,(R.k.finish x.num).st)/\RunI (n+1) ⟨(R.k.finish x.num).ks,R.paths,an,(R.k.finish x.num).st,(R.k.finish x.num).evs⟩/\(R.k.finish x.num).evs.length<=1000/\an.map KW.fix=(R.works.take i++R.works.drop (i+1)).map KW.fix:=by
 have hx:KW.wk R.paths x∈R.k.Ws:=h.perm.mem_iff.1 (xrj (xr2 hi));obtain⟨j,hj,zi⟩:=List.getElem_of_mem hx;have pP:R.k.Ws[j]?=some (KW.wk R.paths x):=by rw[xr1 hj,zi]
 have BI:R.k.Ws.findIdx? (fun y=>y.num == x.num)=some j:=by
  rw[List.findIdx?_eq_some_iff_getElem]
  refine⟨hj,by rw[zi];simp[KW.wk],fun l hl=>?_⟩
  intro e;have e':R.k.Ws[l].num=(KW.wk R.paths x).num:=by simpa [KW.wk] using e
  have:=qfy K.inv.wks.nums (xr1 (by omega:l<R.k.Ws.length)) pP e'
  omega
 have ho:R.k.finish x.num=KS.done R.k.L (R.k.Ws.take j++R.k.Ws.drop (j+1)) R.k.cnt R.k.st:=by
  unfold KS.finish;rw[BI]
 have aD:=qe7 R.k.Ws j;have ep:=(xr0.1 hi).1;rw[ho,h.qav]
 refine⟨rfl,qg3 (Ws:=R.k.Ws.take j++R.k.Ws.drop (j+1)) K.tree K.L ⟨K.inv.wks.sub aD,K.inv.st0,K.inv.anti.sub aD⟩ (K.wkl.sub aD) (h.nb.less aD K.inv.wks.wks) h.len h.keys h.leaf ?_ ?_ ?_ (by have:=h.cnt;omega) h.st⟩
 ·have h1:R.works=R.works.take i++x::R.works.drop (i+1):=qib hi;have h2:R.k.Ws=R.k.Ws.take j++KW.wk R.paths x::R.k.Ws.drop (j+1):=qib pP;have hp:=h.perm;rw[h1,h2,List.map_append,List.map_cons]at hp;have mm:=(List.perm_middle.symm.trans hp).trans List.perm_middle;rw[List.map_append]
  exact(List.perm_cons _).1 mm
 ·intro w hw bD
  refine h.pos w ?_ bD
  rcases xri.1 hw with e|e
  ·exact List.mem_of_mem_take e
  ·exact List.mem_of_mem_drop e
 ·intro w hw
  refine h.idx w ?_
  rcases xri.1 hw with e|e
  ·exact List.mem_of_mem_take e
  ·exact List.mem_of_mem_drop e
end
section
variable {nodes:List Node}{R:KR}{n:Nat}
theorem RunI.stay(h:RunI n R)(last:List (Int×Int)):RunI (n+1) ⟨R.k,R.paths,R.works,R.qav,last⟩ :=
 ⟨h.len,h.keys,h.leaf,h.perm,h.pos,h.idx,h.qav,h.nb,h.own,h.fit,by have:=h.cnt;simp only;omega,by have:=h.st;simp only;omega⟩
theorem qvg{p:List Bs}(h:qbx p=true)(h0:p≠[]):qaa p≠[]:=fun e=>h0 ((qcj h).1 e)
theorem RunI.qbb(h:RunI n R)(K:KInv nodes R.k){p:List Bs}(hp:R.paths[i]?=some p){b:Int}(hZ:qao a b=true)(iu:qao c d=true)(nL:5<=i->a=0/\b=0):
  ((R.k.qbb (qaa p) a b c d).err=0\/((R.k.qbb (qaa p) a b c d).err=11/\(R.k.qbb (qaa p) a b c d).evs=[]))/\∃an bU,qdj (R.works,R.qav) (R.k.qbb (qaa p) a b c d).evs=some (an,bU)/\RunI (n+1) ⟨(R.k.qbb (qaa p) a b c d).ks,R.paths,an,bU,(R.k.qbb (qaa p) a b c d).evs⟩/\(R.k.qbb (qaa p) a b c d).evs.length<=1000/\an.map KW.fix=R.works.map KW.fix:=by
 obtain⟨hk,gd,pT,m,hm,kX,df,m_⟩:=h.path K hp;have bQ:=qbi hk;have hv:qar (qaa p)=true:=by rw[qcd,bQ];exact hk
 have hF:errF R.k.L (qaa p)=0:=by
  unfold errF;rw[hv,bQ,kX];simp[qvg hk gd]
 have hQ:qnt R.k.L (qaa p) (qao a b&&qao c d) a b=0:=by
  unfold qnt;rw[hF,bQ,kX,hZ,iu];simp only[ne_eq,not_true_eq_false,if_false,Bool.and_self,Bool.true_eq_false]
  by_cases h5:i<5
  ·have:m.ent.leaf=true:=by show m.leaf=true;rw[m_];simp[h5]
   rw[this];simp
  ·obtain⟨e1,e2⟩:=nL (by omega);rw[e1,e2];simp
 unfold KS.qbb;rw[hQ,bQ];rw[if_neg (by simp)]
 cases hb:qct (setL R.k.L p a b c d) R.k.Ws
 ·rw[if_neg (by simp)];have vg:setL R.k.L p a b c d=(setQ nodes p a b c d).map Node.ent:=by
   rw[<-K.L]
   refine qnd _ _ _ _ _ _ (fun m' nS cx mi=>?_)
   have he:m'=m:=K.tree.inj m' nS m hm (cx.trans df.symm);subst he;have h5:5<=i:=by
    rw[m_]at mi
    simp at mi
    exact mi
   obtain⟨e1,e2⟩:=nL h5
   have:=(K.tree.num m' nS).2.2.2.2 mi
   omega
  have W2:WkL (setQ nodes p a b c d) R.k.Ws R.k.cnt:=⟨fun x hx=>by
   obtain⟨q,hq,e1,e2⟩:=K.wkl.leaf x hx
   refine⟨if q.key=p then q.qbb a b c d else q,xrq.2 ⟨q,hq,rfl⟩,?_,?_⟩
   ·split<;>exact e1
   ·split<;>exact e2,K.wkl.num⟩
  obtain⟨an,a1,a2,a3,a4⟩:=qg3 (K.tree.setQ gd hZ iu) vg.symm K.inv W2 (qw0.1 hb) (paths:=R.paths) (works:=R.works) (n:=n) h.len (by rw[qt1];exact h.keys) (fun j q hq=>by
   obtain⟨e,he,h1,h2⟩:=h.leaf j q hq
   refine⟨if e.key=p then e.qbb a b c d else e,xrq.2 ⟨e,he,rfl⟩,?_,?_⟩
   ·split<;>exact h1
   ·split<;>exact h2) h.perm h.pos h.idx (by have:=h.cnt;omega) h.st
  rw[h.qav]
  exact⟨.inl rfl,an,_,a1,a2,a3,a4⟩
 ·rw[if_pos rfl]
  exact⟨.inr ⟨rfl,rfl⟩,R.works,R.qav,rfl,h.stay [],by simp[KS.same],rfl⟩
theorem qxv{f t:List Bs}(hf:f≠[]):mvK f t []=[]:=qbe (fun e=>hf (List.prefix_nil.1 e))
theorem RunI.move(h:RunI n R)(K:KInv nodes R.k){p:List Bs}(hp:R.paths[i]?=some p){tk:List Bs}(db:qbx tk=true):
  ((R.k.move (qaa p) (qaa tk)).err≠0/\(R.k.move (qaa p) (qaa tk)).evs=[]/\(R.k.move (qaa p) (qaa tk)).ks=R.k) \/
  ((R.k.move (qaa p) (qaa tk)).err=0/\∃an,qdj (R.works,R.qav) (R.k.move (qaa p) (qaa tk)).evs=some (an,(R.k.move (qaa p) (qaa tk)).st)/\RunI (n+1) ⟨(R.k.move (qaa p) (qaa tk)).ks,R.paths.map (mvK p (tk++[qad p])),an,(R.k.move (qaa p) (qaa tk)).st,(R.k.move (qaa p) (qaa tk)).evs⟩/\(R.k.move (qaa p) (qaa tk)).evs.length<=1000/\an.map KW.fix=R.works.map KW.fix):=by
 obtain⟨hk,gd,pT,m,hm,kX,df,m_⟩:=h.path K hp;have bQ:=qbi hk;have zt:=qbi db;unfold KS.move mvTo;rw[bQ,zt]
 by_cases hE:qqc R.k.L (qaa p) (qaa tk)=0
 ·rw[if_neg (by simpa using hE)]
  cases hb:qct (R.k.L.map (mvE p (tk++[qad p]))) (R.k.Ws.map (mvW p (tk++[qad p])))
  ·rw[if_neg (by simp)]
   right
   rw[<-K.L,qis K.tree]at hE;obtain⟨_,_,q,tq,hq,ht,b1,b2,b3,b4⟩:=qga hE;obtain⟨ib,cT⟩:=qan hq;obtain⟨pY,sj⟩:=qan ht;rw[bQ]at cT;rw[zt]at sj;obtain⟨pp,ks,ii,kt,at_,M⟩:=Mv.of K.tree ib pY (by rw[cT];exact gd) b1 b2 b3 b4;have hT:=Mv.tree M (.slice none 0 0) (.slice none 0 0);have uW:=M.ents (.slice none 0 0) (.slice none 0 0);have hW:=M.wkl (.slice none 0 0) (.slice none 0 0) K.wkl;have hS:=M.sinv K.wkl K.inv;rw[cT,sj]at uW hW hS;rw[cT]at hT;rw[K.L]at uW;have fP:=(h.keys.map (mvK p (tk++[qad p])));obtain⟨an,a1,a2,a3,a4⟩:=qg3 hT uW hS hW (qw0.1 hb) (paths:=R.paths.map (mvK p (tk++[qad p]))) (works:=R.works) (n:=n) (by simp[h.len]) (by
    rw[List.map_map];rw[List.map_map,List.map_cons,qxv gd]at fP
    exact fP) (fun j q' jT=>by
    rw[xrs]at jT;obtain⟨q0,jU,e0⟩:=Option.map_eq_some_iff.1 jT;obtain⟨e,he,h1,h2⟩:=h.leaf j q0 jU
    refine⟨mvE p (tk++[qad p]) e,xrj he,?_,h2⟩
    show mvK p (tk++[qad p]) e.key=q'
    rw[h1,e0]) (by
    have e:R.works.map (KW.wk (R.paths.map (mvK p (tk++[qad p]))))=(R.works.map (KW.wk R.paths)).map (mvW p (tk++[qad p])):=by
     rw[List.map_map]
     refine List.map_congr_left fun w hw=>?_
     have hl:=h.idx w hw;have ak:w.leaf<R.paths.length:=by rw[h.len];omega
     simp only[Function.comp,KW.wk,mvW,List.getD_eq_getElem?_getD,xrs,xr1 ak,Option.map_some,Option.getD_some]
    rw[e]
    exact h.perm.map _) h.pos h.idx (by have:=h.cnt;omega) h.st
   rw[h.qav]
   exact⟨rfl,an,a1,a2,a3,a4⟩
  ·rw[if_pos rfl]
   exact .inl ⟨by simp[KS.same],rfl,rfl⟩
 ·rw[if_pos hE]
  exact .inl ⟨hE,rfl,rfl⟩
end
section
variable {F:Nat->Prop}{W w':World}{rb:Nat}{R R':KR}
theorem qau.boxed(h:qau F W rb R)(hs:∀(G:Nat->Prop) (Wx:World),qau G Wx rb R->Calls prog fn args Wx fun e w'=>e=.returned (.bool true)/\qau G w' rb R'/\Keep (fun b=>¬G b) Wx w')(Wx:World)(hb:Below W.heap.size W Wx)(hB:Blk Wx W.heap.size t vs):
  Calls prog fn args Wx fun e w1=>e=.returned (.bool true)/\Blk w1 W.heap.size t vs/\Hid (qau F w1 rb R'/\Keep (fun b=>¬F b) W w1):=by
 have h2:=h.more hb (G:=fun b=>F b\/b=W.heap.size) (fun b e=>by
  rcases e with e|e
  ·exact .inl e
  ·exact .inr ⟨by omega,by rw[e];exact hB.lt⟩)
 refine(hs _ Wx h2).mono ?_
 rintro e w1 ⟨rfl,g1,g2⟩
 exact⟨rfl,hB.keep g2 (fun e=>e (.inr rfl)),g1.less (fun b e=>.inl e),(Keep.new hb).trans (g2.mono (fun b e1 e2=>e1 (.inl e2)))⟩
theorem qms(h:qau F W rb R){k b:Int}(hk:I64 k)(ha:I64 a)(hb:I64 b)(hc:I64 c)(gL:pkN k 8<4)(hs:∀(G:Nat->Prop) (Wx:World),qau G Wx rb R->Calls prog 24 #[.pointer (some ⟨rb,0,none⟩),.int .i64 (pkN a 5),.agg #[.int .i64 (pkN b 16),.int .i64 (pkN c 16)]] Wx fun e w'=>e=.returned (.bool true)/\qau G w' rb R'/\Keep (fun b=>¬G b) Wx w'):
  Calls prog 17 #[.pointer (some ⟨rb,0,none⟩),.agg #[.int .i64 k,.int .i64 a,.int .i64 b,.int .i64 c]] W fun e w'=>e=.returned (.bool true)/\qau F w' rb R'/\Keep (fun b=>¬F b) W w':=by
 have pG:=h.boxed hs (t:=32) (vs:=#[.int .i64 k,.int .i64 a,.int .i64 b,.int .i64 c]);have p1:=qfz k 8 hk (by omega) (by omega);have p2:=qfz a 5 ha (by omega) (by omega);have am:=qli b c 16 hb hc (by omega) (by omega);have BV:(pkN k 8:Int)<4:=by omega
 have b0:Blk (W.alloc (.cells #[.int .i64 k,.int .i64 a,.int .i64 b,.int .i64 c] 32)) W.heap.size 32 #[.int .i64 k,.int .i64 a,.int .i64 b,.int .i64 c]:=Blk.new W 32 _;generalize (pkN k 8:Int)=kk at *;generalize (pkN a 5:Int)=xa at *;generalize (pkN b 16:Int)=xb at *;generalize (pkN c 16:Int)=xc at *;clear h hs
 go_enter func17,ntmps17
 go_upto_region 3 with (go_at_call 23;refine(p1 _).mono ?_;rintro e w1 ⟨rfl,ck⟩;subst ck)
 go_region_with (first
  |(go_at_call 23;refine(p2 _).mono ?_;rintro e w2 ⟨rfl,eG⟩;subst eG)
  |(go_at_call 41;refine(am _).mono ?_;rintro e w3 ⟨rfl,aM⟩;have b3:=b0.drew.below aM (by simp);have z1:=b3.cell 1;simp only[xq0,xq1,xq2]at z1)
  |(go_at_call 24;refine(pG _ ?_ ?_).mono ?_;(focus exact bel2);(focus exact blk2);rintro e w4 ⟨rfl,bf,aV⟩))
 all_goals go_wp2_with fail
 all_goals go_ret
 all_goals exact⟨rfl,aV.out⟩
end
end Go.Proofs.YtphclnolomgjoaaGreatDoor
