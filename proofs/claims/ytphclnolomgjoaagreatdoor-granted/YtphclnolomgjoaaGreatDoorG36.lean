import Derived.Test.YtphclnolomgjoaaGreatDoorG35
set_option linter.unusedVariables false
set_option linter.unusedSimpArgs false
set_option maxRecDepth 100000
set_option maxHeartbeats 4000000
namespace Go.Proofs.YtphclnolomgjoaaGreatDoor
open Tryz
open Go.RowKit
variable {x:Wk}{L:List Ent}{a bU c d st:Int}{s s':SS}{A ff:List Wk}{es:List (Int×Int)}{fn i:Nat}{args vs:Array Value}{t:TypeId}
section
variable {nodes:List Node}{Ws:List Wk}{cnt:Int}
theorem qvr(T:Tree nodes)(W:WkL nodes Ws cnt)(hx:x∈Ws)(ho:ownW (nodes.map Node.ent) Ws x=true){e:Ent}(he:e∈nodes.map Node.ent)(bL:inB (qaa x.key) (qaa e.key)=true)(fl:sh0 (nodes.map Node.ent) Ws e x.d0=true):
  ∃v∈Ws,0<v.st/\way (nodes.map Node.ent) Ws x v=true:=by
 refine Classical.byContradiction fun aA=>?_
 have oZ:∀v∈Ws,0<v.st->way (nodes.map Node.ent) Ws x v=false:=fun v hv h0=>by
  cases hw:way (nodes.map Node.ent) Ws x v
  ·rfl
  ·exact absurd ⟨v,hv,h0,hw⟩ aA
 have km:∀m∈qai (nodes.map Node.ent) (qaa e.key),es0 (qai (nodes.map Node.ent) (qaa m.key))=m.n0:=fun m hm=>by
  obtain⟨m1,m2,m3⟩:=qdt.1 hm;rw[qhu T m1 m2];simp[es0]
 have key:∀m∈qai (nodes.map Node.ent) (qaa e.key),ws0 (qah Ws (qaa m.key))<=m.n0:=fun m hm=>by
  refine Classical.byContradiction fun we=>?_
  obtain⟨m1,m2,m3⟩:=qdt.1 hm;have ia:0<=m.n0:=by obtain⟨n,hn,rfl⟩:=xrq.1 m1;exact(T.num n hn).1.1
  obtain⟨v,hv,hd⟩:=qok (·.d0) (qah Ws (qaa m.key)) (by show 0<ws0 (qah Ws (qaa m.key));omega);have en:=hv;rw[qgg T W m1 m2,xrr,Bool.and_eq_true,decide_eq_true_eq,decide_eq_true_eq]at en;obtain⟨v1,v2,v3⟩:=en;have hw:=oZ v v1 v2;unfold way at hw;rw[List.any_eq_false]at hw;have hw:=hw e he;have h0:way0 (nodes.map Node.ent) Ws x v e=true:=by
   unfold way0;simp only[Bool.and_eq_true,decide_eq_true_eq]
   exact⟨bL,by rw[v3];exact m3,fl,by rw[v3,km m hm];omega,hd⟩
  rw[h0]at hw
  simp at hw
 have hg:=qpb T W (·.d0) (·.n0) (qaa e.key) x hx bL x.d0 (fun m hm=>by
  have h1:=key m hm
  by_cases ek:x.key=m.key
  ·rw[if_pos ek];unfold ownW at ho;simp only[Bool.and_eq_true,decide_eq_true_eq]at ho;have h2:=ho.1;rw[ek,km m hm]at h2
   show x.d0+ws0 (qah Ws (qaa m.key))<=m.n0
   omega
  ·rw[if_neg ek]
   show 0+ws0 (qah Ws (qaa m.key))<=m.n0
   omega)
 unfold sh0 at fl;simp only[decide_eq_true_eq]at fl;have bY:ws0 (qah Ws (qaa e.key))+x.d0<=es0 (qai (nodes.map Node.ent) (qaa e.key)):=hg;have bg:0<=e.b0:=by obtain⟨n,hn,rfl⟩:=xrq.1 he;exact(T.num n hn).2.2.1.1
 omega
theorem qvs(T:Tree nodes)(W:WkL nodes Ws cnt)(hx:x∈Ws)(ho:ownW (nodes.map Node.ent) Ws x=true){e:Ent}(he:e∈nodes.map Node.ent)(bL:inB (qaa x.key) (qaa e.key)=true)(fl:sh1 (nodes.map Node.ent) Ws e x.d1=true):
  ∃v∈Ws,0<v.st/\way (nodes.map Node.ent) Ws x v=true:=by
 refine Classical.byContradiction fun aA=>?_
 have oZ:∀v∈Ws,0<v.st->way (nodes.map Node.ent) Ws x v=false:=fun v hv h0=>by
  cases hw:way (nodes.map Node.ent) Ws x v
  ·rfl
  ·exact absurd ⟨v,hv,h0,hw⟩ aA
 have km:∀m∈qai (nodes.map Node.ent) (qaa e.key),es1 (qai (nodes.map Node.ent) (qaa m.key))=m.n1:=fun m hm=>by
  obtain⟨m1,m2,m3⟩:=qdt.1 hm;rw[qhu T m1 m2];simp[es1]
 have key:∀m∈qai (nodes.map Node.ent) (qaa e.key),ws1 (qah Ws (qaa m.key))<=m.n1:=fun m hm=>by
  refine Classical.byContradiction fun we=>?_
  obtain⟨m1,m2,m3⟩:=qdt.1 hm;have ia:0<=m.n1:=by obtain⟨n,hn,rfl⟩:=xrq.1 m1;exact(T.num n hn).2.1.1
  obtain⟨v,hv,hd⟩:=qok (·.d1) (qah Ws (qaa m.key)) (by show 0<ws1 (qah Ws (qaa m.key));omega);have en:=hv;rw[qgg T W m1 m2,xrr,Bool.and_eq_true,decide_eq_true_eq,decide_eq_true_eq]at en;obtain⟨v1,v2,v3⟩:=en;have hw:=oZ v v1 v2;unfold way at hw;rw[List.any_eq_false]at hw;have hw:=hw e he;have h0:way1 (nodes.map Node.ent) Ws x v e=true:=by
   unfold way1;simp only[Bool.and_eq_true,decide_eq_true_eq]
   exact⟨bL,by rw[v3];exact m3,fl,by rw[v3,km m hm];omega,hd⟩
  rw[h0]at hw
  simp at hw
 have hg:=qpb T W (·.d1) (·.n1) (qaa e.key) x hx bL x.d1 (fun m hm=>by
  have h1:=key m hm
  by_cases ek:x.key=m.key
  ·rw[if_pos ek];unfold ownW at ho;simp only[Bool.and_eq_true,decide_eq_true_eq]at ho;have h2:=ho.2;rw[ek,km m hm]at h2
   show x.d1+ws1 (qah Ws (qaa m.key))<=m.n1
   omega
  ·rw[if_neg ek]
   show 0+ws1 (qah Ws (qaa m.key))<=m.n1
   omega)
 unfold sh1 at fl;simp only[decide_eq_true_eq]at fl;have bY:ws1 (qah Ws (qaa e.key))+x.d1<=es1 (qai (nodes.map Node.ent) (qaa e.key)):=hg;have bg:0<=e.b1:=by obtain⟨n,hn,rfl⟩:=xrq.1 he;exact(T.num n hn).2.2.2.1.1
 omega
theorem qvp(T:Tree nodes)(W:WkL nodes Ws cnt)(hx:x∈Ws)(ho:ownW (nodes.map Node.ent) Ws x=true)(hv:qdd (nodes.map Node.ent) Ws x=none):qbv (nodes.map Node.ent) Ws x=true:=by
 cases hf:qbv (nodes.map Node.ent) Ws x
 ·exfalso
  unfold qbv at hf;rw[List.all_eq_false]at hf;obtain⟨e,he,ht⟩:=hf;unfold tight at ht;simp only[Bool.not_eq_true',Bool.and_eq_true,Bool.or_eq_true,Bool.not_eq_false]at ht;have hw:∃v∈Ws,0<v.st/\way (nodes.map Node.ent) Ws x v=true:=by
   rcases ht with ⟨bL,h|h⟩
   ·exact qvr T W hx ho he bL h
   ·exact qvs T W hx ho he bL h
  obtain⟨v,v1,v2,v3⟩:=hw;obtain⟨k,hk,wv⟩:=List.getElem_of_mem v1;obtain⟨b,z,e1,_⟩:=qdm (nodes.map Node.ent) Ws x Ws.length k v hk (by rw[xr1 hk,wv]) (by omega) v3
  have:some b=none:=e1.symm.trans hv
  cases this
 ·rfl
theorem qnf:∀(n:Nat) (s:MS),WkS s.Ws st->admN s.Ws<=n->qa4 L x (room L x n s)=none
 |0,s,hS,hn=>by
  show qa4 L x s=none
  cases hr:qa4 L x s with
  |none=>rfl
  |some s'=>have:=(qfq hS hr).1;omega
 |n+1,s,hS,hn=>by
  cases hr:qa4 L x s with
  |none=>rw[room_end hr];exact hr
  |some s' =>
   obtain⟨h1,h2,_⟩:=qfq hS hr;rw[qjm hr]
   exact qnf n s' h2 (by omega)
theorem NB.room:∀(n:Nat) (s:MS),RInv L x st s.Ws->NB L s.Ws->NB L (room L x n s).Ws
 |0,s,R,h=>h
 |n+1,s,R,h=>by
  cases hr:qa4 L x s with
  |none=>rw[room_end hr];exact h
  |some s' =>
   obtain⟨i,v,h1,h2,h3,h4,h5,h6⟩:=qc6 hr;rw[qjm hr]
   refine NB.room n s' (R.step hr).1 ?_
   rw[h6]
   exact h.qie R.wks.wks h3 (by have:=(R.wks.st v (xr2 h3)).1;omega)
structure KI (nodes:List Node) (cnt:Int) (n:Nat) (s:SS):Prop where
 inv:SInv s
 wkl:WkL nodes s.Ws cnt
 nb:NB (nodes.map Node.ent) s.Ws
 len:s.Ws.length=n
theorem KI.own(T:Tree nodes){n:Nat}(h:KI nodes cnt n s)(he:qaz (nodes.map Node.ent) s=some s'):KI nodes cnt n s':=by
 have h1:=h.inv.own he;obtain⟨b,x,g1,g2,g3,g4,rfl⟩:=qcz he;have R:=h.inv.rinv g2 g3 g4;have R2:=(R.room (admN s.Ws) ⟨s.Ws,s.evs⟩).1;have Ci:=qon (nodes.map Node.ent) x (admN s.Ws) ⟨s.Ws,s.evs⟩;have W2:=h.wkl.of Ci;have hd:=qnf (L:=nodes.map Node.ent) (x:=x) (admN s.Ws) ⟨s.Ws,s.evs⟩ R.wks (Nat.le_refl _);obtain⟨m1,m2,_⟩:=qaj R2.head;have hf:=qvp T W2 m1 R2.own (qg6.1 hd);have ej:=h.nb.room (admN s.Ws) ⟨s.Ws,s.evs⟩ R
 refine⟨h1.1,W2.of (qis _ _ _),?_,by rw[h1.2.2.2.1,h.len]⟩
 obtain⟨i,hi,rv⟩:=List.getElem_of_mem m1;have ez:(room (nodes.map Node.ent) x (admN s.Ws) ⟨s.Ws,s.evs⟩).Ws[i]?=some x:=by rw[xr1 hi,rv]
 show NB _ (qdh (room (nodes.map Node.ent) x (admN s.Ws) ⟨s.Ws,s.evs⟩).Ws x.num (s.st+1))
 rw[qbn R2.wks.nums ez]
 exact ej.admit ez m2 (by have:=h.inv.st0;omega) hf
theorem KI.idle{n:Nat}(h:KI nodes cnt n s)(he:qap (nodes.map Node.ent) s=some s'):KI nodes cnt n s':=by
 have h1:=h.inv.idle he;obtain⟨b,x,g1,g2,g3,g4,rfl⟩:=qch he;have e:(qfg b x s).Ws=qdh s.Ws x.num (s.st+1):=(qbn h.inv.wks.nums g2 _).symm
 refine⟨h1.1,by rw[e];exact h.wkl.of (qis _ _ _),?_,by rw[h1.2.2.2.1,h.len]⟩
 exact h.nb.admit g2 (qgu g3) (by have:=h.inv.st0;omega) g4
def ql1 (L:List Ent)(Ws:List Wk):Prop:=∀y,qat Ws y.key=some y->ownW L Ws y=false
def qx7 (L:List Ent)(Ws:List Wk):Prop:=∀y,qat Ws y.key=some y->qbv L Ws y=false
theorem ql1.idle(I:SInv s)(h:ql1 L s.Ws)(he:qap L s=some s'):ql1 L s'.Ws:=by
 have I':=(I.idle he).1;obtain⟨b,x,g1,g2,g3,g4,rfl⟩:=qch he;have iL:=qgu g3;have ht:0<s.st+1:=by have:=I.st0;omega
 have hS:∀y∈s.Ws,0<=y.st:=fun y hy=>(I.wks.st y hy).1
 have CB:=qci hS g2 g3;intro y hy;obtain⟨y1,y2,_⟩:=qaj hy;have nx:=I'.wks.wks.num y y1
 show ownW L (s.Ws.set b (x.adm (s.st+1))) y=false
 by_cases e:x.key=y.key
 ·have h1:=h x CB;unfold ownW at h1 ⊢;have u:=qd6 g2 iL ht (qaa x.key);rw[qfw]at u;simp only[if_true]at u;rw[<-e,u.1,u.2];simp only[Bool.and_eq_false_iff,decide_eq_false_iff_not]at h1 ⊢
  omega
 ·have nu:qat s.Ws y.key=some y:=by rw[<-qcw g2 ht e];exact hy
  rw[qc3 g2 iL ht (I.anti.not (xr2 g2) (qaj nu).1 e)]
  exact h y nu
structure qw1 (nodes:List Node) (cnt:Int) (n:Nat) (s:SS):Prop extends KI nodes cnt n s where
 own:ql1 (nodes.map Node.ent) s.Ws
 fit:qx7 (nodes.map Node.ent) s.Ws
theorem settled(T:Tree nodes)(E:Ents (nodes.map Node.ent))(h:KI nodes cnt Ws.length ⟨Ws,st,[]⟩):qw1 nodes cnt Ws.length (qal (nodes.map Node.ent) ⟨Ws,st,[]⟩):=by
 have e:qal (nodes.map Node.ent) ⟨Ws,st,[]⟩=qbd (qap (nodes.map Node.ent)) Ws.length (qbd (qaz (nodes.map Node.ent)) Ws.length ⟨Ws,st,[]⟩):=rfl;rw[e];have a1:=qc1 (f:=qaz (nodes.map Node.ent)) (I:=KI nodes cnt Ws.length) (fun a b ha he=>ha.own T he) Ws.length ⟨Ws,st,[]⟩ h;have a2:=qhi (f:=qaz (nodes.map Node.ent)) (I:=SInv) (m:=fun s=>mOwn (nodes.map Node.ent) s.Ws) (fun a b ha he=>⟨(ha.own he).1,(ha.own he).2.1⟩) Ws.length ⟨Ws,st,[]⟩ h.inv (qs3 _ _);generalize qbd (qaz (nodes.map Node.ent)) Ws.length ⟨Ws,st,[]⟩=s1 at a1 a2 ⊢;have Bg:∀y∈s1.Ws,0<=y.st:=fun y hy=>(a1.inv.wks.st y hy).1
 have aA:ql1 (nodes.map Node.ent) s1.Ws:=fun y hy=>by
  refine qq5 Bg ?_ hy
  unfold qaz at a2
  cases hp:qlr (nodes.map Node.ent) s1.Ws with
  |none=>rfl
  |some b =>
   obtain⟨_,x,hx,_⟩:=qjh hp;rw[hp]at a2;simp only[hx]at a2
   cases a2
 have b1:=qc1 (f:=qap (nodes.map Node.ent)) (I:=fun s=>KI nodes cnt Ws.length s/\ql1 (nodes.map Node.ent) s.Ws) (fun a b ha he=>⟨ha.1.idle he,ha.2.idle ha.1.inv he⟩) Ws.length s1 ⟨a1,aA⟩;have b2:=qhi (f:=qap (nodes.map Node.ent)) (I:=SInv) (m:=fun s=>qi8 s.Ws) (fun a b ha he=>⟨(ha.idle he).1,(ha.idle he).2.1⟩) Ws.length s1 a1.inv (by have:=qpi s1.Ws;have:=a1.len;omega);generalize qbd (qap (nodes.map Node.ent)) Ws.length s1=s2 at b1 b2 ⊢
 refine⟨b1.1,b1.2,fun y hy=>?_⟩
 have Bh:∀y∈s2.Ws,0<=y.st:=fun y hy=>(b1.1.inv.wks.st y hy).1
 refine qld E Bh ?_ hy
 unfold qap at b2
 cases hp:qdr (nodes.map Node.ent) s2.Ws with
 |none=>rfl
 |some b =>
  obtain⟨x,hx,_⟩:=qds hp;rw[hp]at b2;simp only[hx]at b2
  cases b2
end
def KW.wk(paths:List (List Bs))(w:KW):Wk:=⟨w.num,paths.getD w.leaf [],w.d0,w.d1,if w.inn then w.qav else 0⟩
def KW.fix(w:KW):Int×Nat×Int×Int:=(w.num,w.leaf,w.d0,w.d1)
theorem qim{α : Type}{l:List α}{k:Nat}{x : α}(h:l[k]?=some x):l.set k x=l:=by
 obtain⟨hk,e⟩:=xr0.1 h;rw[<-e];exact List.set_getElem_self hk
theorem qo8{ws:List KW}(hn:(ws.map (·.num)).Nodup){w:KW}(hw:w∈ws):∃k,ws[k]?=some w/\ws.findIdx? (fun y=>y.num == w.num)=some k:=by
 obtain⟨k,hk,e⟩:=List.getElem_of_mem hw;have cv:ws[k]?=some w:=by rw[xr1 hk,e]
 refine⟨k,cv,?_⟩
 rw[List.findIdx?_eq_some_iff_getElem]
 refine⟨hk,by simp[e],fun j hj=>?_⟩
 intro he;have lZ:ws[j].num=w.num:=by simpa using he
 have:=qe4 hn (xr1 (by omega:j<ws.length)) cv lZ
 omega
theorem qlz(paths:List (List Bs))(ws:List KW):(ws.map (KW.wk paths)).map (·.num)=ws.map (·.num):=by
 rw[List.map_map];rfl
theorem qzi{paths:List (List Bs)}{ws:List KW}(hn:(ws.map (·.num)).Nodup)(dz:∀w∈ws,w.inn=true->0<w.qav)(h0:0<=st)(hx:x∈ws.map (KW.wk paths))(iL:x.st=0):
  ∃aj,qnk (ws,st) (1,x.num)=some (aj,st+1)/\aj.map (KW.wk paths)=qdh (ws.map (KW.wk paths)) x.num (st+1)/\(∀w∈aj,w.inn=true->0<w.qav)/\aj.map KW.fix=ws.map KW.fix:=by
 obtain⟨w,hw,rfl⟩:=xrq.1 hx;obtain⟨k,hk,hf⟩:=qo8 hn hw;have bL:w.inn=false:=by
  cases hi:w.inn
  ·rfl
  ·have:=dz w hw hi
   have h2:(if w.inn=true then w.qav else 0)=0:=iL;rw[hi]at h2
   simp at h2
   omega
 have fM:=(xr0.1 hk).1
 refine⟨ws.set k {w with inn:=true,qav:=st+1},?_,?_,?_,?_⟩
 ·unfold qnk;have kQ:ws.findIdx? (fun y=>y.num == (KW.wk paths w).num)=some k:=hf;simp only[kQ,hk,bL]
  simp
 ·have aY:(ws.map (KW.wk paths))[k]?=some (KW.wk paths w):=by rw[xrs,hk];rfl
  rw[qbn (by rw[qlz];exact hn) aY,List.map_set]
  rfl
 ·intro y hy qb
  rcases List.mem_or_eq_of_mem_set hy with e|e
  ·exact dz y e qb
  ·subst e;simp only;omega
 ·rw[List.map_set]
  have:(ws.map KW.fix)[k]?=some (KW.fix w):=by rw[xrs,hk];rfl
  exact qim this
theorem qzj{paths:List (List Bs)}{ws:List KW}(hn:(ws.map (·.num)).Nodup)(dz:∀w∈ws,w.inn=true->0<w.qav)(hx:x∈ws.map (KW.wk paths))(iL:0<x.st):
  ∃aj,qnk (ws,st) (2,x.num)=some (aj,st)/\aj.map (KW.wk paths)=qdh (ws.map (KW.wk paths)) x.num 0/\(∀w∈aj,w.inn=true->0<w.qav)/\aj.map KW.fix=ws.map KW.fix:=by
 obtain⟨w,hw,rfl⟩:=xrq.1 hx;obtain⟨k,hk,hf⟩:=qo8 hn hw;have bL:w.inn=true:=by
  cases hi:w.inn
  ·have h2:0<(if w.inn=true then w.qav else 0):=iL;rw[hi]at h2
   simp at h2
  ·rfl
 refine⟨ws.set k {w with inn:=false},?_,?_,?_,?_⟩
 ·unfold qnk;have kQ:ws.findIdx? (fun y=>y.num == (KW.wk paths w).num)=some k:=hf;simp only[kQ,hk,bL]
  simp
 ·have aY:(ws.map (KW.wk paths))[k]?=some (KW.wk paths w):=by rw[xrs,hk];rfl
  rw[qbn (by rw[qlz];exact hn) aY,List.map_set]
  rfl
 ·intro y hy qb
  rcases List.mem_or_eq_of_mem_set hy with e|e
  ·exact dz y e qb
  ·subst e;simp at qb
 ·rw[List.map_set]
  have:(ws.map KW.fix)[k]?=some (KW.fix w):=by rw[xrs,hk];rfl
  exact qim this
theorem qij(ws:List KW):ws.map (·.num)=(ws.map KW.fix).map (·.1):=by rw[List.map_map];rfl
theorem qv5{p:Bool}{B:List Wk}(h:Ev L p A st es B bU):∀ {paths:List (List Bs)} {ws:List KW},(ws.map (KW.wk paths)).Perm A->(ws.map (·.num)).Nodup->(∀w∈ws,w.inn=true->0<w.qav)->0<=st ->
  ∃aj,qdo (ws,st) es=some (aj,bU)/\(aj.map (KW.wk paths)).Perm B/\(∀w∈aj,w.inn=true->0<w.qav)/\aj.map KW.fix=ws.map KW.fix:=by
 induction h with
 |nil h=>intro paths ws hp hn dz h0;exact⟨ws,rfl,hp.trans h,dz,rfl⟩
 |adm h1 h2 h3 h4 ih =>
  intro paths ws hp hn dz h0;obtain⟨ws1,a1,a2,a3,a4⟩:=qzi hn dz h0 (hp.mem_iff.2 h1) h2;obtain⟨eC,b1,b2,b3,b4⟩:=ih (by rw[a2];exact qex hp _ _) (by rw[qij,a4,<- qij];exact hn) a3 (by omega)
  refine⟨eC,?_,b2,b3,b4.trans a4⟩
  unfold qdo;rw[a1]
  exact b1
 |evi h1 h2 h3 h4 ih =>
  intro paths ws hp hn dz h0;obtain⟨ws1,a1,a2,a3,a4⟩:=qzj (st:=_) hn dz (hp.mem_iff.2 h1) h2;obtain⟨eC,b1,b2,b3,b4⟩:=ih (by rw[a2];exact qex hp _ _) (by rw[qij,a4,<- qij];exact hn) a3 h0
  refine⟨eC,?_,b2,b3,b4.trans a4⟩
  unfold qdo;rw[a1]
  exact b1
section
variable {F:Nat->Prop}{W w':World}{rb:Nat}{R:KR}{P:Nat->Prop}{bt:Nat}{vp vw vl:Value}
theorem qko{ps:List (List Bs)}{k:Nat}(x:List Bs):qfm (ps.set k x)=(qfm ps).set k (.string (sb (qaa x))):=by
 unfold qfm;rw[List.map_set]
def qbr (f t:List Bs)(ps:List (List Bs))(k:Nat):List (List Bs):=(ps.take k).map (mvK f t)++ps.drop k
theorem qfx(f t:List Bs)(ps:List (List Bs)){k:Nat}(hk:k<=ps.length):(qbr f t ps k).length=ps.length:=by
 unfold qbr;simp;omega
theorem qgz(f t:List Bs)(ps:List (List Bs)){k:Nat}{q:List Bs}(hq:ps[k]?=some q):(qbr f t ps k)[k]?=some q:=by
 have hl:=(xr0.1 hq).1;unfold qbr;rw[xro (by simp;omega)];simp only[List.length_map,List.length_take];rw[Nat.min_eq_left (by omega),Nat.sub_self,List.getElem?_drop,Nat.add_zero]
 exact hq
theorem qjc(f t:List Bs)(ps:List (List Bs)){k:Nat}{q:List Bs}(hq:ps[k]?=some q):qbr f t ps (k+1)=(qbr f t ps k).set k (mvK f t q):=by
 have hl:=(xr0.1 hq).1;unfold qbr;rw[List.set_append_right _ _ (by simp;omega)];simp only[List.length_map,List.length_take];rw[Nat.min_eq_left (by omega),Nat.sub_self,qnw hq,xr8,xrf hl,List.map_append];rw[xr1 hl]at hq
 cases hq
 simp
theorem qpj{f t q:List Bs}(hf:f≠[])(ht:t≠[])(kS:qbx f=true)(cS:qbx q=true):(inB (qaa q) (qaa f)=false/\mvK f t q=q)\/(inB (qaa q) (qaa f)=true/\(qaa f).length<=(qaa q).length/\qaa (mvK f t q)=qaa t++(qaa q).drop (qaa f).length):=by
 cases hi:inB (qaa q) (qaa f)
 ·left
  exact⟨rfl,qbe (fun e=>by rw[(qe0 cS kS).2 e]at hi;cases hi)⟩
 ·right
  obtain⟨tl,rfl⟩:=(qe0 cS kS).1 hi
  refine⟨rfl,?_,?_⟩
  ·by_cases ht:tl=[]
   ·subst ht;simp
   ·rw[qec f tl hf ht];simp
  ·rw[qc2 ⟨tl,rfl⟩,List.drop_left,qog hf ht]
theorem qgm(a b:ByteArray):a++b=sb (bl a++bl b):=qea (by rw[qb2];simp[bl])
theorem qvd(h:qay F W rb R){p tk:List Bs}(hp:R.paths[i]?=some p)(cf:∀q∈R.paths,qbx q=true/\q≠[]/\(sb (qaa q)).size<=2000000)(dR:R.paths.length<=100)(xm:qbx tk=true)(qa:(sb (qaa tk)).size<=2000000)(jK:R.works.length<=24)(cH:0<=R.qav/\R.qav<=1000000){o:Out}(ho:R.k.move (qaa p) (qaa tk)=o)(he:o.err=0)(hm:o.evs.length<=1000){aj:List KW}(cZ:qdo (R.works,R.qav) o.evs=some (aj,bU)):
  Calls prog 44 #[.pointer (some ⟨rb,0,none⟩),.int .i64 i,.string (sb (qaa tk))] W fun e w'=>e=.returned (.bool true)/\qay F w' rb ⟨o.ks,R.paths.map (mvK p (tk++[qad p])),aj,bU,o.evs⟩/\Keep (fun b=>¬F b) W w':=by
 obtain⟨P,bt,vp,vw,vl,h⟩:=h;obtain⟨gp,cp,cN,bK,eU,cM,dy,q0⟩:=h.path hp;have mX:=(xr0.1 hp).1;have hz:=h.size;obtain⟨dM,fD,dd⟩:=cf p (xr2 hp);have aL:∀Wx,Below W.heap.size W Wx->Calls prog 30 #[.pointer (some ⟨bt,0,none⟩),.string (sb (qaa p)),.string (sb (qaa tk))] Wx fun e w1=>∃a1 c1 P1,e=.returned (.tuple #[.slice a1 o.evs.length c1,.int .i64 0])/\Blk w1 rb 50 #[.pointer (some ⟨bt,0,none⟩),vp,vw,.int .i64 R.qav,vl]/\w1.cell? ⟨gp,i,none⟩=some (.string (sb (qaa p)))/\gp<w1.heap.size /\
   Hid (RunM F w1 rb {R with k:=o.ks} P1 bt vp vw vl)/\Hid (w1.ownsRow 0 60 2 (.slice a1 o.evs.length c1) o.evs.length (qam o.evs)/\(∀b,(Value.slice a1 o.evs.length c1).ownBlock=some b->W.heap.size<=b/\¬P1 b)/\Keep (fun b=>¬F b) W w1):=fun Wx hb=>by
  have hx:=h.below hb
  refine(qst hx.tw (sb (qaa p)) (sb (qaa tk)) dd qa).mono ?_
  rw[qb2,qb2,ho,he]
  rintro e w1 ⟨ev,rfl,hO⟩
  obtain⟨P1,g1,g2,g3,g4⟩:=hx.called hO;obtain⟨a1,c1,rfl,_,_⟩:=qbg g2;obtain⟨_,_,e1,rl,_,_,_,q1⟩:=g1.path (i:=i) (p:=p) hp;have lQ:=cN.symm.trans e1;injection lQ with e2;injection e2 with e2;injection e2 with e2;subst e2
  exact⟨a1,c1,P1,rfl,g1.at_,q1,rl,g1,g2,fun b bg=>⟨Nat.le_trans hb.size (g3 b bg).1,(g3 b bg).2⟩,(Keep.new hb).trans g4⟩
 have nj:∀(w1 w2:World) (P1:Nat->Prop) (a1:Option Addr) (c1:Nat),Hid (RunM F w1 rb {R with k:=o.ks} P1 bt vp vw vl)->Hid (w1.ownsRow 0 60 2 (.slice a1 o.evs.length c1) o.evs.length (qam o.evs)/\(∀b,(Value.slice a1 o.evs.length c1).ownBlock=some b->W.heap.size<=b/\¬P1 b)/\Keep (fun b=>¬F b) W w1)->PwAt w1 vp (R.paths.map (mvK p (tk++[qad p]))) w2->Calls prog 48 #[.pointer (some ⟨rb,0,none⟩),.slice a1 o.evs.length c1] w2 fun e w3=>e=.returned (.bool true)/\Hid (qay F w3 rb ⟨o.ks,R.paths.map (mvK p (tk++[qad p])),aj,bU,o.evs⟩/\Keep (fun b=>¬F b) W w3):=fun w1 w2 P1 a1 c1 hR hr fF=>by
  obtain⟨g2,g3,g4⟩:=hr.out;obtain⟨m1,m2⟩:=hR.out.setp fF;have dR:∀b,vp.ownBlock=some b->b<W.heap.size:=fun b hb=>qar h.prow hb
  refine(m1.takes (qae g2 fF.keep (fun b hb e=>by have:=(g3 b hb).1;have:=dR b e;omega)) (fun b hb=>?_) jK hm cH cZ).mono ?_
  ·have h1:=g3 b hb
   refine⟨fun e=>by have:=h.fo b e;omega,h1.2,by omega,fun e=>?_,fun e=>?_⟩
   ·have:=dR b e;omega
   ·have:=qar h.wrow e;omega
  ·rintro e w3 ⟨rfl,t1,t2⟩
   exact⟨rfl,⟨_,_,_,_,_,t1⟩,(g4.trans m2).trans t2⟩
 have bI:=fun w=>qsx dM fD dd w
 have c0:=h.at_.cell 0;have c1:=h.at_.cell 1;simp only[xq0,xq1,xq2]at c0 c1;rw[cN]at c1;have fP:(i:Int)<R.paths.length:=by omega
 have kY:(0:Int)<=i:=by omega
 obtain⟨np,rT⟩:∃np,np=R.paths.length:=⟨_,rfl⟩;have jZ:Hid (np=R.paths.length):=rT;rw[<-rT]at c1 fP cN cM dR mX;have kh:∀(w1 Wx:World) (P1:Nat->Prop),Hid (RunM F w1 rb {R with k:=o.ks} P1 bt vp vw vl)->∀ps,PwAt w1 vp ps Wx->Wx.cell? ⟨rb,1,none⟩=some (.slice (some ⟨gp,0,none⟩) np cp)/\gp<Wx.heap.size:=fun w1 Wx P1 hR ps fF=>by
  have:=(hR.out.at_.keep fF.keep hR.out.ne.1).cell 1
  simp only[xq0,xq1,xq2]at this;rw[cN]at this
  exact⟨this,by have:=qar hR.out.prow (show vp.ownBlock=some gp by rw[cN];rfl);have:=fF.keep.size;omega⟩
 have jm:Hid (∀q∈R.paths,qbx q=true/\q≠[]/\(sb (qaa q)).size<=2000000):=cf;have tE:Hid ((tk=[]->sb (qad p)=sb (qaa (tk++[qad p])))/\(tk≠[]->sb (qaa tk)++(⟨#[47]⟩:ByteArray)++sb (qad p)=sb (qaa (tk++[qad p])))):=by
  refine⟨fun e=>by rw[e];rfl,fun e=>?_⟩
  rw[qhk _ _ e,qgm,qgm];simp only[qb2]
  congr 1
  simp[bl]
 clear cZ hm ho hp cf rT
 go_enter func44,ntmps44
 go_upto_region 1 with fail
 go_region_held3 (fun w'=>w'.cell? ⟨rb,0,none⟩=some (.pointer (some ⟨bt,0,none⟩))/\w'.cell? ⟨rb,1,none⟩=some (.slice (some ⟨gp,0,none⟩) np cp)/\w'.cell? ⟨gp,i,none⟩=some (.string (sb (qaa p)))) (go_keep)
  (first
   |(go_at_call 30;refine(aL _ ?_).mono ?_;(focus exact bel2);rintro e w1 ⟨a1,eN,P1,rfl,bH,dS,rl,eI,yB⟩;have d0:=bH.cell 0;have d1:=bH.cell 1;simp only[xq0,xq1,xq2]at d0 d1;rw[cN]at d1))
 have nZ:=fun w2=>nj w1 w2 P1 a1 eN eI yB
 have qY:=fun Wx=>kh w1 Wx P1 eI
 have rY:Hid (PwAt w1 vp (qbr p (tk++[qad p]) R.paths 0) w1):=by
  refine⟨?_,Keep.refl _ _⟩
  have e:qbr p (tk++[qad p]) R.paths 0=R.paths:=by unfold qbr;simp
  rw[e];exact eI.out.prow
 clear nj kh aL yB eI c0 c1 q0
 go_upto_region 6 with (go_at_call 76;refine(bI _).mono ?_;rintro e wq ⟨rfl,C5⟩;subst C5)
 have jI:(sb (qad p)).size<=2000000:=by
  rw[qcp]
  rcases List.eq_nil_or_concat p with e|⟨q,n,e⟩
  ·exact absurd e fD
  ·rw[List.concat_eq_append]at e
   have:=(qdv (qby dM (show n∈p by rw[e];simp))).2
   rw[e,qaq];omega
 by_cases pA:tk=[]
 ·obtain⟨gS,mR⟩:∃gS,gS=sb (qad p):=⟨_,rfl⟩;have HG:Hid (gS=sb (qaa (tk++[qad p]))):=by show gS=_;rw[mR];exact tE.out.1 pA
  have oM:gS.size<=5000000:=by rw[mR];omega
  have hz:sb (qaa tk)=⟨#[]⟩:=by rw[pA];rfl
  rw[hz,<- mR];clear mR hz tE pA jI bI
  go_wp2_with fail
  go_loopw [11] (fun kk wr=>∃k:Nat,k<=np/\kk=.int .i64 k/\PwAt wq vp (qbr p (tk++[qad p]) R.paths k) wr) (fun kk _=>np-(intOf kk).toNat)
  case atStart=>exact⟨0,Nat.zero_le _,rfl,rY.out⟩
  case round =>
   obtain⟨k,hk,rfl,fF⟩:=hrel;obtain⟨e1,eg⟩:=qY _ _ fF
   by_cases an:k<np
   ·obtain⟨q,hq⟩:∃q,R.paths[k]?=some q:=⟨_,xr1 (by rw[<-jZ.out];exact an)⟩;obtain⟨cS,jS,ly⟩:=jm.out q (xr2 hq);have aS:=fF.row;rw[qfx _ _ _ (by rw[<-jZ.out];exact hk),<- jZ.out,cN]at aS;have e2:wr.cell? ⟨gp,k,none⟩=some (.string (sb (qaa q))):=by
     have:=aS.cells (g:=gp) rfl k (.string (sb (qaa q))) (by unfold qfm;rw[xrs,qgz _ _ _ hq];rfl)
     rw[Addr.add_lit,Nat.zero_add]at this
     exact this
    have e3:=aS.frozenAt k;have jH:(k:Int)<np:=by omega
    have eV:(0:Int)<=k:=by omega
    have dB:=fun w=>qwn (sb (qaa q)) (sb (qaa p)) w ly dd
    rw[qb2,qb2]at dB;have ku:Hid (qbr p (tk++[qad p]) R.paths (k+1)=(qbr p (tk++[qad p]) R.paths k).set k (mvK p (tk++[qad p]) q)):=qjc _ _ _ hq;have um:Hid ((qbr p (tk++[qad p]) R.paths k)[k]?=some q):=qgz _ _ _ hq;have uw:Hid ((qbr p (tk++[qad p]) R.paths k).length=np):=by show _=np;rw[qfx _ _ _ (by rw[<-jZ.out];exact hk),<- jZ.out]
    have ql:Hid (PwAt wq vp (qbr p (tk++[qad p]) R.paths k) wr):=fF;have uA:Hid (wr.ownsRow 0 9 1 (.slice (some ⟨gp,0,none⟩) np cp) np (qfm (qbr p (tk++[qad p]) R.paths k))):=aS
    rcases qpj (q:=q) (t:=tk++[qad p]) fD (by simp) dM cS with ⟨bL,gO⟩|⟨bL,dk,gO⟩
    ·rw[bL]at dB;have uy:Hid (mvK p (tk++[qad p]) q=q):=gO;clear hq aS fF gO
     go_wp2_with (go_at_call 35;refine(dB _).mono ?_;rintro e wz ⟨rfl,lK⟩;subst lK)
     refine⟨⟨k+1,by omega,by go_num,?_⟩,by simp[intOf];omega⟩
     rw[ku.out,uy.out,qim um.out]
     exact ql.out
    ·rw[bL]at dB;have wD:((sb (qaa p)).size:Int)<=(sb (qaa q)).size:=by rw[qcp,qcp];omega
     have wE:(0:Int)<=(sb (qaa p)).size:=by omega
     have mf:¬9223372036854775807<gS.size+((sb (qaa q)).size-(sb (qaa p)).size):=by omega
     have uB:Hid (gS++(sb (qaa q)).extract (sb (qaa p)).size (sb (qaa q)).size=sb (qaa (mvK p (tk++[qad p]) q))):=by
      show _=_
      rw[gO,HG.out,qk9,qgm];simp only[qb2,qcp]
     clear hq aS fF gO
     go_wp2_with (go_at_call 35;refine(dB _).mono ?_;rintro e wz ⟨rfl,lK⟩;subst lK)
     go_region
     go_wp2_with fail
     refine⟨⟨k+1,by omega,by go_num,?_⟩,by simp[intOf];omega⟩
     rw[ku.out,uB.out];have hr:=(uA.out.stored k (.string (sb (qaa (mvK p (tk++[qad p]) q))))).1
     refine⟨?_,?_⟩
     ·rw[List.length_set,uw.out,qko,cN]
      exact hr.drew
     ·exact(ql.out.keep.setCell (p:=⟨gp,k,none⟩) (by rw[cN];rfl) _).drew
   ·have g_:k=np:=by omega
    subst g_;have aC:qbr p (tk++[qad p]) R.paths k=R.paths.map (mvK p (tk++[qad p])):=by
     unfold qbr;rw[jZ.out];simp
    rw[aC]at fF
    go_wp2_with (go_at_call 48;refine(nZ _ fF).mono ?_;rintro e w3 ⟨rfl,aV⟩)
    go_ret
    exact⟨rfl,aV.out⟩
 ·obtain⟨gS,mR⟩:∃gS,gS=sb (qaa tk)++(⟨#[47]⟩:ByteArray)++sb (qad p):=⟨_,rfl⟩;have HG:Hid (gS=sb (qaa (tk++[qad p]))):=by show gS=_;rw[mR];exact tE.out.2 pA
  have oM:gS.size<=5000000:=by
   rw[mR,ByteArray.size_append,ByteArray.size_append]
   have:(⟨#[47]⟩:ByteArray).size=1:=rfl
   omega
  have wV:¬9223372036854775807<(sb (qaa tk)).size+1:=by omega
  have lk:¬9223372036854775807<(sb (qaa tk)++(⟨#[47]⟩:ByteArray)).size+(sb (qad p)).size:=by
   rw[ByteArray.size_append]
   have:(⟨#[47]⟩:ByteArray).size=1:=rfl
   omega
  have tR:((sb (qaa tk)).toList.isEmpty)=false:=by
   rw[qb3,qb2]
   cases hj:qaa tk with
   |nil=>exact absurd ((qck xm).1 hj) pA
   |cons a l=>rfl
  have xT:Hid (gS=sb (qaa tk)++(⟨#[47]⟩:ByteArray)++sb (qad p)):=mR;generalize sb (qaa tk)=tS at *;clear mR tE pA bI
  go_upto_region 8 with fail
  rw[<-xT.out];clear wV lk tR xT
  go_wp2_with fail
  go_loopw [11] (fun kk wr=>∃k:Nat,k<=np/\kk=.int .i64 k/\PwAt wq vp (qbr p (tk++[qad p]) R.paths k) wr) (fun kk _=>np-(intOf kk).toNat)
  case atStart=>exact⟨0,Nat.zero_le _,rfl,rY.out⟩
  case round =>
   obtain⟨k,hk,rfl,fF⟩:=hrel;obtain⟨e1,eg⟩:=qY _ _ fF
   by_cases an:k<np
   ·obtain⟨q,hq⟩:∃q,R.paths[k]?=some q:=⟨_,xr1 (by rw[<-jZ.out];exact an)⟩;obtain⟨cS,jS,ly⟩:=jm.out q (xr2 hq);have aS:=fF.row;rw[qfx _ _ _ (by rw[<-jZ.out];exact hk),<- jZ.out,cN]at aS;have e2:wr.cell? ⟨gp,k,none⟩=some (.string (sb (qaa q))):=by
     have:=aS.cells (g:=gp) rfl k (.string (sb (qaa q))) (by unfold qfm;rw[xrs,qgz _ _ _ hq];rfl)
     rw[Addr.add_lit,Nat.zero_add]at this
     exact this
    have e3:=aS.frozenAt k;have jH:(k:Int)<np:=by omega
    have eV:(0:Int)<=k:=by omega
    have dB:=fun w=>qwn (sb (qaa q)) (sb (qaa p)) w ly dd
    rw[qb2,qb2]at dB;have ku:Hid (qbr p (tk++[qad p]) R.paths (k+1)=(qbr p (tk++[qad p]) R.paths k).set k (mvK p (tk++[qad p]) q)):=qjc _ _ _ hq;have um:Hid ((qbr p (tk++[qad p]) R.paths k)[k]?=some q):=qgz _ _ _ hq;have uw:Hid ((qbr p (tk++[qad p]) R.paths k).length=np):=by show _=np;rw[qfx _ _ _ (by rw[<-jZ.out];exact hk),<- jZ.out]
    have ql:Hid (PwAt wq vp (qbr p (tk++[qad p]) R.paths k) wr):=fF;have uA:Hid (wr.ownsRow 0 9 1 (.slice (some ⟨gp,0,none⟩) np cp) np (qfm (qbr p (tk++[qad p]) R.paths k))):=aS
    rcases qpj (q:=q) (t:=tk++[qad p]) fD (by simp) dM cS with ⟨bL,gO⟩|⟨bL,dk,gO⟩
    ·rw[bL]at dB;have uy:Hid (mvK p (tk++[qad p]) q=q):=gO;clear hq aS fF gO
     go_wp2_with (go_at_call 35;refine(dB _).mono ?_;rintro e wz ⟨rfl,lK⟩;subst lK)
     refine⟨⟨k+1,by omega,by go_num,?_⟩,by simp[intOf];omega⟩
     rw[ku.out,uy.out,qim um.out]
     exact ql.out
    ·rw[bL]at dB;have wD:((sb (qaa p)).size:Int)<=(sb (qaa q)).size:=by rw[qcp,qcp];omega
     have wE:(0:Int)<=(sb (qaa p)).size:=by omega
     have mf:¬9223372036854775807<gS.size+((sb (qaa q)).size-(sb (qaa p)).size):=by omega
     have uB:Hid (gS++(sb (qaa q)).extract (sb (qaa p)).size (sb (qaa q)).size=sb (qaa (mvK p (tk++[qad p]) q))):=by
      show _=_
      rw[gO,HG.out,qk9,qgm];simp only[qb2,qcp]
     clear hq aS fF gO
     go_wp2_with (go_at_call 35;refine(dB _).mono ?_;rintro e wz ⟨rfl,lK⟩;subst lK)
     go_region
     go_wp2_with fail
     refine⟨⟨k+1,by omega,by go_num,?_⟩,by simp[intOf];omega⟩
     rw[ku.out,uB.out];have hr:=(uA.out.stored k (.string (sb (qaa (mvK p (tk++[qad p]) q))))).1
     refine⟨?_,?_⟩
     ·rw[List.length_set,uw.out,qko,cN]
      exact hr.drew
     ·exact(ql.out.keep.setCell (p:=⟨gp,k,none⟩) (by rw[cN];rfl) _).drew
   ·have g_:k=np:=by omega
    subst g_;have aC:qbr p (tk++[qad p]) R.paths k=R.paths.map (mvK p (tk++[qad p])):=by
     unfold qbr;rw[jZ.out];simp
    rw[aC]at fF
    go_wp2_with (go_at_call 48;refine(nZ _ fF).mono ?_;rintro e w3 ⟨rfl,aV⟩)
    go_ret
    exact⟨rfl,aV.out⟩
end
structure KInv (nodes:List Node) (k:KS):Prop where
 L:nodes.map Node.ent=k.L
 tree:Tree nodes
 inv:SInv ⟨k.Ws,k.st,[]⟩
 wkl:WkL nodes k.Ws k.cnt
 cnt0:0<=k.cnt
theorem qay.kinv{F:Nat->Prop}{W:World}{rb:Nat}{R:KR}(h:qay F W rb R):∃nodes,KInv nodes R.k:=by
 obtain⟨P,bt,vp,vw,vl,h⟩:=h;obtain⟨nodes,h1,h2,h3,h4,h5⟩:=h.tw.inv
 exact⟨nodes,h1,h2,h3,h4,h5⟩
structure RunI (n:Nat) (R:KR):Prop where
 len:R.paths.length=8
 keys:(R.k.L.map (·.key)).Perm ([]::R.paths)
 leaf:∀i p,R.paths[i]?=some p->∃e∈R.k.L,e.key=p/\e.leaf=decide (i<5)
 perm:(R.works.map (KW.wk R.paths)).Perm R.k.Ws
 pos:∀w∈R.works,w.inn=true->0<w.qav
 idx:∀w∈R.works,w.leaf<5
 qav:R.qav=R.k.st
 nb:NB R.k.L R.k.Ws
 own:ql1 R.k.L R.k.Ws
 fit:qx7 R.k.L R.k.Ws
 cnt:R.k.cnt<=n
 st:R.k.st<=48*n
theorem RunI.mono{n m:Nat}{R:KR}(h:RunI n R)(hm:n<=m):RunI m R:=⟨h.len,h.keys,h.leaf,h.perm,h.pos,h.idx,h.qav,h.nb,h.own,h.fit,by have:=h.cnt;omega,by have:=h.st;omega⟩
theorem qg4{nodes:List Node}(T:Tree nodes){Ws:List Wk}{cnt:Int}(hL:nodes.map Node.ent=L)(I:SInv ⟨Ws,st,[]⟩)(W:WkL nodes Ws cnt)(nb:NB L Ws){paths:List (List Bs)}{works:List KW}{n:Nat}(h1:paths.length=8)(h2:(L.map (·.key)).Perm ([]::paths))(h3:∀i p,paths[i]?=some p->∃e∈L,e.key=p/\e.leaf=decide (i<5))(h4:(works.map (KW.wk paths)).Perm Ws)(h5:∀w∈works,w.inn=true->0<w.qav)(h6:∀w∈works,w.leaf<5)(hc:cnt<=n+1)(cH:st<=48*n):
  ∃aj,qdo (works,st) (KS.done L Ws cnt st).evs=some (aj,(KS.done L Ws cnt st).st)/\RunI (n+1) ⟨(KS.done L Ws cnt st).ks,paths,aj,(KS.done L Ws cnt st).st,(KS.done L Ws cnt st).evs⟩/\(KS.done L Ws cnt st).evs.length<=1000/\aj.map KW.fix=works.map KW.fix:=by
 subst hL;have bQ:(works.map (·.num)).Nodup:=by
  have:=(h4.map (·.num)).nodup_iff.2 I.wks.nums
  rw[qlz]at this
  exact this
 obtain⟨aj,a1,a2,a3,a4⟩:=qv5 (qtu (nodes.map Node.ent) I) h4 bQ h5 I.st0;have hS:=settled T T.ents ⟨I,W,nb,rfl⟩;have ef:=qq9 (nodes.map Node.ent) I rfl;have xh:=(qhs (nodes.map Node.ent) I).2.2
 simp only at xh
 refine⟨aj,a1,⟨h1,h2,h3,a2,a3,fun w hw=>?_,rfl,hS.nb,hS.own,hS.fit,?_,?_⟩,?_,a4⟩
 ·have:KW.fix w∈works.map KW.fix:=by rw[<-a4];exact xrj hw
  obtain⟨v,hv,e⟩:=xrq.1 this;have e2:v.leaf=w.leaf:=by
   have:=congrArg (fun t:Int×Nat×Int×Int=>t.2.1) e
   exact this
  rw[<-e2]
  exact h6 v hv
 ·exact hc
 ·show(qal (nodes.map Node.ent) ⟨Ws,st,[]⟩).st<=48*((n+1:Nat):Int)
  omega
 ·show(qal (nodes.map Node.ent) ⟨Ws,st,[]⟩).evs.length<=1000
  omega
section
variable {nodes:List Node}{R:KR}{n:Nat}
theorem RunI.path(h:RunI n R)(K:KInv nodes R.k){p:List Bs}(hp:R.paths[i]?=some p):qbx p=true/\p≠[]/\p.length<=4/\∃m∈nodes,qf0 R.k.L p=some m.ent/\m.key=p/\m.leaf=decide (i<5):=by
 obtain⟨e,he,hk,hl⟩:=h.leaf i p hp;rw[<-K.L]at he;obtain⟨m,hm,rfl⟩:=xrq.1 he;have cv:m.key=p:=hk;have cf:=K.tree.ok m hm;rw[cv]at cf;have bQ:([]::R.paths).Nodup:=h.keys.nodup_iff.1 (by rw[<-K.L];exact qjo K.tree)
 refine⟨cf.1,fun e=>?_,cf.2,m,hm,?_,cv,hl⟩
 ·rw[List.nodup_cons]at bQ
  exact bQ.1 (e ▸ xr2 hp)
 ·rw[<-K.L,qcb,<- cv,qcc K.tree hm rfl]
  rfl
theorem RunI.small(h:RunI n R)(K:KInv nodes R.k){p:List Bs}(hp:R.paths[i]?=some p):(sb (qaa p)).size<=2000000:=by
 obtain⟨h1,h2,h3,_⟩:=h.path K hp;rw[qcp]
 have:=qi5 _ h1
 omega
theorem RunI.wlen(h:RunI n R):R.works.length=R.k.Ws.length:=by
 have:=h.perm.length_eq
 simpa using this
end
section
variable {nodes:List Node}{R:KR}{n:Nat}
theorem qjr(Ws:List Wk)(hx:x.st=0)(s:Bs):qah (Ws++[x]) s=qah Ws s:=by
 unfold qah;rw[List.filter_append]
 simp[hx]
theorem RunI.qbh(h:RunI n R)(K:KInv nodes R.k){leaf:Nat}(hl:leaf<5){p:List Bs}(hp:R.paths[leaf]?=some p){b:Int}(hf:qao a b=true)(ay:R.works.length<24):
  errS R.k.L R.k.Ws (qaa p) (qao a b)=0/\∃aj,qdo (R.works++[⟨R.k.cnt+1,leaf,a,b,false,0⟩],R.qav) (R.k.qbh (qaa p) a b).evs=some (aj,(R.k.qbh (qaa p) a b).st)/\RunI (n+1) ⟨(R.k.qbh (qaa p) a b).ks,R.paths,aj,(R.k.qbh (qaa p) a b).st,(R.k.qbh (qaa p) a b).evs⟩/\(R.k.qbh (qaa p) a b).evs.length<=1000/\aj.map KW.fix=(R.works++[(⟨R.k.cnt+1,leaf,a,b,false,0⟩:KW)]).map KW.fix:=by
 obtain⟨hk,fD,nR,m,hm,iW,cR,kj⟩:=h.path K hp;have bI:=qbf hk;have hw:=h.wlen;have eW:m.leaf=true:=by rw[kj];simp[hl]
 have he:errS R.k.L R.k.Ws (qaa p) (qao a b)=0:=by
  unfold errS;have hv:qas (qaa p)=true:=by rw[qce,bI];exact hk
  rw[hv,bI,iW]
  have:m.ent.leaf=true:=eW
  simp only[this,hf];rw[if_neg (by decide),if_neg (by decide),if_neg (by decide),if_neg (by omega)]
 have ho:R.k.qbh (qaa p) a b=KS.done R.k.L (R.k.Ws++[qek R.k.cnt (qaa p) a b]) (R.k.cnt+1) R.k.st:=by
  unfold KS.qbh;rw[he];simp
 have mY:m.key=qab (qaa p):=by rw[bI];exact cR
 have I2:=SInv.append K.tree K.inv K.wkl K.cnt0 hm eW mY hf (by omega);have W2:=K.wkl.append K.cnt0 hm eW mY a b;have ub:KW.wk R.paths ⟨R.k.cnt+1,leaf,a,b,false,0⟩=qek R.k.cnt (qaa p) a b:=by
  unfold KW.wk qek;rw[bI,List.getD_eq_getElem?_getD,hp]
  rfl
 rw[ho,h.qav]
 refine⟨he,qg4 K.tree K.L I2 W2 (fun e he=>?_) h.len h.keys h.leaf ?_ ?_ ?_ (by have:=h.cnt;omega) h.st⟩
 ·rw[qjr _ rfl];exact h.nb e he
 ·rw[List.map_append,List.map_cons,List.map_nil,ub]
  exact h.perm.append_right _
 ·intro w hw hi
  rcases xri.1 hw with e|e
  ·exact h.pos w e hi
  ·simp only[List.mem_singleton]at e;subst e;cases hi
 ·intro w hw
  rcases xri.1 hw with e|e
  ·exact h.idx w e
  ·simp only[List.mem_singleton]at e;subst e;exact hl
theorem RunI.full(h:RunI n R)(K:KInv nodes R.k){leaf:Nat}(hl:leaf<5){p:List Bs}(hp:R.paths[leaf]?=some p){b:Int}(hf:qao a b=true)(ay:R.works.length=24):errS R.k.L R.k.Ws (qaa p) (qao a b)=7:=by
 obtain⟨hk,fD,nR,m,hm,iW,cR,kj⟩:=h.path K hp;have bI:=qbf hk;have hw:=h.wlen;have eW:m.leaf=true:=by rw[kj];simp[hl]
 unfold errS;have hv:qas (qaa p)=true:=by rw[qce,bI];exact hk
 rw[hv,bI,iW]
 have:m.ent.leaf=true:=eW
 simp only[this,hf];rw[if_neg (by decide),if_neg (by decide),if_neg (by decide),if_pos (by omega)]
theorem NB.less{Ws:List Wk}(h:NB L Ws)(hs:ff.Sublist Ws)(hW:Wks Ws):NB L ff:=fun e he=>by
 have h1:=h e he;have h2:=qwz (l:=qah ff (qaa e.key)) (l':=qah Ws (qaa e.key)) (hs.filter _) (fun x hx=>by
  have:=hW.num x (xrr.1 hx).1
  omega)
 omega
theorem RunI.finish(h:RunI n R)(K:KInv nodes R.k){x:KW}(hi:R.works[i]?=some x):
  (R.k.finish x.num).err=0/\∃aj,qdo (R.works.take i++R.works.drop (i+1),R.qav) (R.k.finish x.num).evs=some (aj,(R.k.finish x.num).st)/\RunI (n+1) ⟨(R.k.finish x.num).ks,R.paths,aj,(R.k.finish x.num).st,(R.k.finish x.num).evs⟩/\(R.k.finish x.num).evs.length<=1000/\aj.map KW.fix=(R.works.take i++R.works.drop (i+1)).map KW.fix:=by
 have hx:KW.wk R.paths x∈R.k.Ws:=h.perm.mem_iff.1 (xrj (xr2 hi));obtain⟨j,hj,rD⟩:=List.getElem_of_mem hx;have pR:R.k.Ws[j]?=some (KW.wk R.paths x):=by rw[xr1 hj,rD]
 have BL:R.k.Ws.findIdx? (fun y=>y.num == x.num)=some j:=by
  rw[List.findIdx?_eq_some_iff_getElem]
  refine⟨hj,by rw[rD];simp[KW.wk],fun l hl=>?_⟩
  intro e;have e':R.k.Ws[l].num=(KW.wk R.paths x).num:=by simpa [KW.wk] using e
  have:=qe4 K.inv.wks.nums (xr1 (by omega:l<R.k.Ws.length)) pR e'
  omega
 have ho:R.k.finish x.num=KS.done R.k.L (R.k.Ws.take j++R.k.Ws.drop (j+1)) R.k.cnt R.k.st:=by
  unfold KS.finish;rw[BL]
 have aD:=qe7 R.k.Ws j;have ei:=(xr0.1 hi).1;rw[ho,h.qav]
 refine⟨rfl,qg4 (Ws:=R.k.Ws.take j++R.k.Ws.drop (j+1)) K.tree K.L ⟨K.inv.wks.sub aD,K.inv.st0,K.inv.anti.sub aD⟩ (K.wkl.sub aD) (h.nb.less aD K.inv.wks.wks) h.len h.keys h.leaf ?_ ?_ ?_ (by have:=h.cnt;omega) h.st⟩
 ·have h1:R.works=R.works.take i++x::R.works.drop (i+1):=qgl hi;have h2:R.k.Ws=R.k.Ws.take j++KW.wk R.paths x::R.k.Ws.drop (j+1):=qgl pR;have hp:=h.perm;rw[h1,h2,List.map_append,List.map_cons]at hp;have mh:=(List.perm_middle.symm.trans hp).trans List.perm_middle;rw[List.map_append]
  exact(List.perm_cons _).1 mh
 ·intro w hw bL
  refine h.pos w ?_ bL
  rcases xri.1 hw with e|e
  ·exact List.mem_of_mem_take e
  ·exact List.mem_of_mem_drop e
 ·intro w hw
  refine h.idx w ?_
  rcases xri.1 hw with e|e
  ·exact List.mem_of_mem_take e
  ·exact List.mem_of_mem_drop e
end
section
variable {nodes:List Node}{R:KR}{n:Nat}
theorem RunI.stay(h:RunI n R)(last:List (Int×Int)):RunI (n+1) ⟨R.k,R.paths,R.works,R.qav,last⟩ :=
 ⟨h.len,h.keys,h.leaf,h.perm,h.pos,h.idx,h.qav,h.nb,h.own,h.fit,by have:=h.cnt;simp only;omega,by have:=h.st;simp only;omega⟩
theorem qu7{p:List Bs}(h:qbx p=true)(h0:p≠[]):qaa p≠[]:=fun e=>h0 ((qck h).1 e)
theorem RunI.qbb(h:RunI n R)(K:KInv nodes R.k){p:List Bs}(hp:R.paths[i]?=some p){b:Int}(gZ:qao a b=true)(gI:qao c d=true)(nF:5<=i->a=0/\b=0):
  ((R.k.qbb (qaa p) a b c d).err=0\/((R.k.qbb (qaa p) a b c d).err=11/\(R.k.qbb (qaa p) a b c d).evs=[]))/\∃aj bU,qdo (R.works,R.qav) (R.k.qbb (qaa p) a b c d).evs=some (aj,bU)/\RunI (n+1) ⟨(R.k.qbb (qaa p) a b c d).ks,R.paths,aj,bU,(R.k.qbb (qaa p) a b c d).evs⟩/\(R.k.qbb (qaa p) a b c d).evs.length<=1000/\aj.map KW.fix=R.works.map KW.fix:=by
 obtain⟨hk,fD,nR,m,hm,iW,cR,kj⟩:=h.path K hp;have bI:=qbf hk;have hv:qas (qaa p)=true:=by rw[qce,bI];exact hk
 have hF:errF R.k.L (qaa p)=0:=by
  unfold errF;rw[hv,bI,iW];simp[qu7 hk fD]
 have hQ:qnx R.k.L (qaa p) (qao a b&&qao c d) a b=0:=by
  unfold qnx;rw[hF,bI,iW,gZ,gI];simp only[ne_eq,not_true_eq_false,if_false,Bool.and_self,Bool.true_eq_false]
  by_cases h5:i<5
  ·have:m.ent.leaf=true:=by show m.leaf=true;rw[kj];simp[h5]
   rw[this];simp
  ·obtain⟨e1,e2⟩:=nF (by omega);rw[e1,e2];simp
 unfold KS.qbb;rw[hQ,bI];rw[if_neg (by simp)]
 cases hb:qcu (setL R.k.L p a b c d) R.k.Ws
 ·rw[if_neg (by simp)];have vd:setL R.k.L p a b c d=(setQ nodes p a b c d).map Node.ent:=by
   rw[<-K.L]
   refine qnh _ _ _ _ _ _ (fun m' nM cv me=>?_)
   have he:m'=m:=K.tree.inj m' nM m hm (cv.trans cR.symm);subst he;have h5:5<=i:=by
    rw[kj]at me
    simp at me
    exact me
   obtain⟨e1,e2⟩:=nF h5
   have:=(K.tree.num m' nM).2.2.2.2 me
   omega
  have W2:WkL (setQ nodes p a b c d) R.k.Ws R.k.cnt:=⟨fun x hx=>by
   obtain⟨q,hq,e1,e2⟩:=K.wkl.leaf x hx
   refine⟨if q.key=p then q.qbb a b c d else q,xrq.2 ⟨q,hq,rfl⟩,?_,?_⟩
   ·split<;>exact e1
   ·split<;>exact e2,K.wkl.num⟩
  obtain⟨aj,a1,a2,a3,a4⟩:=qg4 (K.tree.setQ fD gZ gI) vd.symm K.inv W2 (qwq.1 hb) (paths:=R.paths) (works:=R.works) (n:=n) h.len (by rw[qtt];exact h.keys) (fun j q hq=>by
   obtain⟨e,he,h1,h2⟩:=h.leaf j q hq
   refine⟨if e.key=p then e.qbb a b c d else e,xrq.2 ⟨e,he,rfl⟩,?_,?_⟩
   ·split<;>exact h1
   ·split<;>exact h2) h.perm h.pos h.idx (by have:=h.cnt;omega) h.st
  rw[h.qav]
  exact⟨.inl rfl,aj,_,a1,a2,a3,a4⟩
 ·rw[if_pos rfl]
  exact⟨.inr ⟨rfl,rfl⟩,R.works,R.qav,rfl,h.stay [],by simp[KS.same],rfl⟩
theorem qxo{f t:List Bs}(hf:f≠[]):mvK f t []=[]:=qbe (fun e=>hf (List.prefix_nil.1 e))
theorem RunI.move(h:RunI n R)(K:KInv nodes R.k){p:List Bs}(hp:R.paths[i]?=some p){tk:List Bs}(cZ:qbx tk=true):
  ((R.k.move (qaa p) (qaa tk)).err≠0/\(R.k.move (qaa p) (qaa tk)).evs=[]/\(R.k.move (qaa p) (qaa tk)).ks=R.k) \/
  ((R.k.move (qaa p) (qaa tk)).err=0/\∃aj,qdo (R.works,R.qav) (R.k.move (qaa p) (qaa tk)).evs=some (aj,(R.k.move (qaa p) (qaa tk)).st)/\RunI (n+1) ⟨(R.k.move (qaa p) (qaa tk)).ks,R.paths.map (mvK p (tk++[qad p])),aj,(R.k.move (qaa p) (qaa tk)).st,(R.k.move (qaa p) (qaa tk)).evs⟩/\(R.k.move (qaa p) (qaa tk)).evs.length<=1000/\aj.map KW.fix=R.works.map KW.fix):=by
 obtain⟨hk,fD,nR,m,hm,iW,cR,kj⟩:=h.path K hp;have bI:=qbf hk;have zn:=qbf cZ;unfold KS.move mvTo;rw[bI,zn]
 by_cases hE:qp8 R.k.L (qaa p) (qaa tk)=0
 ·rw[if_neg (by simpa using hE)]
  cases hb:qcu (R.k.L.map (mvE p (tk++[qad p]))) (R.k.Ws.map (mvW p (tk++[qad p])))
  ·rw[if_neg (by simp)]
   right
   rw[<-K.L,qix K.tree]at hE;obtain⟨_,_,q,tq,hq,ht,b1,b2,b3,b4⟩:=qga hE;obtain⟨ib,cS⟩:=qan hq;obtain⟨pZ,sn⟩:=qan ht;rw[bI]at cS;rw[zn]at sn;obtain⟨pp,ks,ii,kt,at_,M⟩:=Mv.of K.tree ib pZ (by rw[cS];exact fD) b1 b2 b3 b4;have hT:=Mv.tree M (.slice none 0 0) (.slice none 0 0);have uT:=M.ents (.slice none 0 0) (.slice none 0 0);have hW:=M.wkl (.slice none 0 0) (.slice none 0 0) K.wkl;have hS:=M.sinv K.wkl K.inv;rw[cS,sn]at uT hW hS;rw[cS]at hT;rw[K.L]at uT;have fN:=(h.keys.map (mvK p (tk++[qad p])));obtain⟨aj,a1,a2,a3,a4⟩:=qg4 hT uT hS hW (qwq.1 hb) (paths:=R.paths.map (mvK p (tk++[qad p]))) (works:=R.works) (n:=n) (by simp[h.len]) (by
    rw[List.map_map];rw[List.map_map,List.map_cons,qxo fD]at fN
    exact fN) (fun j q' jR=>by
    rw[xrs]at jR;obtain⟨q0,jS,e0⟩:=Option.map_eq_some_iff.1 jR;obtain⟨e,he,h1,h2⟩:=h.leaf j q0 jS
    refine⟨mvE p (tk++[qad p]) e,xrj he,?_,h2⟩
    show mvK p (tk++[qad p]) e.key=q'
    rw[h1,e0]) (by
    have e:R.works.map (KW.wk (R.paths.map (mvK p (tk++[qad p]))))=(R.works.map (KW.wk R.paths)).map (mvW p (tk++[qad p])):=by
     rw[List.map_map]
     refine List.map_congr_left fun w hw=>?_
     have hl:=h.idx w hw;have an:w.leaf<R.paths.length:=by rw[h.len];omega
     simp only[Function.comp,KW.wk,mvW,List.getD_eq_getElem?_getD,xrs,xr1 an,Option.map_some,Option.getD_some]
    rw[e]
    exact h.perm.map _) h.pos h.idx (by have:=h.cnt;omega) h.st
   rw[h.qav]
   exact⟨rfl,aj,a1,a2,a3,a4⟩
  ·rw[if_pos rfl]
   exact .inl ⟨by simp[KS.same],rfl,rfl⟩
 ·rw[if_pos hE]
  exact .inl ⟨hE,rfl,rfl⟩
end
section
variable {F:Nat->Prop}{W w':World}{rb:Nat}{R R':KR}
theorem qay.boxed(h:qay F W rb R)(hs:∀(G:Nat->Prop) (Wx:World),qay G Wx rb R->Calls prog fn args Wx fun e w'=>e=.returned (.bool true)/\qay G w' rb R'/\Keep (fun b=>¬G b) Wx w')(Wx:World)(hb:Below W.heap.size W Wx)(hB:Blk Wx W.heap.size t vs):
  Calls prog fn args Wx fun e w1=>e=.returned (.bool true)/\Blk w1 W.heap.size t vs/\Hid (qay F w1 rb R'/\Keep (fun b=>¬F b) W w1):=by
 have h2:=h.more hb (G:=fun b=>F b\/b=W.heap.size) (fun b e=>by
  rcases e with e|e
  ·exact .inl e
  ·exact .inr ⟨by omega,by rw[e];exact hB.lt⟩)
 refine(hs _ Wx h2).mono ?_
 rintro e w1 ⟨rfl,g1,g2⟩
 exact⟨rfl,hB.keep g2 (fun e=>e (.inr rfl)),g1.less (fun b e=>.inl e),(Keep.new hb).trans (g2.mono (fun b e1 e2=>e1 (.inl e2)))⟩
theorem qmu(h:qay F W rb R){k b:Int}(hk:I64 k)(ha:I64 a)(hb:I64 b)(hc:I64 c)(gJ:pkN k 8<4)(hs:∀(G:Nat->Prop) (Wx:World),qay G Wx rb R->Calls prog 24 #[.pointer (some ⟨rb,0,none⟩),.int .i64 (pkN a 5),.agg #[.int .i64 (pkN b 16),.int .i64 (pkN c 16)]] Wx fun e w'=>e=.returned (.bool true)/\qay G w' rb R'/\Keep (fun b=>¬G b) Wx w'):
  Calls prog 17 #[.pointer (some ⟨rb,0,none⟩),.agg #[.int .i64 k,.int .i64 a,.int .i64 b,.int .i64 c]] W fun e w'=>e=.returned (.bool true)/\qay F w' rb R'/\Keep (fun b=>¬F b) W w':=by
 have qA:=h.boxed hs (t:=32) (vs:=#[.int .i64 k,.int .i64 a,.int .i64 b,.int .i64 c]);have p1:=qe2 k 8 hk (by omega) (by omega);have p2:=qe2 a 5 ha (by omega) (by omega);have am:=qli b c 16 hb hc (by omega) (by omega);have B_:(pkN k 8:Int)<4:=by omega
 have b0:Blk (W.alloc (.cells #[.int .i64 k,.int .i64 a,.int .i64 b,.int .i64 c] 32)) W.heap.size 32 #[.int .i64 k,.int .i64 a,.int .i64 b,.int .i64 c]:=Blk.new W 32 _;generalize (pkN k 8:Int)=kk at *;generalize (pkN a 5:Int)=xa at *;generalize (pkN b 16:Int)=xb at *;generalize (pkN c 16:Int)=xc at *;clear h hs
 go_enter func17,ntmps17
 go_upto_region 3 with (go_at_call 23;refine(p1 _).mono ?_;rintro e w1 ⟨rfl,cg⟩;subst cg)
 go_region_with (first
  |(go_at_call 23;refine(p2 _).mono ?_;rintro e w2 ⟨rfl,eG⟩;subst eG)
  |(go_at_call 41;refine(am _).mono ?_;rintro e w3 ⟨rfl,aM⟩;have b3:=b0.drew.below aM (by simp);have z1:=b3.cell 1;simp only[xq0,xq1,xq2]at z1)
  |(go_at_call 24;refine(qA _ ?_ ?_).mono ?_;(focus exact bel2);(focus exact blk2);rintro e w4 ⟨rfl,bm,aV⟩))
 all_goals go_wp2_with fail
 all_goals go_ret
 all_goals exact⟨rfl,aV.out⟩
end
end Go.Proofs.YtphclnolomgjoaaGreatDoor
