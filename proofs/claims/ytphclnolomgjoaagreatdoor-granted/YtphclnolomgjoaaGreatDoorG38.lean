import Derived.Test.YtphclnolomgjoaaGreatDoorG37
import Derived.Test.YtphclnolomgjoaaGreatDoorG32
set_option linter.unusedVariables false
set_option linter.unusedSimpArgs false
set_option maxRecDepth 100000
set_option maxHeartbeats 4000000
namespace Go.Proofs.YtphclnolomgjoaaGreatDoor
open Go.Proofs.Tryz
section
open Go.RowKit
variable {L:List Ent}{Ws:List Wk}{k:List Bs}{cq i lq ls:Nat}{x y:Wk}{c d0 d1 lf st:Int}{s s':SS}{wr:World}{aq:Option Addr}
def qno (L:List Ent)(Ws:List Wk)(k:List Bs):Prop:=ws0 (qah Ws (qaa k))<=es0 (qai L (qaa k))/\ws1 (qah Ws (qaa k))<=es1 (qai L (qaa k))
def InK (L:List Ent)(k:List Bs)(m:Int)(Ws:List Wk):Prop:=(∃y∈Ws,y.num=m/\y.key=k/\0<y.st)/\qno L Ws k
theorem qua(h:qno L Ws k):¬qm3 L Ws k:=by
 unfold qno at h;unfold qm3
 omega
theorem InK.qie{m:Int}(h:InK L k m Ws)(hW:Wks Ws){v:Wk}(hi:Ws[i]?=some v)(hv:0<v.st)(ho:qm3 L Ws v.key):InK L k m (v.adm 0::(Ws.take i++Ws.drop (i+1))):=by
 obtain⟨⟨y,hy,h1,h2,h3⟩,hU⟩:=h;have aW:y≠v:=fun e=>qua hU (by rw[<-h2,e];exact ho)
 refine⟨⟨y,?_,h1,h2,h3⟩,?_⟩
 ·rw[qgl hi]at hy
  rcases xri.1 hy with e|e
  ·exact xru _ (xr9 _ e)
  ·rcases List.mem_cons.1 e with e|e
   ·exact absurd e aW
   ·exact xru _ (xra _ e)
 ·have u:=qhb hi hv (qaa k);have hn:=hW.num v (xr2 hi);unfold qno at hU ⊢
  revert u
  split<;>intro u<;>omega
theorem InK.qwv{m:Int}:∀(n:Nat) (s:MS),RInv L x st s.Ws->InK L k m s.Ws->InK L k m (room L x n s).Ws
 |0,s,R,h=>h
 |n+1,s,R,h=>by
  cases hr:qa4 L x s with
  |none=>rw[room_end hr];exact h
  |some s' =>
   obtain⟨i,v,h1,h2,h3,h4,h5,h6⟩:=qc6 hr;rw[qjm hr]
   refine InK.qwv n s' (R.step hr).1 ?_
   rw[h6]
   exact h.qie R.wks.wks h3 (by have:=(R.wks.st v (xr2 h3)).1;omega) (qly h5)
theorem qs4{n t:Int}(hy:y∈Ws)(ht:0<t)(h0:0<y.st):∃y'∈qdh Ws n t,y'.num=y.num/\y'.key=y.key/\0<y'.st:=by
 refine⟨if y.num=n then y.adm t else y,xrq.2 ⟨y,hy,rfl⟩,?_⟩
 split
 ·exact⟨rfl,rfl,ht⟩
 ·exact⟨rfl,rfl,h0⟩
theorem InK.own{m:Int}(I:SInv s)(h:InK L k m s.Ws)(he:qaz L s=some s'):InK L k m s'.Ws:=by
 obtain⟨b,x,g1,g2,g3,g4,rfl⟩:=qcz he;have R:=I.rinv g2 g3 g4;have R2:=(R.room (admN s.Ws) ⟨s.Ws,s.evs⟩).1;have h2:=h.qwv (admN s.Ws) ⟨s.Ws,s.evs⟩ R;obtain⟨m1,m2,_⟩:=qaj R2.head;have ht:0<s.st+1:=by have:=I.st0;omega
 obtain⟨⟨y,hy,a1,a2,a3⟩,hU⟩:=h2;obtain⟨y',b1,b2,b3,b4⟩:=qs4 (n:=x.num) hy ht a3
 refine⟨⟨y',b1,b2.trans a1,b3.trans a2,b4⟩,?_⟩
 obtain⟨i,hi,rv⟩:=List.getElem_of_mem m1;have ez:(room L x (admN s.Ws) ⟨s.Ws,s.evs⟩).Ws[i]?=some x:=by rw[xr1 hi,rv]
 show qno L (qdh (room L x (admN s.Ws) ⟨s.Ws,s.evs⟩).Ws x.num (s.st+1)) k
 rw[qbn R2.wks.nums ez];have u:=qd6 ez m2 ht (qaa k);have ho:=R2.own;unfold ownW at ho;simp only[Bool.and_eq_true,decide_eq_true_eq]at ho;unfold qno at hU ⊢
 by_cases e:x.key=k
 ·rw[e]at ho u;rw[qfw]at u;simp only[if_true]at u
  omega
 ·have hn:inB (qaa x.key) (qaa k)=false:=by rw[<-a2];exact R2.anti.not m1 hy (by rw[a2];exact e)
  rw[hn]at u;simp only[Bool.false_eq_true,if_false]at u
  omega
theorem qxg{m:Int}(I:SInv s)(h:∃y∈s.Ws,y.num=m/\0<y.st)(he:qap L s=some s'):∃y∈s'.Ws,y.num=m/\0<y.st:=by
 obtain⟨b,x,g1,g2,g3,g4,rfl⟩:=qch he;obtain⟨y,hy,h1,h2⟩:=h;have e:(qfg b x s).Ws=qdh s.Ws x.num (s.st+1):=(qbn I.wks.nums g2 _).symm;rw[e];obtain⟨y',b1,b2,b3,b4⟩:=qs4 (n:=x.num) (t:=s.st+1) hy (by have:=I.st0;omega) h2
 exact⟨y',b1,b2.trans h1,b4⟩
theorem qur(a:Bs):Op.bytesLess a a=false:=by
 cases h:Op.bytesLess a a
 ·rfl
 ·have:=qfc a a h;rw[h]at this;cases this
theorem qgs:qat (Ws++[x]) k=(qat Ws k).or (if x.st=0/\x.key=k then some x else none):=by
 unfold qat;rw[List.find?_append]
 congr 1
 by_cases e:x.st=0/\x.key=k
 ·rw[if_pos e];simp[e.1,e.2]
 ·rw[if_neg e];simp only[List.find?_cons,List.find?_nil]
  split
  ·rename_i h
   simp only[Bool.and_eq_true,beq_iff_eq,decide_eq_true_eq]at h
   exact absurd h e
  ·rfl
theorem qqn(I:SInv ⟨Ws++[x],st,[]⟩)(aA:ql1 L Ws)(iL:x.st=0)(hw:qat Ws x.key=none)(ho:ownW L Ws x=true):∃y∈(qal L ⟨Ws++[x],st,[]⟩).Ws,y.num=x.num/\0<y.st:=by
 have hS:∀y∈Ws++[x],0<=y.st:=fun y hy=>(I.wks.st y hy).1
 have aF:∀y,ownW L (Ws++[x]) y=ownW L Ws y:=fun y=>by unfold ownW;rw[qjr Ws iL]
 have hh:qat (Ws++[x]) x.key=some x:=by rw[qgs,hw];simp[iL]
 have ct:∀y,qat (Ws++[x]) y.key=some y->ownW L (Ws++[x]) y=true->Op.bytesLess (qaa y.key) (qaa x.key)=false:=fun y hy wW=>by
  by_cases e:x.key=y.key
  ·rw[e];exact qur _
  ·exfalso
   rw[qgs,if_neg (fun h=>e h.2)]at hy;simp only[Option.or_none]at hy;rw[aF]at wW;rw[aA y hy]at wW
   cases wW
 obtain⟨b,aa,ag⟩:=qpm (L:=L) I.wks.wks hS hh (by rw[aF];exact ho) ct;have lC:qaz L ⟨Ws++[x],st,[]⟩=some (qdj L x ⟨Ws++[x],st,[]⟩):=by
  unfold qaz;simp only[aa,ag]
 have I1:=(I.own lC).1;obtain⟨_,_,g1,g2,g3,g4,_⟩:=qcz lC;have Ey:x.key=x.key:=rfl;have R:=I.rinv ag (by
  have e:some b=some _:=aa.symm.trans g1;injection e with e;subst e;rw[ag]at g2
  cases g2
  exact g3) (by rw[aF];exact ho)
 have R2:=(R.room (admN (Ws++[x])) ⟨Ws++[x],[]⟩).1;obtain⟨m1,m2,_⟩:=qaj R2.head;have ht:0<st+1:=by have:=I.st0;simp only at this;omega
 have AW:InK L x.key x.num (qdj L x ⟨Ws++[x],st,[]⟩).Ws:=by
  obtain⟨i,hi,rv⟩:=List.getElem_of_mem m1;have ez:(room L x (admN (Ws++[x])) ⟨Ws++[x],[]⟩).Ws[i]?=some x:=by rw[xr1 hi,rv]
  have e:(qdj L x ⟨Ws++[x],st,[]⟩).Ws=(room L x (admN (Ws++[x])) ⟨Ws++[x],[]⟩).Ws.set i (x.adm (st+1)):=qbn R2.wks.nums ez _;rw[e]
  refine⟨⟨x.adm (st+1),List.mem_set hi _,rfl,rfl,ht⟩,?_⟩
  have u:=qd6 ez m2 ht (qaa x.key);have tN:=R2.own;unfold ownW at tN;simp only[Bool.and_eq_true,decide_eq_true_eq]at tN;rw[qfw]at u;simp only[if_true]at u;unfold qno
  omega
 have e:qal L ⟨Ws++[x],st,[]⟩=qbd (qap L) (Ws++[x]).length (qbd (qaz L) (Ws++[x]).length ⟨Ws++[x],st,[]⟩):=rfl;rw[e];have a1:SInv (qbd (qaz L) (Ws++[x]).length ⟨Ws++[x],st,[]⟩)/\InK L x.key x.num (qbd (qaz L) (Ws++[x]).length ⟨Ws++[x],st,[]⟩).Ws:=by
  have hl:(Ws++[x]).length=Ws.length+1:=by simp
  rw[hl,qhj lC]
  exact qc1 (f:=qaz L) (I:=fun s=>SInv s/\InK L x.key x.num s.Ws) (fun a b ha he=>⟨(ha.1.own he).1,ha.2.own ha.1 he⟩) Ws.length _ ⟨I1,AW⟩
 have a2:=qc1 (f:=qap L) (I:=fun s=>SInv s/\∃y∈s.Ws,y.num=x.num/\0<y.st) (fun a b ha he=>⟨(ha.1.idle he).1,qxg ha.1 ha.2 he⟩) (Ws++[x]).length _ ⟨a1.1,by
  obtain⟨y,hy,h1,_,h3⟩:=a1.2.1
  exact⟨y,hy,h1,h3⟩⟩
 exact a2.2
section
variable {F:Nat->Prop}{W:World}{rb:Nat}{R:KR}{nodes:List Node}{n:Nat}
theorem qro{k:KS}{x:Ent}(h:(k.waits x).length=0):qat k.Ws x.key=none:=by
 have h0:k.waits x=[]:=List.eq_nil_of_length_eq_zero h;unfold KS.waits qhw at h0;rw[List.take_length,List.filter_eq_nil_iff]at h0;unfold qat;rw[List.find?_eq_none];intro y hy hc
 refine h0 y hy ?_
 rw[Bool.and_comm]
 exact hc
theorem qsl(h:qay F W rb R)(I:RunI n R)(hn:n<=100)(K:KInv nodes R.k)(hi:i<5){p:List Bs}(hp:R.paths[i]?=some p){x:Ent}(hx:qf0 R.k.L p=some x)(sH:x.key=p)(hw:(R.k.waits x).length=0)(tH:0<=d0/\ws0 (qah R.k.Ws (qaa x.key))+d0<=es0 (qai R.k.L (qaa x.key)))(oE:0<=d1/\ws1 (qah R.k.Ws (qaa x.key))+d1<=es1 (qai R.k.L (qaa x.key)))(ay:R.works.length<24):
  Calls prog 24 #[.pointer (some ⟨rb,0,none⟩),.int .i64 i,.agg #[.int .i64 d0,.int .i64 d1]] W fun e w'=>e=.returned (.bool true)/\(∃g c,w'.cell? ⟨rb,2,none⟩=some (.slice (some ⟨g,0,none⟩) (R.works.length+1) c)/\w'.cell? ⟨g,R.works.length*6+4,none⟩=some (.bool true)/\R.works.length+1<=c/\c<=maxLen)/\Keep (fun b=>¬F b) W w':=by
 obtain⟨hk,fD,nR,m,hm,iW,cR,kj⟩:=I.path K hp;have bI:=qbf hk;have bZ:x=m.ent:=by rw[iW]at hx;cases hx;rfl
 have B8:=quh K.inv.wks.wks (qaa x.key);have km:qai R.k.L (qaa x.key)=[x]:=by
  rw[bZ,<- K.L]
  exact qhu K.tree (xrj hm) (by show m.leaf=true;rw[kj];simp[hi])
 have dL:=K.tree.num m hm;have nG:es0 (qai R.k.L (qaa x.key))=m.n0:=by rw[km,bZ];simp[es0,Node.ent]
 have oF:es1 (qai R.k.L (qaa x.key))=m.n1:=by rw[km,bZ];simp[es1,Node.ent]
 have hf:qao d0 d1=true:=by
  unfold qao;simp only[decide_eq_true_eq]
  simp only at B8
  omega
 obtain⟨e1,aj,e2,e3,e4,e5⟩:=I.qbh K hi hp hf ay;have d_:0<=R.k.cnt/\R.k.cnt<=1999999:=⟨K.cnt0,by have:=I.cnt;omega⟩;have cH:0<=R.qav/\R.qav<=1000000:=by rw[I.qav];exact⟨K.inv.st0,by have:=I.st;omega⟩
 have eW:m.leaf=true:=by rw[kj];simp[hi]
 have mY:m.key=qab (qaa p):=by rw[bI];exact cR
 have I2:=SInv.append K.tree K.inv K.wkl K.cnt0 hm eW mY hf (by rw[<-I.wlen];exact ay);have bR:(qek R.k.cnt (qaa p) d0 d1).key=x.key:=by show qab (qaa p)=x.key;rw[bI,sH]
 have dj:=qqn (L:=R.k.L) I2 I.own rfl (by rw[bR];exact qro hw) (by
  unfold ownW;rw[bR];simp only[Bool.and_eq_true,decide_eq_true_eq]
  exact⟨tH.2,oE.2⟩)
 have ho:R.k.qbh (qaa p) d0 d1=KS.done R.k.L (R.k.Ws++[qek R.k.cnt (qaa p) d0 d1]) (R.k.cnt+1) R.k.st:=by
  unfold KS.qbh;rw[e1];simp
 have gj:∃y,aj[R.works.length]?=some y/\y.inn=true:=by
  have hl:aj.length=R.works.length+1:=by
   have:=congrArg List.length e5
   simpa using this
  have hy:aj[R.works.length]?=some aj[R.works.length]:=xr1 (by omega)
  refine⟨_,hy,?_⟩
  have mP:KW.fix aj[R.works.length]=(R.k.cnt+1,i,d0,d1):=by
   have h1:(aj.map KW.fix)[R.works.length]?=some (KW.fix aj[R.works.length]):=by rw[xrs,hy];rfl
   rw[e5,List.map_append,xro (by simp)]at h1
   simp at h1
   exact h1.symm
  have rU:aj[R.works.length].num=R.k.cnt+1:=congrArg (fun t:Int×Nat×Int×Int=>t.1) mP;obtain⟨y,pH,nx,fQ⟩:=dj;have cm:=e3.perm
  simp only at cm
  rw[ho]at cm;have CH:y∈aj.map (KW.wk R.paths):=cm.mem_iff.2 pH;obtain⟨v,hv,z9⟩:=xrq.1 CH;have bQ:(aj.map (·.num)).Nodup:=by
   have h1:=cm.map (·.num);rw[qlz]at h1
   exact h1.nodup_iff.2 (qhs R.k.L I2).1.wks.nums
  have C2:v.num=aj[R.works.length].num:=by
   rw[rU]
   have:(KW.wk R.paths v).num=y.num:=by rw[z9]
   exact this.trans nx
  obtain⟨j,hj,rD⟩:=List.getElem_of_mem hv;have BY:=qe4 bQ (show aj[j]?=some v by rw[xr1 hj,rD]) hy C2;subst BY;rw[rD];have EA:0<(KW.wk R.paths v).st:=by rw[z9];exact fQ
  cases n_:v.inn
  ·have:(KW.wk R.paths v).st=0:=by simp[KW.wk,n_]
   omega
  ·rfl
 refine(qs0 h hp (I.small K hp) (by rw[I.len];omega) d0 d1 e1 ay d_ cH rfl e4 e2).mono ?_
 rintro e w' ⟨rfl,tC,mE⟩
 refine⟨rfl,?_,mE⟩
 obtain⟨P,bt,vp,vw,vl,hM⟩:=tC;obtain⟨y,hy,qb⟩:=gj;have hl:aj.length=R.works.length+1:=by
  have:=congrArg List.length e5
  simpa using this
 obtain⟨g,c,cO,_,_,cL,eT,_,_,_,_,q4,_⟩:=hM.tk.cells (k:=R.works.length) (x:=y) hy
 simp only at cO cL
 rw[hl]at cO cL;have c2:=hM.at_.cell 2;simp only[xq0,xq1,xq2]at c2;rw[cO]at c2;rw[qb]at q4
 exact⟨g,c,c2,q4,cL,eT⟩
end
structure Stp where
 k:Int
 a:Int
 b:Int
 c:Int
def StIn (W:World)(ao:Option Addr)(len:Nat)(S:Nat->Stp):Prop:=∀i,i<len->∃b dN,ao=some ⟨b,dN,none⟩/\b<W.heap.size/\W.cell? ⟨b,dN+i*4,none⟩=some (.int .i64 (S i).k)/\W.cell? ⟨b,dN+i*4+1,none⟩=some (.int .i64 (S i).a)/\W.cell? ⟨b,dN+i*4+2,none⟩=some (.int .i64 (S i).b)/\W.cell? ⟨b,dN+i*4+3,none⟩=some (.int .i64 (S i).c)/\I64 (S i).k/\I64 (S i).a/\I64 (S i).b/\I64 (S i).c
theorem qrd{F:Nat->Prop}{rb k:Nat}{s:Stp}(h:∃R,RunI k R/\qay F wr rb R)(hk:k<50)(h1:I64 s.k)(h2:I64 s.a)(h3:I64 s.b)(h4:I64 s.c):
  Calls prog 17 #[.pointer (some ⟨rb,0,none⟩),.agg #[.int .i64 s.k,.int .i64 s.a,.int .i64 s.b,.int .i64 s.c]] wr fun e w'=>e=.returned (.bool true)/\Hid (∃R,RunI (k+1) R/\qay F w' rb R)/\Keep (fun b=>¬F b) wr w':=by
 obtain⟨R,hI,hR⟩:=h;obtain⟨R',_,tA,hc⟩:=q0f hR hI (by omega) h1 h2 h3 h4
 refine hc.mono ?_
 rintro e w' ⟨rfl,g1,g2⟩
 exact⟨rfl,⟨R',tA,g1⟩,g2⟩
theorem qmk{W:World}{as_:Option Addr}{cs:Nat}{q:Nat->Int}{S:Nat->Stp}(hq:QIn W aq lq q)(rI:lq<=cq)(BG:cq<=maxLen)(hS:StIn W as_ ls S)(E7:ls<=cs)(cu:cs<=maxLen){b:Int}(h1:I64 lf)(h2:I64 b)(h3:I64 c):
  Calls prog 8 #[.slice aq lq cq,.slice as_ ls cs,.int .i64 lf,.int .i64 b,.int .i64 c] W fun e w'=>e=.returned (.bool true)/\Below W.heap.size W w':=by
 have HS:Hid (StIn W as_ ls S):=hS;clear hS;have ay:ls<=9223372036854775807:=by unfold maxLen at cu;omega
 go_enter func8,ntmps8
 go_upto_region 5 with (first
  |(go_at_call 15;refine(ql9 _).mono ?_;rintro e w1 ⟨rfl,aa⟩)
  |(go_at_call 16;refine(qqm (hq.below (n:=0) aa) rI BG).mono ?_;rintro e w2 ⟨rb,rfl,cU,ag⟩))
 have Bf:Hid (∃R,RunI 0 R/\qay (fun b=>b<w1.heap.size) w2 rb R):=by
  obtain⟨nodes,K⟩:=cU.kinv
  exact⟨_,qyl K,cU⟩
 clear cU hq
 go_wp2_with fail
 go_loopw [13] (fun i wr=>∃k:Nat,k<=50/\k<=ls/\i=.int .i64 k/\Hid (∃R,RunI k R/\qay (fun b=>b<w1.heap.size) wr rb R)/\Below w1.heap.size w1 wr) (fun i _=>50-(intOf i).toNat)
 case atStart=>exact⟨0,Nat.zero_le _,Nat.zero_le _,rfl,Bf,ag⟩
 case round =>
  obtain⟨k,hk,fM,rfl,hR,hB⟩:=hrel;have pK:Below W.heap.size W wr:=aa.trans (hB.mono aa.size)
  by_cases an:k<ls/\k<50
  ·obtain⟨wF,eX⟩:=an;obtain⟨gb,dN,rfl,tK,q0,q1,q2,q3,i0,i1,i2,i3⟩:=HS.out k wF;have r0:=(pK.cell (p:=⟨gb,dN+k*4,none⟩) tK).trans q0;have r1:=(pK.cell (p:=⟨gb,dN+k*4+1,none⟩) tK).trans q1;have r2:=(pK.cell (p:=⟨gb,dN+k*4+2,none⟩) tK).trans q2;have r3:=(pK.cell (p:=⟨gb,dN+k*4+3,none⟩) tK).trans q3;have cH:=qrd hR.out eX i0 i1 i2 i3;have jH:(k:Int)<ls:=by omega
   have eV:(0:Int)<=k:=by omega
   have Cb:(k:Int)<50:=by omega
   clear q0 q1 q2 q3 hR
   go_wp2_with (go_at_call 17;refine cH.mono ?_;rintro e w3 ⟨rfl,kD,eH⟩)
   exact⟨⟨k+1,by omega,by omega,by go_num,kD,hB.trans (eH.toBelow hB.size (fun b hb e=>e hb))⟩,by simp[intOf];omega⟩
  ·obtain⟨R,hI,qK⟩:=hR.out;have jH:¬((k:Int)<ls/\(k:Int)<50):=by omega
   have oQ:¬((k:Int)<ls)\/¬((k:Int)<50):=by omega
   have eV:(0:Int)<=k:=by omega
   obtain⟨nodes,K⟩:=qK.kinv;have zh:=qdk lf (n:=5) (by omega);obtain⟨p,hp⟩:∃p,R.paths[pkN lf 5]?=some p:=⟨_,xr1 (by rw[hI.len];omega)⟩;obtain⟨dM,fD,nR,m,hm,iW,cR,kj⟩:=hI.path K hp;have zp:∀Wx,Below wr.heap.size wr Wx->Calls prog 19 #[.pointer (some ⟨rb,0,none⟩),.int .i64 (pkN lf 5)] Wx fun e w3=>∃a1 c1,e=.returned (.tuple #[.agg #[.string (sb (qaa m.ent.key)),.bool m.ent.leaf,.int .i64 (es0 (qai R.k.L (qaa m.ent.key))),.int .i64 (es1 (qai R.k.L (qaa m.ent.key))),.int .i64 m.ent.b0,.int .i64 m.ent.b1,.int .i64 (ws0 (qah R.k.Ws (qaa m.ent.key))),.int .i64 (ws1 (qah R.k.Ws (qaa m.ent.key))),.slice a1 (R.k.waits m.ent).length c1],.bool true])/\Below Wx.heap.size Wx w3:=fun Wx hb=>by
    refine(qy9 (qK.below hb) hp dM (hI.small K hp) (by rw[hI.len];omega) iW cR).mono ?_
    rintro e w3 ⟨v,rfl,g1,g2,g3⟩
    obtain⟨a1,c1,rfl,_,_⟩:=qbg g1
    exact⟨a1,c1,rfl,g2⟩
   have yU:=qiz K.tree.ents (qaa m.ent.key);rw[K.L]at yU;have b_:=quh K.inv.wks.wks (qaa m.ent.key);have aD:Hid (∀(Wx:World) (d0 d1:Int),Below wr.heap.size wr Wx->(R.k.waits m.ent).length=0->(0<=d0/\ws0 (qah R.k.Ws (qaa m.ent.key))+d0<=es0 (qai R.k.L (qaa m.ent.key)))->(0<=d1/\ws1 (qah R.k.Ws (qaa m.ent.key))+d1<=es1 (qai R.k.L (qaa m.ent.key)))->R.works.length<24->Calls prog 24 #[.pointer (some ⟨rb,0,none⟩),.int .i64 (pkN lf 5),.agg #[.int .i64 d0,.int .i64 d1]] Wx fun e w'=>e=.returned (.bool true)/\(∃g c,w'.cell? ⟨rb,2,none⟩=some (.slice (some ⟨g,0,none⟩) (R.works.length+1) c)/\w'.cell? ⟨g,R.works.length*6+4,none⟩=some (.bool true)/\R.works.length+1<=c/\c<=maxLen)/\Keep (fun b=>¬b<w1.heap.size) Wx w'):=fun Wx d0 d1 hb hw tH oE ay=>qsl (qK.below hb) hI (by omega) K zh hp iW cR hw tH oE ay
   have HW:Hid (∀Wx,Below wr.heap.size wr Wx->∃aw cw,Wx.cell? ⟨rb,2,none⟩=some (.slice aw R.works.length cw)/\rb<Wx.heap.size):=fun Wx hb=>by
    obtain⟨P,bt,vp,vw,vl,hM⟩:=qK.below hb;obtain⟨aw,cw,cO,_,_⟩:=qbg hM.wrow;have c2:=hM.at_.cell 2;simp only[xq0,xq1,xq2]at c2;rw[cO]at c2
    exact⟨aw,cw,c2,hM.at_.lt⟩
   have lE:R.works.length<=24:=by rw[hI.wlen];exact K.inv.wks.wks.len
   have rX:=qe2 lf 5 h1 (by omega) (by omega)
   simp only at yU b_
   generalize es0 (qai R.k.L (qaa m.ent.key))=N0 at *;generalize es1 (qai R.k.L (qaa m.ent.key))=N1 at *;generalize ws0 (qah R.k.Ws (qaa m.ent.key))=U0 at *;generalize ws1 (qah R.k.Ws (qaa m.ent.key))=U1 at *;generalize (R.k.waits m.ent).length=nw at *;generalize R.works.length=nv at *;generalize sb (qaa m.ent.key)=iM at *;generalize m.ent.leaf=zI at *;generalize m.ent.b0=zJ at *;generalize m.ent.b1=zK at *;generalize (pkN lf 5:Int)=xl at *;clear qK hI K hp iW cR kj hm dM fD nR hR
   rcases oQ with oQ|oQ
   all_goals clear jH
   all_goals go_upto_region 17 with (first
    |(go_at_call 23;refine(rX _).mono ?_;clear rX;rintro e w3 ⟨rfl,fI⟩;subst fI)
    |(go_at_call 19;refine(zp _ ?_).mono ?_;(focus exact bel2);rintro e w4 ⟨a1,c1,rfl,bm⟩))
   all_goals
    have fO:w3.heap.size<=w4.heap.size:=bm.size;obtain⟨W5,kE⟩:∃W5,W5=((w4.alloc (.cells #[.string iM,.bool zI,.int .i64 N0,.int .i64 N1,.int .i64 zJ,.int .i64 zK,.int .i64 U0,.int .i64 U1,.slice a1 nw c1] 37)).alloc (.cells #[.int .i64 0,.int .i64 0] 35)).alloc (.cells #[.int .i64 b,.int .i64 c] 35):=⟨_,rfl⟩;have bq:Blk W5 w4.heap.size 37 #[.string iM,.bool zI,.int .i64 N0,.int .i64 N1,.int .i64 zJ,.int .i64 zK,.int .i64 U0,.int .i64 U1,.slice a1 nw c1]:=by rw[kE];exact blk2
    have bd:Blk W5 (w4.heap.size+1) 35 #[.int .i64 0,.int .i64 0]:=by rw[kE];exact blk2
    have br:Blk W5 (w4.heap.size+1+1) 35 #[.int .i64 b,.int .i64 c]:=by rw[kE];exact blk2
    have dC:Below w3.heap.size w3 W5:=by rw[kE];exact bel2
    rw[<-kE];clear kE zp;generalize w4.heap.size=g4 at *
    go_wp2_with fail
    go_loopw [20] (fun i wx=>∃j:Nat,j<=2/\i=.int .i64 j/\Hid ((1<=j->U0<=N0)/\(2<=j->U1<=N1))/\Blk wx (g4+1) 35 #[.int .i64 (if 1<=j then(pkN b (N0-U0+1).toNat:Int) else 0),.int .i64 (if 2<=j then(pkN c (N1-U1+1).toNat:Int) else 0)]/\Keep (fun b=>b=g4+1) W5 wx) (fun i _=>2-(intOf i).toNat)
    case atStart=>exact⟨0,by omega,rfl,⟨fun h=>by omega,fun h=>by omega⟩,bd,Keep.refl _ _⟩
    case round =>
     obtain⟨j,hj,rfl,il,iF,qG⟩:=hrel;have Ce:=iF.lt;have uS:Below w3.heap.size w3 wr:=dC.trans (qG.toBelow dC.size (fun b hb e=>by omega));have lU:Below W.heap.size W wr:=pK.trans (uS.mono pK.size);have qv:=bq.keep qG (by omega);have yn:=br.keep qG (by omega);have y2:=qv.cell 2;have y3:=qv.cell 3;have y6:=qv.cell 6;have y7:=qv.cell 7;have y8:=qv.cell 8;have x0:=yn.cell 0;have x1:=yn.cell 1;have d0:=iF.cell 0;have d1:=iF.cell 1;have f0:=iF.frozen 0;have f1:=iF.frozen 1;simp only[xq0,xq1,xq2]at y2 y3 y6 y7 y8 x0 x1 d0 d1
     rcases(show j=0\/j=1\/j=2 by omega) with rfl|rfl|rfl
     ·by_cases km:U0<=N0
      ·have iI:=qe2 b (N0-U0+1).toNat h2 (by omega) (by omega);rw[show(((N0-U0+1).toNat:Nat):Int)=N0-U0+1 by omega]at iI;have e9:¬(N0-U0<0):=by omega
       have uk:IntKind.i64.wrap (N0-U0)=N0-U0:=by rw[IntKind.wrap_i64];omega
       have zY:IntKind.i64.wrap (N0-U0+1)=N0-U0+1:=by rw[IntKind.wrap_i64];omega
       go_upto_region 20 with fail
       go_quiet (fail)
       go_wp2_with (go_at_call 23;refine(iI _).mono ?_;rintro e wz ⟨rfl,lK⟩;subst lK)
       refine⟨⟨1,by omega,rfl,⟨fun _=>km,fun h=>by omega⟩,?_,(qG.drewN _).setCell (p:=⟨g4+1,0,none⟩) rfl _⟩,by simp[intOf]⟩
       have:=(iF.drewN nq).set 0 (.int .i64 (pkN b (N0-U0+1).toNat))
       simpa using this
      ·have e9:N0-U0<0:=by omega
       have uk:IntKind.i64.wrap (N0-U0)=N0-U0:=by rw[IntKind.wrap_i64];omega
       go_upto_region 20 with fail
       go_quiet (fail)
       go_wp2_with fail
       go_ret
       exact⟨rfl,xrm lU _⟩
     ·have sq:=il.out.1 (Nat.le_refl _)
      by_cases km:U1<=N1
      ·have iI:=qe2 c (N1-U1+1).toNat h3 (by omega) (by omega);rw[show(((N1-U1+1).toNat:Nat):Int)=N1-U1+1 by omega]at iI;have e9:¬(N1-U1<0):=by omega
       have uk:IntKind.i64.wrap (N1-U1)=N1-U1:=by rw[IntKind.wrap_i64];omega
       have zY:IntKind.i64.wrap (N1-U1+1)=N1-U1+1:=by rw[IntKind.wrap_i64];omega
       go_upto_region 20 with fail
       go_quiet (fail)
       go_wp2_with (go_at_call 23;refine(iI _).mono ?_;rintro e wz ⟨rfl,lK⟩;subst lK)
       refine⟨⟨2,by omega,rfl,⟨fun _=>sq,fun _=>km⟩,?_,(qG.drewN _).setCell (p:=⟨g4+1,1,none⟩) rfl _⟩,by simp[intOf]⟩
       have:=(iF.drewN nq).set 1 (.int .i64 (pkN c (N1-U1+1).toNat))
       simpa using this
      ·have e9:N1-U1<0:=by omega
       have uk:IntKind.i64.wrap (N1-U1)=N1-U1:=by rw[IntKind.wrap_i64];omega
       go_upto_region 20 with fail
       go_quiet (fail)
       go_wp2_with fail
       go_ret
       exact⟨rfl,xrm lU _⟩
     ·have sq:=il.out.1 (by omega);have Cz:=il.out.2 (Nat.le_refl _);obtain⟨aw,cw,eT,nU⟩:=HW.out wr uS;simp only[show(1:Nat)<=2 by omega,if_true,Nat.le_refl]at d0 d1
      by_cases jM:0<nw
      ·have wT:(0:Int)<nw:=by omega
       go_wp2_with fail
       go_ret
       exact⟨rfl,lU⟩
      ·have wS:nw=0:=by omega
       have wT:¬((0:Int)<nw):=by omega
       by_cases hnv:nv<24
       ·have wR:¬((24:Int)<=nv):=by omega
        have q0:=qdk b (n:=(N0-U0+1).toNat) (by omega);have q1:=qdk c (n:=(N1-U1+1).toNat) (by omega);have pt:=aD.out wr (pkN b (N0-U0+1).toNat:Int) (pkN c (N1-U1+1).toNat:Int) uS wS ⟨by omega,by omega⟩ ⟨by omega,by omega⟩ hnv;have n_:(nv:Int)<nv+1:=by omega
        have C1:(0:Int)<=nv:=by omega
        have Ab:Hid (∀w5,Keep (fun b=>¬b<w1.heap.size) wr w5->Below W.heap.size W w5):=fun w5 hk=>lU.trans (hk.toBelow lU.size (fun b hb e=>e (by have:=aa.size;omega)))
        generalize (pkN b (N0-U0+1).toNat:Int)=e0 at *;generalize (pkN c (N1-U1+1).toNat:Int)=e1 at *;clear aD HW il
        go_wp2_with (go_at_call 24;refine pt.mono ?_;rintro e w5 ⟨rfl,⟨g5,c5,r5,t5,l5,m5⟩,AZ⟩)
        go_ret
        exact⟨rfl,Ab.out _ AZ⟩
       ·have wR:(24:Int)<=nv:=by omega
        go_wp2_with fail
        go_ret
        exact⟨rfl,lU⟩
end
section
open Go.ChangeShapes Go.WideShapes Go.ChangeAt Go.RowKit
variable {fuel:Nat}{cs:List Value}{v:Value}{P:Program}
theorem qk4:prog.cellsOf 32=4:=by kernel_rfl
section
variable {H:Type}{enc:TypeId×Value->H}{w:World}{base:Nat}{gr:Nat->Bool}{jF:Bool}
theorem wf64{n:Int}(h:Lit.wf (.int .i64 n)=true):I64 n:=by
 simp only[Lit.wf,Bool.and_eq_true,decide_eq_true_eq]at h;rw[show IntKind.i64.min = -9223372036854775808 by decide,show IntKind.i64.max=9223372036854775807 by decide]at h
 exact h
theorem open_int{x:DataW H×List MemPlace}(h:DataW.trod enc prog w base gr jF fuel 3 cs=some x):∃n,cs=[.int .i64 n]/\I64 n:=by
 obtain⟨n,e,_,wt⟩:=DataW.trod_int underlying3 h
 exact⟨n,e,wf64 wt⟩
theorem open_ints{d:DataW H}{ps:List MemPlace}(h:DataW.trod enc prog w 0 gr jF fuel 25 v.cells.toList=some (d,ps))(hv:v.cells.toList=[v]):
  ∃ao len cap q,v=.slice ao len cap/\len<=cap/\cap<=maxLen/\QIn w ao len q:=by
 rw[hv]at h
 rcases Deep.open_slice underlying25 h with ⟨hc,hx⟩|⟨a,len,cap,m,n,D,Pl,hc,_,hl,hm,mZ,hx,vX⟩
 ·simp at hc hx
  exact⟨none,0,0,fun _=>0,hc,Nat.le_refl _,Nat.zero_le _,fun i hi=>by omega⟩
 ·have Cd:len<=m:=by rw[mZ];split<;>omega
  obtain⟨q,hq⟩:=Deep.choose_lt (α := Int) (n:=len) (p:=fun i o=>w.cell? (a.add (i*1+0))=some (.int .i64 o)/\I64 o) (fun i hi=>by
   obtain⟨A8,h1,h2⟩:=vX i (by omega);rw[qo3]at h1;obtain⟨_,ay,cP⟩:=World.cells?_some h1;obtain⟨o,rfl,ho⟩:=open_int h2
   refine⟨o,?_,ho⟩
   have:=cP 0 (by omega)
   rw[Deep.add_add]at this;rw[this];rfl)
  refine⟨some a,len,cap,q,by simpa using hc,hl,hm,fun i hi=>?_⟩
  have h0:=(hq 0 (by omega)).1;have iD:=World.cell?_spot h0;have da:a.block<w.heap.size:=by
   rcases Nat.lt_or_ge a.block w.heap.size with h|h
   ·exact h
   ·rw[World.cell?]at h0;simp[Addr.add,Array.getElem?_eq_none h]at h0
  obtain⟨b,dN,sp⟩:=a
  simp[Addr.add]at iD
  subst iD;have hh:=(hq i hi).1;rw[Addr.add_lit]at hh
  refine⟨b,dN,rfl,da,?_,(hq i hi).2⟩
  simpa using hh
theorem qtc{fs:Array Field}(D2:P.underlying 32=some (.struct fs))(nH:(fs.map fun f=>(f.type,f.offset))=#[(3,0),(3,1),(3,2),(3,3)])(u3:P.underlying 3=some (.int .i64))(qk4:P.cellsOf 32=4)(qo3:P.cellsOf 3=1){x:DataW H×List MemPlace}(h:DataW.trod enc P w base gr jF fuel 32 cs=some x):
  ∃o:Stp,cs=[.int .i64 o.k,.int .i64 o.a,.int .i64 o.b,.int .i64 o.c]/\I64 o.k/\I64 o.a/\I64 o.b/\I64 o.c:=by
 obtain⟨xs,k,rfl,rfl,hl,hx,hf⟩:=DataW.trod_struct D2 h;rw[qk4]at hl;have df:fs.size=4:=by have:=congrArg Array.size nH;simpa using this
 rw[df]at hx;have kQ:∀(i:Nat) (t dN:Nat),(#[(3,0),(3,1),(3,2),(3,3)]:Array (Nat×Nat))[i]?=some (t,dN)->DataW.trod enc P w base gr jF k t ((cs.drop dN).take (P.cellsOf t))=xs[i]?:=fun i t dN hi=>by
  rw[<-nH,Array.getElem?_map]at hi;obtain⟨f,h1,h2⟩:=Option.map_eq_some_iff.1 hi;simp only[Prod.mk.injEq]at h2;rw[<-h2.1,<- h2.2]
  exact hf i f h1
 match cs,hl,xs,hx with
 | [v0,v1,v2,v3],_,[y0,y1,y2,y3],_ =>
  have g0:=kQ 0 _ _ rfl;have g1:=kQ 1 _ _ rfl;have g2:=kQ 2 _ _ rfl;have g3:=kQ 3 _ _ rfl
  simp[qo3]at g0 g1 g2 g3
  obtain⟨k0,e0,_,w0⟩:=DataW.trod_int u3 g0;obtain⟨k1,e1,_,w1⟩:=DataW.trod_int u3 g1;obtain⟨k2,e2,_,w2⟩:=DataW.trod_int u3 g2;obtain⟨k3,e3,_,w3⟩:=DataW.trod_int u3 g3
  simp at e0 e1 e2 e3
  subst e0 e1 e2 e3
  exact⟨⟨k0,k1,k2,k3⟩,rfl,wf64 w0,wf64 w1,wf64 w2,wf64 w3⟩
theorem qq4{d:DataW H}{ps:List MemPlace}(h:DataW.trod enc prog w 0 gr jF fuel 26 v.cells.toList=some (d,ps))(hv:v.cells.toList=[v]):
  ∃ao len cap S,v=.slice ao len cap/\len<=cap/\cap<=maxLen/\StIn w ao len S:=by
 rw[hv]at h
 rcases Deep.open_slice underlying26 h with ⟨hc,hx⟩|⟨a,len,cap,m,n,D,Pl,hc,_,hl,hm,mZ,hx,vX⟩
 ·simp at hc hx
  exact⟨none,0,0,fun _=>⟨0,0,0,0⟩,hc,Nat.le_refl _,Nat.zero_le _,fun i hi=>by omega⟩
 ·have Cd:len<=m:=by rw[mZ];split<;>omega
  have:Inhabited Stp:=⟨⟨0,0,0,0⟩⟩
  obtain⟨S,hS⟩:=Deep.choose_lt (α := Stp) (n:=len) (p:=fun i o=>(w.cell? (a.add (i*4+0))=some (.int .i64 o.k)/\w.cell? (a.add (i*4+1))=some (.int .i64 o.a)/\w.cell? (a.add (i*4+2))=some (.int .i64 o.b)/\w.cell? (a.add (i*4+3))=some (.int .i64 o.c))/\I64 o.k/\I64 o.a/\I64 o.b/\I64 o.c) (fun i hi=>by
   obtain⟨A8,h1,h2⟩:=vX i (by omega);rw[qk4]at h1;obtain⟨_,ay,cP⟩:=World.cells?_some h1;obtain⟨o,rfl,ho⟩:=qtc underlying32 (by kernel_rfl) underlying3 qk4 qo3 h2;have hc:∀j,j<4->w.cell? (a.add (i*4+j))=[Value.int .i64 o.k,.int .i64 o.a,.int .i64 o.b,.int .i64 o.c][j]?:=fun j hj=>by
    have:=cP j hj
    rw[Deep.add_add]at this
    exact this
   exact⟨o,⟨hc 0 (by omega),hc 1 (by omega),hc 2 (by omega),hc 3 (by omega)⟩,ho⟩)
  refine⟨some a,len,cap,S,by simpa using hc,hl,hm,fun i hi=>?_⟩
  have h0:=(hS 0 (by omega)).1.1;have iD:=World.cell?_spot h0;have da:a.block<w.heap.size:=by
   rcases Nat.lt_or_ge a.block w.heap.size with h|h
   ·exact h
   ·rw[World.cell?]at h0;simp[Addr.add,Array.getElem?_eq_none h]at h0
  obtain⟨b,dN,sp⟩:=a
  simp[Addr.add]at iD
  subst iD;have hh:=(hS i hi).1;simp only[Addr.add_lit]at hh
  exact⟨b,dN,rfl,da,by simpa using hh.1,hh.2.1,hh.2.2.1,hh.2.2.2,(hS i hi).2⟩
end
theorem qiw(H:Type)(enc:TypeId×Value->H)(W:World)(base:Nat)(args:Array Value)(ds gs:List (DataW H))(before:List MemPlace)
  (a9:∀(j:Nat) t v,f8.params[j]?=some t->args[j]?=some v->Value.okWide prog W .any base t v)
  (hW:DataW.Whole enc prog f8.params.toList Rows.grantedSpec.vars false W args.toList ds gs before) :
  Calls prog 8 args W fun e W'=>∃v,e=.returned v/\Rows.grantedSpec.post enc prog f8 false true false false W args v W':=by
 have aX:=hW;obtain⟨p,q,uP,hV,rfl,E3,bQ⟩:=hW;have hA:DataW.TrodAll enc prog W 0 (fun _=>true) true f8.params.toList args.toList ds p:=uP;rw[params8]at hA a9;obtain⟨v0,F4,d0,Ec,p0,q0,yS,rfl,rfl,h0,r0⟩:=trodAll_cons hA;obtain⟨v1,F5,d1,Ed,p1,q1,ow,rfl,rfl,h1,r1⟩:=trodAll_cons r0;obtain⟨v2,F6,d2,Ee,p2,q2,ox,rfl,rfl,h2,r2⟩:=trodAll_cons r1;obtain⟨v3,F7,d3,Ef,p3,q3,oy,rfl,rfl,h3,r3⟩:=trodAll_cons r2;obtain⟨v4,F8,d4,Eg,p4,q4,oz,rfl,rfl,h4,r4⟩:=trodAll_cons r3;obtain⟨rfl,rfl,rfl⟩:=trodAll_nil r4;subst oz oy ox ow;obtain rfl:args=#[v0,v1,v2,v3,v4]:=by cases args;simp_all
 obtain⟨rfl,rfl⟩:=trodVars_none hV;obtain⟨Eo,y_⟩:=id h0;obtain⟨Ep,gZ⟩:=id h1;obtain⟨AK,gI⟩:=id h2;obtain⟨AL,oJ⟩:=id h3;obtain⟨AM,ri⟩:=id h4;have c0:v0.cells.toList=[v0]:=by
  obtain⟨a,l,c,e⟩:=okWide_slice underlying25 (a9 0 25 v0 rfl rfl);rw[e];rfl
 have c1:v1.cells.toList=[v1]:=by
  obtain⟨a,l,c,e⟩:=okWide_slice underlying26 (a9 1 26 v1 rfl rfl);rw[e];rfl
 obtain⟨aq,lq,cq,q,rfl,dS,gR,hq⟩:=open_ints y_ c0;obtain⟨as_,ls,cs,S,rfl,nX,dU,hS⟩:=qq4 gZ c1;have hint:∀(j:Nat) (v:Value) (f:Nat) (y:DataW H×List MemPlace),Value.okWide prog W .any base 3 v->DataW.trod enc prog W 0 (fun _=>true) true f 3 v.cells.toList=some y->∃n,v=.int .i64 n/\I64 n:=fun j v f y hv hf=>by
  obtain⟨n,e⟩:=okWide_int underlying3 hv;obtain⟨n',e',hn⟩:=open_int hf;rw[e]at e';have e2:[Value.int .i64 n]=[Value.int .i64 n']:=e';injection e2 with e2;injection e2 with _ e2
  exact⟨n,e,e2 ▸ hn⟩
 obtain⟨n2,rfl,i2⟩:=hint 2 v2 AK _ (a9 2 3 v2 rfl rfl) gI;obtain⟨n3,rfl,i3⟩:=hint 3 v3 AL _ (a9 3 3 v3 rfl rfl) oJ;obtain⟨n4,rfl,i4⟩:=hint 4 v4 AM _ (a9 4 3 v4 rfl rfl) ri
 refine(qmk hq dS gR hS nX dU i2 i3 i4).mono fun e W' ⟨he,ah⟩=>?_
 subst he;have an:∀x∈p0++(p1++(p2++(p3++(p4++[])))),x.block<W.heap.size:=fun x hx=>aX.lt x (by simpa using hx)
 exact⟨_,rfl,_,_,_,[],p0++(p1++(p2++(p3++(p4++[])))),[],aX,trodAll_cons_mk (shut_bool underlying4 _) trodAll_mk0,
  trodAll_cons_mk (Below.trod laidOut (by kernel_rfl) (of_decide_eq_true (by kernel_rfl)) h0 ah (fun x hx=>an x (by simp[hx]))) (trodAll_cons_mk (Below.trod laidOut (by kernel_rfl) (of_decide_eq_true (by kernel_rfl)) h1 ah (fun x hx=>an x (by simp[hx]))) (trodAll_cons_mk (Below.trod laidOut (by kernel_rfl) (of_decide_eq_true (by kernel_rfl)) h2 ah (fun x hx=>an x (by simp[hx]))) (trodAll_cons_mk (Below.trod laidOut (by kernel_rfl) (of_decide_eq_true (by kernel_rfl)) h3 ah (fun x hx=>an x (by simp[hx]))) (trodAll_cons_mk (Below.trod laidOut (by kernel_rfl) (of_decide_eq_true (by kernel_rfl)) h4 ah (fun x hx=>an x (by simp[hx]))) trodAll_mk0)))),rfl,ah.frame _,fun h=>by cases h⟩
def qpa:Array Value:=#[.slice none 0 0,.slice none 0 0,.int .i64 0,.int .i64 0,.int .i64 0]
theorem qi6(os:Os):laidMetH prog Rows.grantedRow.laid ((World.laidAll prog os Rows.grantedRow.laid).forCall (fun _ _=>0) ⟨#[],qpa,[]⟩).memory:=by
 rw[MakeChecks.laidMetH_plain _ _ _ (by kernel_rfl)]
 exact laidMet_laidAll _ (by kernel_rfl) (by kernel_rfl)
theorem qnd(os:Os){H:Type}(enc:TypeId×Value->H):∃lM,DataW.whole enc prog ((World.laidAll prog os Rows.grantedRow.laid).forCall (fun _ _=>0) ⟨#[],qpa,[]⟩).memory f8.params.toList Rows.grantedSpec.vars false qpa.toList 8=some ([.nil,.nil,.lit (.int .i64 0),.lit (.int .i64 0),.lit (.int .i64 0)],[],lM) :=
 ⟨[],by kernel_rfl⟩
theorem qln(os:Os)(gX:os.Started)(H:Type)(enc:TypeId×Value->H)(F:Stop.Interp):
  ReturnsInHanded {} checked os 8 .any ((OpenSpec.ofChange Rows.grantedSpec).preRow enc prog f8 Rows.grantedRow.domain false Rows.grantedRow.laid) (((OpenSpec.ofChange Rows.grantedSpec).at F).post enc prog f8 false true false false):=by
 obtain⟨lM,hx⟩:=qnd os enc
 refine returnsInHanded_of_row (C:=checked) (s:=OpenSpec.ofChange Rows.grantedSpec) own gX (by kernel_rfl) func8
  (qhe (enc:=enc) (C:=checked) (World.laidAll prog os Rows.grantedRow.laid) qpa (World.laidAll_os _ _ _) (World.shaped_of_ZipB (by kernel_rfl) (by kernel_rfl)) (by kernel_rfl)
   (OpenSpec.preRow_of_cond 8 hx (by kernel_rfl) (fun k hk=>by cases hk) (by kernel_rfl) (qi6 os))) ?_
 intro W base args ds gs before a9 hW _ il _ hL _ _
 exact qiw H enc W base args ds gs before a9 hW
theorem qoo:Rows.GrantedSaid :=
 OpenClaim.holds_of_cond 8 f8 rfl rfl rfl rfl rfl rfl rfl ⟨rfl,rfl,rfl,rfl,rfl⟩ rfl rfl rfl rfl rfl (by kernel_rfl) func8 (by kernel_rfl)
  (of_decide_eq_true (by kernel_rfl)) (by unfold Func.isWrapper;first|(rw[if_pos (by decide +kernel)];kernel_rfl)|(rw[if_neg (by decide +kernel)];exact⟨rfl,rfl⟩))
  (fun os gX H enc _ F=>by rw[OpenClaim.pre_eq_preRow];exact qln os gX H enc F)
theorem qm9 (f : FuncId) (fn : Func) (hf : Tryz.pinned.checked.prog.funcNamed "borrow/borrowkeep.Granted" = some f) (BM : Tryz.pinned.checked.prog.funcs[f]? = some fn) :
  false=Tryz.pinned.checked.prog.looks []/\∀(j:Nat) t,fn.params[j]?=some t->Tryz.pinned.checked.prog.wantsStandIn t=false:=by
 obtain rfl : f = 8 := Option.some.inj ((show prog.funcNamed "borrow/borrowkeep.Granted" = some 8 by kernel_rfl).symm.trans hf) |>.symm;obtain rfl:fn=f8:=(Option.some.inj (func8.symm.trans BM)).symm
 refine⟨by kernel_rfl,fun j t ht=>?_⟩
 rw[params8]at ht;have hm:=Array.mem_of_getElem? ht;simp only[List.mem_toArray,List.mem_cons,List.mem_nil_iff,or_false]at hm
 rcases hm with rfl|rfl|rfl|rfl|rfl
 ·exact(show prog.wantsStandIn 25=false by kernel_rfl)
 ·exact(show prog.wantsStandIn 26=false by kernel_rfl)
 all_goals exact(show prog.wantsStandIn 3=false by kernel_rfl)
theorem grantedCard:Rows.GrantedCardSaid :=
 Claim7.holds_tied_plain_at .later [] _ _ _ _ qoo (fun _ h=>by cases h) (by kernel_rfl) (fun _ h=>by cases h) granted_row_tie rfl ⟨rfl,rfl⟩ (by kernel_rfl) rfl qm9 (by kernel_rfl)
end
end Go.Proofs.YtphclnolomgjoaaGreatDoor
