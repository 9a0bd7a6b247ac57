import Derived.Test.YtphclnolomgjoaaGreatDoorC32
set_option linter.unusedVariables false
set_option linter.unusedSimpArgs false
set_option maxRecDepth 100000
set_option maxHeartbeats 4000000
namespace Go.Proofs.YtphclnolomgjoaaGreatDoor
open Tryz
open Go.RowKit
variable {w w' w3:World}{br bt bx cW cap g2 i j j2 q2 size:Nat}{L L':List Ent}{v v1 v2 v3 va vw:Value}{ao:Option Addr}{Ws:List Wk}{a cnt d er st:Int}{T:Nat->Prop}{k:List Bs}{nodes:List Node}{as_ l ws:List Pw}{e:TypeId}{xs:List Value}{m n r:Node}
def q0h (L:List Ent)(s:Bs)(ok:Bool)(a b:Int):Int :=
 if errF L s≠0 then errF L s else match qcv L (qaa s) with
 |none=>3
 |some x=>if ok=false then 6 else if (!x.leaf&&!(a == 0&&b == 0))=true then 6 else 0
def Ent.qxh(x:Ent)(a b c d:Int):Ent:={x with n0:=a,n1:=b,b0:=c,b1:=d}
theorem qxv{g:Nat}(h:qc9 w br g cap L v1 v2 v3)(E:Ents L)(aH:∀a∈L,∀b∈L,a.key=b.key->a=b)(s:ByteArray)(hs:s.size<=2000000){x:Ent}(h0:errF L (bl s)=0)(hx:qcv L (qaa (bl s))=some x):
  Cl 117 #[vP br,.string s] w fun e w'=>(∃i:Nat,e=.returned (.tuple #[vI i,vI 0])/\L[i]?=some x)/\Bw w w' :=
 (qxw h E aH s hs).mono fun e w' hp=>by
  obtain⟨hG,hb⟩:=hp
  rcases hG with ⟨h1,_⟩|⟨_,i,y,hi,hk,he⟩
  ·exact absurd h0 h1
  ·have cg:=List.mem_of_find?_eq_some hx;have ti:x.key=qaa (bl s):=by have:=List.find?_some hx;simpa using this
   have:=aH y (xr2 hi) x cg (hk.trans ti.symm)
   exact⟨⟨i,he,this ▸ hi⟩,hb⟩
theorem qzl{g:Nat}(h:GRef w br g cap L ao cW Ws cnt st)(E:Ents L)(aH:∀a∈L,∀b∈L,a.key=b.key->a=b)(s:ByteArray)(hs:s.size<=2000000)(a b c d:Int)(he:q0h L (bl s) (qao a b&&qao c d) a b=er)(h0:er≠0):
  Cl 74 #[vP br,.string s,.agg #[vI a,vI b],.agg #[vI c,vI d]] w fun e w'=>e=.returned (.tuple #[v0_,vI er])/\Bw w w':=by
 have bR:=h.qii;have cr:=h.ref.qjv;have cP:=E.len;have b6:Blk ((w.alloc (.cells #[vI a,vI b] 35)).alloc (.cells #[vI c,vI d] 35)) w.heap.size 35 #[vI a,vI b]:=(Blk.new w 35 _).alloc _;have b7:Blk ((w.alloc (.cells #[vI a,vI b] 35)).alloc (.cells #[vI c,vI d] 35)) (w.heap.size+1) 35 #[vI c,vI d]:=Blk.new' (by simp)
 by_cases hF:errF L (bl s)=0
 ·have hv:∃x,qcv L (qaa (bl s))=some x:=by
   unfold errF at hF
   split at hF
   ·omega
   ·split at hF
    ·omega
    ·split at hF
     ·rename_i h;exact Option.isSome_iff_exists.1 h
     ·omega
  obtain⟨x,hx⟩:=hv;have ag:=fun W (hW:Bw w W)=>qxv (h.ref.below hW) E aH s hs hF hx
  have dt:=fun W=>qcg a b W
  have dy:=fun W=>qcg c d W
  unfold q0h at he;rw[if_neg (by simpa using hF),hx]at he
  simp only at he
  have dN:w.cell? (vA br 0)=some (vS g L.length cap):=by have:=h.ref.at_.cell 0;simpa using this
  have fu:∀i:Nat,L[i]?=some x->i<L.length/\w.cell? (vA g (i*6+1))=some (.bool x.leaf):=fun i hi=>⟨(xr0.1 hi).1,h.ref.ent hi (j:=1) rfl⟩
  have ct:g<w.heap.size:=(h.ref.row.lt g rfl).2;have Ik:er=6:=by
   rw[<-he]
   split
   ·rfl
   ·split
    ·rfl
    ·rename_i h1 h2;exfalso;apply h0;rw[<-he,if_neg h1,if_neg h2]
  subst Ik;obtain⟨n,hn⟩:∃n,n=L.length:=⟨_,rfl⟩;rw[<-hn]at dN cr cP fu;have dH:qao a b=false\/(qao a b=true/\qao c d=false)\/(qao a b=true/\qao c d=true/\x.leaf=false/\(a != 0)=true/\(a == 0)=false)\/(qao a b=true/\qao c d=true/\x.leaf=false/\a=0/\(b != 0)=true/\(b == 0)=false):=by
   revert he
   by_cases ha:a=0<;>by_cases hb:b=0<;>cases qao a b<;>cases qao c d<;>cases x.leaf<;>simp[ha,hb]
  clear h hF hx hn he h0
  rcases dH with e1|⟨e1,e2⟩|⟨e1,e2,e3,e4,e5⟩|⟨e1,e2,e3,rfl,e4,e5⟩
  all_goals (try rw[e1]at dt);(try rw[e2]at dy);(try rw[e3]at fu)
  all_goals
   clear e1;(try clear e2);(try clear e3)
   go_enter func74,ntmps74
   go_wp2_with (first
    |(go_at_call 117;refine(ag _ (by exact bel2)).mono ?_;rintro e w1 ⟨⟨i,rfl,hi⟩,aa⟩;have ey:=(fu i hi).1;have aY:=(fu i hi).2;have Dh:(i:Int)<n:=(by omega);have Dg:(0:Int)<=i:=(by omega);have aj:Bw w w1:=qac (by exact bel2) aa;have eG:=b6.below aa (by simp;omega);have fW:=b7.below aa (by simp);have k0:=eG.cell 0;have k1:=eG.cell 1;simp only[xq0,xq1,xq2]at k0 k1;clear ag fu hi)
    |(go_at_call 115;refine(dt _).mono ?_;clear dt;rintro e w2 ⟨rfl,af⟩;have aw:Bw w w2:=qac aj af;have dX:=eG.below af eG.lt;have eR:=fW.below af fW.lt;clear k0 k1;have k0:=eR.cell 0;have k1:=eR.cell 1;simp only[xq0,xq1,xq2]at k0 k1)
    |(go_at_call 115;refine(dy _).mono ?_;clear dy;rintro e w3 ⟨rfl,ax⟩;have aK:Bw w w3:=qac aw ax;have gr:=dX.below ax dX.lt;clear k0 k1;have k0:=gr.cell 0;have k1:=gr.cell 1;have q0:=(aK.cell (p:=vA br 0) bR).trans dN;have q1:=(aK.cell (p:=vA g (i*6+1)) ct).trans aY;simp only[xq0,xq1,xq2]at k0 k1))
   exact xrn (v:=.tuple #[v0_,vI 6]) (by simp[results,results74,go_sem]) rfl ⟨rfl,by assumption⟩
 ·have ag:=fun W (hW:Bw w W)=>qxw (h.ref.below hW) E aH s hs
  have po:er=errF L (bl s):=by unfold q0h at he;rw[if_pos (by simpa using hF)]at he;exact he.symm
  have ag:∀W,Bw w W->Cl 117 #[vP br,.string s] W fun e w'=>e=.returned (.tuple #[vI 0,vI er])/\Bw W w':=fun W hW=>(ag W hW).mono fun e w' hp=>by
   obtain⟨hG,hb⟩:=hp
   rcases hG with ⟨_,h1⟩|⟨h1,_⟩
   ·rw[po];exact⟨h1,hb⟩
   ·exact absurd h1 hF
  have aW:(er != 0)=true:=by simp[h0]
  have dF:(er == 0)=false:=by simp[h0]
  clear h he po hF
  go_enter func74,ntmps74
  go_wp2_with (first
   |(go_at_call 117;refine(ag _ (by exact bel2)).mono ?_;rintro e w1 ⟨rfl,aa⟩;have aj:Bw w w1:=qac (by exact bel2) aa))
  exact xrn (v:=.tuple #[v0_,vI er]) (by simp[results,results74,go_sem]) rfl ⟨rfl,aj⟩
def setL (L:List Ent)(k:List Bs)(a b c d:Int):List Ent:=L.map fun e=>if e.key=k then e.qxh a b c d else e
theorem q0c:∀(L:List Ent) (i:Nat) (x:Ent) (a b c d:Int),(L.map (·.key)).Nodup->L[i]?=some x->L.set i (x.qxh a b c d)=setL L x.key a b c d
 | [],i,x,_,_,_,_,_,h=>by simp at h
 |y::l,0,x,a,b,c,d,hn,h=>by
  simp at h;subst h
  simp only[List.map_cons,List.nodup_cons,xrq,not_exists,not_and]at hn
  have:l.map (fun e=>if e.key=y.key then e.qxh a b c d else e)=l:=by
   conv=>rhs;rw[<-List.map_id l]
   exact List.map_congr_left fun e he=>by rw[if_neg (fun e2=>hn.1 e he e2)];rfl
  simp[setL,this]
 |y::l,i+1,x,a,b,c,d,hn,h=>by
  simp only[List.map_cons,List.nodup_cons,xrq,not_exists,not_and]at hn;have h':l[i]?=some x:=by simpa using h
  have ih:=q0c l i x a b c d hn.2 h';have aW:¬(y.key=x.key):=fun e=>hn.1 x (xr2 h') e.symm
  simp[setL,aW]at ih ⊢
  exact ih
theorem qxz:∀(L:List Ent) (i:Nat) (x:Ent) (a b:Int),L[i]?=some x->qdi (L.set i (x.qxh a b x.b0 x.b1))=((qdi L).set (i*6+2) (vI a)).set (i*6+3) (vI b)
 | [],i,x,_,_,h=>by simp at h
 |y::l,0,x,a,b,h=>by
  simp at h;subst h
  simp[qdi,qbs,Ent.qxh]
 |y::l,i+1,x,a,b,h=>by
  have ih:=qxz l i x a b (by simpa using h);simp only[xr7,qdi,List.flatMap_cons]at ih ⊢;rw[ih,List.set_append_right _ _ (by simp[qbs];omega),List.set_append_right _ _ (by simp[qbs];omega)];rw[show(i+1)*6+2-(qbs y).length=i*6+2 by simp[qbs];omega,show(i+1)*6+3-(qbs y).length=i*6+3 by simp[qbs];omega]
theorem qx0:∀(L:List Ent) (i:Nat) (x:Ent) (c d:Int),L[i]?=some x->qdi (L.set i (x.qxh x.n0 x.n1 c d))=((qdi L).set (i*6+4) (vI c)).set (i*6+5) (vI d)
 | [],i,x,_,_,h=>by simp at h
 |y::l,0,x,a,b,h=>by
  simp at h;subst h
  simp[qdi,qbs,Ent.qxh]
 |y::l,i+1,x,a,b,h=>by
  have ih:=qx0 l i x a b (by simpa using h);simp only[xr7,qdi,List.flatMap_cons]at ih ⊢;rw[ih,List.set_append_right _ _ (by simp[qbs];omega),List.set_append_right _ _ (by simp[qbs];omega)];rw[show(i+1)*6+4-(qbs y).length=i*6+4 by simp[qbs];omega,show(i+1)*6+5-(qbs y).length=i*6+5 by simp[qbs];omega]
theorem GRef.two{g:Nat}(h:GRef w br g cap L ao cW Ws cnt st){y:Ent}{u:Value}(hc:qdi (L.set i y)=((qdi L).set j u).set j2 v):
  GRef ((w.setCell (vA g j) u).setCell (vA g j2) v) br g cap (L.set i y) ao cW Ws cnt st:=by
 have aW:=h.ref.ne
 refine⟨⟨?_,?_⟩,?_,h.ne1⟩
 ·rw[List.length_set]
  exact(h.ref.at_.other _ _ aW).other _ _ aW
 ·rw[List.length_set,hc]
  exact((h.ref.row.stored j u).1.stored j2 v).1
 ·exact xrl (xrl h.wrow (fun e=>(h.ne1 _ e).2 rfl) _) (fun e=>(h.ne1 _ e).2 rfl) _
theorem GRef.drew{g:Nat}(h:GRef w br g cap L ao cW Ws cnt st):GRef w.drew br g cap L ao cW Ws cnt st:=h.below ((Below.refl _ _).drew)
theorem GRef.q1y{g:Nat}(h:GRef w br g cap L ao cW Ws cnt st)(hk:Keep T w w')(h1:¬T br)(h2:¬T g)(h3:∀b,(Value.slice ao Ws.length cW).ownBlock=some b->¬T b):GRef w' br g cap L ao cW Ws cnt st :=
 ⟨h.ref.keep hk h1 h2,qab h.wrow hk h3,h.ne1⟩
theorem qz5{b:Int}(h:qao a b=true):(0<=a/\a<=1000)/\(0<=b/\b<=1000):=by
 unfold qao at h
 have:=of_decide_eq_true h
 omega
theorem Ents.setL(E:Ents L)(EB:Bors L){b c:Int}(h1:qao a b=true)(h2:qao c d=true):Ents (setL L k a b c d)/\Bors (setL L k a b c d):=by
 have f1:=qz5 h1;have f2:=qz5 h2
 refine⟨⟨?_,?_,by unfold Go.Proofs.YtphclnolomgjoaaGreatDoor.setL;simpa using E.len,by unfold Go.Proofs.YtphclnolomgjoaaGreatDoor.setL;simpa using E.pos⟩,?_⟩
 ·intro e he;obtain⟨y,hy,rfl⟩:=xrq.1 he
  have:=E.ok y hy
  split
  ·exact this
  ·exact this
 ·intro e he;obtain⟨y,hy,rfl⟩:=xrq.1 he
  have:=E.num y hy
  split
  ·exact f1
  ·exact this
 ·intro e he;obtain⟨y,hy,rfl⟩:=xrq.1 he
  have:=EB y hy
  split
  ·exact f2
  ·exact this
def QuoG (br g:Nat)(o0:Option Nat)(L L':List Ent)(Ws:List Wk)(cnt st:Int)(w:World)(e:Ending)(w':World):Prop :=
 (qxf L' Ws=true/\e=.returned (.tuple #[v0_,vI 11])/\qdw w br g o0 L cnt ⟨Ws,st,[]⟩ v0_ w') \/
 (qxf L' Ws=false/\∃sl,e=.returned (.tuple #[sl,vI 0])/\qdw w br g o0 L' cnt (qaj L' ⟨Ws,st,[]⟩) sl w')
theorem qzm{g:Nat}(h:GRef w br g cap L ao cW Ws cnt st)(E:Ents L)(EB:Bors L)(df:(L.map (·.key)).Nodup)(aH:∀a∈L,∀b∈L,a.key=b.key->a=b)(I:SInv ⟨Ws,st,[]⟩)(bW:st<=900000000)(s:ByteArray)(hs:s.size<=2000000)(a b c d:Int){x:Ent}(hF:errF L (bl s)=0)(hx:qcv L (qaa (bl s))=some x)(f1:qao a b=true)(f2:qao c d=true)(Gc:x.leaf=false->a=0/\b=0):
  Cl 74 #[vP br,.string s,.agg #[vI a,vI b],.agg #[vI c,vI d]] w (QuoG br g (Value.slice ao Ws.length cW).ownBlock L (setL L (qaa (bl s)) a b c d) Ws cnt st w):=by
 have bR:=h.qii;have cr:=h.ref.qjv;have cP:=E.len;have b6:Blk ((w.alloc (.cells #[vI a,vI b] 35)).alloc (.cells #[vI c,vI d] 35)) w.heap.size 35 #[vI a,vI b]:=(Blk.new w 35 _).alloc _;have b7:Blk ((w.alloc (.cells #[vI a,vI b] 35)).alloc (.cells #[vI c,vI d] 35)) (w.heap.size+1) 35 #[vI c,vI d]:=Blk.new' (by simp);have ti:x.key=qaa (bl s):=by have:=List.find?_some hx;simpa using this
 have ag:=fun W (hW:Bw w W)=>qxv (h.ref.below hW) E aH s hs hF hx
 have dt:=fun W=>qcg a b W
 have dy:=fun W=>qcg c d W
 rw[f1]at dt;rw[f2]at dy;have dN:w.cell? (vA br 0)=some (vS g L.length cap):=by have:=h.ref.at_.cell 0;simpa using this
 have fu:∀i:Nat,L[i]?=some x->i<L.length/\w.cell? (vA g (i*6+1))=some (.bool x.leaf):=fun i hi=>⟨(xr0.1 hi).1,h.ref.ent hi (j:=1) rfl⟩
 have ct:g<w.heap.size:=(h.ref.row.lt g rfl).2;have oo:=fun W (hW:Bw w W)=>qya (h.below hW) E.len E.pos I.wks.wks.len
 obtain⟨n,hn⟩:∃n,n=L.length:=⟨_,rfl⟩;rw[<-hn]at dN cr cP fu;obtain⟨E2,tu⟩:=E.setL EB (k:=qaa (bl s)) f1 f2;have HS:∀i:Nat,L[i]?=some x->L.set i (x.qxh a b c d)=setL L (qaa (bl s)) a b c d:=fun i hi=>by rw[<-ti];exact q0c L i x a b c d df hi
 generalize setL L (qaa (bl s)) a b c d=L' at *;have HR:Hid (n=L.length):=hn;clear hF hx hn aH df f1 f2;have dH:x.leaf=true\/(x.leaf=false/\a=0/\b=0):=by
  cases hl:x.leaf
  ·exact .inr ⟨rfl,Gc hl⟩
  ·exact .inl rfl
 clear Gc;have dH:(x.leaf=true/\True)\/(x.leaf=false/\(a != 0)=false/\(a == 0)=true/\(b != 0)=false/\(b == 0)=true):=by
  rcases dH with e|⟨e,rfl,rfl⟩
  ·exact .inl ⟨e,trivial⟩
  ·exact .inr ⟨e,rfl,rfl,rfl,rfl⟩
 rcases dH with ⟨e3,_⟩|⟨e3,ea,Mw,eb,Mx⟩
 all_goals
  rw[e3]at fu;clear e3
  go_enter func74,ntmps74
  go_wp2_with (first
   |(go_at_call 117;refine(ag _ (by exact bel2)).mono ?_;rintro e w1 ⟨⟨i,rfl,hi⟩,aa⟩;have ey:=(fu i hi).1;have aY:=(fu i hi).2;have Dh:(i:Int)<n:=(by omega);have Dg:(0:Int)<=i:=(by omega);have aj:Bw w w1:=qac (by exact bel2) aa;have eG:=b6.below aa (by simp;omega);have fW:=b7.below aa (by simp);have k0:=eG.cell 0;have k1:=eG.cell 1;simp only[xq0,xq1,xq2]at k0 k1;clear ag fu)
   |(go_at_call 115;refine(dt _).mono ?_;clear dt;rintro e w2 ⟨rfl,af⟩;have aw:Bw w w2:=qac aj af;have dX:=eG.below af eG.lt;have eR:=fW.below af fW.lt;clear k0 k1;have k0:=eR.cell 0;have k1:=eR.cell 1;simp only[xq0,xq1,xq2]at k0 k1)
   |(go_at_call 115;refine(dy _).mono ?_;clear dy;rintro e w3 ⟨rfl,ax⟩;have aK:Bw w w3:=qac aw ax;have gr:=dX.below ax dX.lt;have eS:=eR.below ax eR.lt;clear k0 k1;have k0:=gr.cell 0;have k1:=gr.cell 1;have q0:=(aK.cell (p:=vA br 0) bR).trans dN;have q1:=(aK.cell (p:=vA g (i*6+1)) ct).trans aY;simp only[xq0,xq1,xq2]at k0 k1)
   |(go_at_call 119;refine(oo _ aK).mono ?_;rintro e w4 ⟨bu,g2,eD,jG,jH,rfl,mf,a_,n1,n2,n3⟩))
  have nA:=aK.size;have m1:w.heap.size<=bu:=by omega
  have m2:w.heap.size<=g2:=by omega
  have m3:∀b,(Value.slice jG Ws.length jH).ownBlock=some b->w.heap.size<=b:=fun b hb=>by have:=n3 b hb;omega
  have dU:Bw w w4:=qac aK a_;have m_:=h.below dU;have oH:=gr.below a_ gr.lt;have oI:=eS.below a_ eS.lt;have Mq:g≠w.heap.size:=by omega
  clear k0 k1 q0 q1 gr dX eG eS eR fW b6 b7 aa af ax a_ aj aw aK aY oo n1 n2 n3 nA;clear w3 w2 w1;have q0:=(dU.cell (p:=vA br 0) bR).trans dN;have q2:=m_.ref.ent hi (j:=2) rfl;have q3:w4.cell? (vA g (i*6+2+1))=some (vI x.n1):=m_.ref.ent hi (j:=3) rfl;have f3:w4.frozen? (vA g (i*6+2+1))=false:=m_.ref.row.frozenAt _;have f2:w4.frozen? (vA g (i*6+2))=false:=m_.ref.row.frozenAt _;have k0:=oH.cell 0;have k1:=oH.cell 1;simp only[xq0,xq1,xq2]at k0 k1;have HK:Hid (GRef w4 br g cap L ao cW Ws cnt st/\GRef w4 bu g2 eD L jG jH Ws cnt st/\Blk w4 (w.heap.size+1) 35 #[vI c,vI d]):=⟨m_,mf,oI⟩;clear m_ mf oI oH
  go_region
  all_goals
   obtain⟨m_,mf,oI⟩:=HK.out;clear HK q0 q2 q3 f2 f3 k0 k1;have wD:g<w4.heap.size:=by have:=dU.size;omega
   have fS:Keep (fun y=>y=g) w4 ((w4.setCell (vA g (i*6+2)) (vI a)).setCell (vA g (i*6+2+1)) (vI b)).drew:=(((Keep.refl (fun y=>y=g) _).setCell (p:=vA g (i*6+2)) rfl _).setCell (p:=vA g (i*6+2+1)) rfl _).drew;have j8:=(m_.two (qxz L i x a b hi)).drew;have jL:=mf.q1y fS (by omega) (by omega) (fun b hb=>by have:=m3 b hb;omega);have BH:=oI.keep fS (by omega);have Bq:(L.set i (x.qxh a b x.b0 x.b1))[i]?=some (x.qxh a b x.b0 x.b1):=by rw[List.getElem?_set_self];exact(xr0.1 hi).1
   have J3:(L.set i (x.qxh a b x.b0 x.b1)).length=n:=by rw[List.length_set];exact HR.out.symm
   have GW:(L.set i (x.qxh a b x.b0 x.b1)).set i ((x.qxh a b x.b0 x.b1).qxh (x.qxh a b x.b0 x.b1).n0 (x.qxh a b x.b0 x.b1).n1 c d)=L':=by rw[List.set_set];exact HS i hi
   clear m_ mf oI;generalize ((w4.setCell (vA g (i*6+2)) (vI a)).setCell (vA g (i*6+2+1)) (vI b)).drew=V5 at *;generalize x.qxh a b x.b0 x.b1=y at *;generalize L.set i y=L5 at *;have q0:=j8.ref.at_.cell 0;simp only[xq0,xq1,xq2]at q0;rw[J3]at q0;have q4:=j8.ref.ent Bq (j:=4) rfl;have q5:V5.cell? (vA g (i*6+4+1))=some (vI y.b1):=j8.ref.ent Bq (j:=5) rfl;have f4:V5.frozen? (vA g (i*6+4))=false:=j8.ref.row.frozenAt _;have f5:V5.frozen? (vA g (i*6+4+1))=false:=j8.ref.row.frozenAt _;have k0:=BH.cell 0;have k1:=BH.cell 1;simp only[xq0,xq1,xq2]at k0 k1;have HK:Hid (GRef V5 br g cap L5 ao cW Ws cnt st/\GRef V5 bu g2 eD L jG jH Ws cnt st):=⟨j8,jL⟩;clear j8 jL BH
   go_wp2
   go_region
   all_goals
    obtain⟨j8,jL⟩:=HK.out;clear HK q0 q4 q5 f4 f5 k0 k1;have rL:Keep (fun y=>y=g) V5 ((V5.setCell (vA g (i*6+4)) (vI c)).setCell (vA g (i*6+4+1)) (vI d)).drew:=(((Keep.refl (fun y=>y=g) _).setCell (p:=vA g (i*6+4)) rfl _).setCell (p:=vA g (i*6+4+1)) rfl _).drew;have sC:=(j8.two (qx0 L5 i y c d Bq)).drew;rw[GW]at sC;have xO:=jL.q1y rL (by omega) (by omega) (fun b hb=>by have:=m3 b hb;omega);generalize ((V5.setCell (vA g (i*6+4)) (vI c)).setCell (vA g (i*6+4+1)) (vI d)).drew=V6 at *;have ou:Keep (fun b=>b=br\/b=g\/(Value.slice ao Ws.length cW).ownBlock=some b) w V6:=((Keep.new dU).step fS (fun y _ e=>.inr (.inl e))).step rL (fun y _ e=>.inr (.inl e));have uy:Cl 120 #[vP br,vP bu] V6 fun e w'=>∃sl er,e=.returned (.tuple #[sl,vI er])/\Hid (QuoG br g (Value.slice ao Ws.length cW).ownBlock L L' Ws cnt st w (.returned (.tuple #[sl,vI er])) w'):=(qy2 sC E2 tu I bW xO (by omega) (by omega) (fun b hb=>by have:=m3 b hb;omega)).mono fun e w' hp=>by
     rcases hp with ⟨p1,p2,p3,p4⟩|⟨p1,sl,a3,c3,p2,p3⟩
     ·exact⟨_,_,p2,.inl ⟨p1,rfl,⟨g2,eD,jG,jH,p3,.inr m2,fun b hb=>⟨fun ak=>by have:=m3 b hb;omega,by simp[Value.ownBlock]⟩⟩,ou.step p4 (fun y _ e=>.inl e),xrk _ _ _ _,fun b hb=>by simp[Value.ownBlock]at hb⟩⟩
     ·exact⟨_,_,p2,.inr ⟨p1,sl,rfl,qdw.qn3 ou p3 (fun b hb _=>hb) (.inl rfl)⟩⟩
    clear j8 jL sC xO;generalize QuoG br g (Value.slice ao Ws.length cW).ownBlock L L' Ws cnt st w=Q at *
    go_wp2_with (first|(go_at_call 120;refine uy.mono ?_;rintro e w9 ⟨sl,er,rfl,HQ⟩))
    exact HQ.out
theorem qyc(T:Tree nodes)(R:Rel nodes Ws ws as_)(hW:Wks Ws):qxl nodes as_=if qxf (nodes.map Node.ent) Ws=true then 11 else 0:=by
 have key:∀n∈nodes,okQ nodes as_ n=!qyt (nodes.map Node.ent) Ws n.ent:=fun n hn=>by
  have hk:=(T.ok n hn).1;obtain⟨u0,u1⟩:=R.use hW hk;obtain⟨v0,v1⟩:=qb1 T hk;unfold okQ qyt sh0 sh1 abv;rw[u0,u1,v0,v1,Bool.eq_iff_iff]
  show(_&&_)=true↔(!(decide (ws0 (qae Ws (joinB n.key))+0>es0 (qaf (nodes.map Node.ent) (joinB n.key))+n.b0)||decide (ws1 (qae Ws (joinB n.key))+0>es1 (qaf (nodes.map Node.ent) (joinB n.key))+n.b1)))=true
  simp
  omega
 have e:nodes.all (okQ nodes as_)=!qxf (nodes.map Node.ent) Ws:=by
  unfold qxf;rw[List.any_map,List.not_any_eq_all_not];rw[Bool.eq_iff_iff,List.all_eq_true,List.all_eq_true]
  exact⟨fun h n hn=>by have:=h n hn;rw[key n hn]at this;simpa [Function.comp] using this,fun h n hn=>by have:=h n hn;rw[key n hn];simpa [Function.comp] using this⟩
 unfold qxl;rw[e]
 cases qxf (nodes.map Node.ent) Ws<;>rfl
theorem q1q(nodes:List Node)(k:List Bs)(a b c d:Int)(h:∀n∈nodes,n.key=k->n.leaf=false->n.n0=a/\n.n1=b):setL (nodes.map Node.ent) k a b c d=(setQ nodes k a b c d).map Node.ent:=by
 unfold setL setQ;rw[List.map_map,List.map_map]
 exact List.map_congr_left fun n hn=>by
  simp only[Function.comp]
  by_cases hk:n.key=k
  ·rw[if_pos (show n.ent.key=k from hk),if_pos hk]
   have:=h n hn hk
   cases hl:n.leaf
   ·obtain⟨e1,e2⟩:=this hl
    simp[Ent.qxh,Node.qxh,Node.ent,hl,e1,e2]
   ·simp[Ent.qxh,Node.qxh,Node.ent,hl]
  ·rw[if_neg (show ¬n.ent.key=k from hk),if_neg hk]
theorem qzt(nodes:List Node)(s:Bs)(ok:Bool)(a b:Int):q0h (nodes.map Node.ent) s ok a b=errQuo nodes s ok a b:=by
 unfold q0h errQuo errF;rw[qft]
 by_cases h1:qar s=false
 ·simp[h1]
 ·by_cases h2:s=[]
  ·rw[if_neg h1,if_pos h2,if_neg h1,if_pos h2];rfl
  ·cases h3:findKey nodes (qaa s) with
   |none=>simp[h1,h2]
   |some n=>simp[h1,h2,Node.ent]
section
variable {n₀ : Nat}{τ : Nat->Tag}{W:World}{bw:Nat}{ay:List Tw}{K t:Nat}{x:Tw}
theorem qbj.nodup(A:qbj K x):(x.L.map (·.key)).Nodup:=by
 rw[A.L,List.map_map];exact A.com.tree.nodup
theorem qzz(hK:K<=2000000)(h:St n₀ τ W bw ay (200*K))(hA:∀y∈ay,qbj K y)(hx:ay[t]?=some x)(s:ByteArray)(hs:s.size<=2000000)(a b c d:Int):
  qsb n₀ τ W bw ay.length K 29 #[vP x.bt,.string s,.agg #[vI a,vI b],.agg #[vI c,vI d]] 74 #[vP x.br,.string s,.agg #[vI a,vI b],.agg #[vI c,vI d]] mkk2:=by
 have A:=hA x (xr2 hx);have bW:x.st<=900000000:=by have:=A.stK;omega
 have p6:qb3 [(a,b),(c,d)]=(qao a b&&qao c d):=by simp[qb3]
 have jT:q0h x.L (bl s) (qao a b&&qao c d) a b=errQuo x.nodes (bl s) (qb3 [(a,b),(c,d)]) a b:=by rw[p6,A.L];exact qzt _ _ _ _ _
 have hp:=fun τ1 W1 (hP:qb6 τ1 t W1 x.bt x.nodes x.last x.vw x.va x.ws x.as_)=>q20 hP A s hs a b c d
 have T:=A.com.tree
 by_cases he:errQuo x.nodes (bl s) (qb3 [(a,b),(c,d)]) a b=0
 ·obtain⟨hv,cZ,n,hf,ec,fu⟩:=qx4 he;obtain⟨hn,dh⟩:=qbw hf;have cV:qao a b=true/\qao c d=true:=by simpa [qb3] using ec
  have hF:errF x.L (bl s)=0:=by unfold errF;rw[A.L,qft,hf];simp[hv,cZ]
  have nR:qcv x.L (qaa (bl s))=some n.ent:=by rw[A.L,qft,hf];rfl
  have hr:=fun W1 (hR:GRef W1 x.br x.g x.cap x.L x.ao x.cW x.Ws x.cnt x.st)=>qzm hR A.ents A.bors A.nodup A.einj A.inv bW s hs a b c d hF nR cV.1 cV.2 fu
  have IA:setL x.L (qaa (bl s)) a b c d=(setQ x.nodes n.key a b c d).map Node.ent:=by
   rw[A.L,dh]
   refine q1q _ _ _ _ _ _ (fun m hm hk hl=>?_)
   have:m=n:=T.inj m hm n hn (hk.trans dh.symm)
   subst this;obtain⟨e1,e2⟩:=fu hl
   have:=(T.num m hm).2.2.2.2 hl
   omega
  have eE:n.key≠[]:=by rw[dh];intro e;exact cZ (qxp e)
  have T':=T.setQ eE cV.1 cV.2;have sX:=qyc T' (A.com.rel.mapN (fun m _=>qxk n.key a b c d m)) A.inv.wks.wks;have ho:qx1 x (bl s) a b c d=if qxf ((setQ x.nodes n.key a b c d).map Node.ent) x.Ws=true then x.same 11 else qiu ((setQ x.nodes n.key a b c d).map Node.ent) x.cnt (qaj ((setQ x.nodes n.key a b c d).map Node.ent) ⟨x.Ws,x.st,[]⟩):=by
   unfold qx1;simp only[hf];rw[if_neg (by simpa using he),sX]
   cases qxf ((setQ x.nodes n.key a b c d).map Node.ent) x.Ws<;>simp
  rw[IA]at hr;rw[ho]at hp;generalize (setQ x.nodes n.key a b c d).map Node.ent=L' at *
  cases eJ:qxf L' x.Ws
  ·rw[eJ]at hp;simp only[Bool.false_eq_true,if_false]at hp;obtain⟨l1,l2,l3⟩:=qfk A L' A.inv (cnt:=x.cnt) (by have:=A.cntK;omega)
   refine qd0 hK h hA hx (o:=qiu L' x.cnt (qaj L' ⟨x.Ws,x.st,[]⟩)) l1 l2 l3 mkk2 0 hp (fun W1 hR=>(hr W1 hR).mono fun e w' hM=>?_)
   rcases hM with ⟨h1,_⟩|⟨_,sl,h1,h2⟩
   ·rw[eJ]at h1;cases h1
   ·exact⟨sl,h1,h2⟩
  ·rw[eJ]at hp;simp only[if_true]at hp;obtain⟨l1,l2,l3⟩:=qkk A 11
   refine qd0 hK h hA hx (o:=x.same 11) l1 l2 l3 mkk2 0 hp (fun W1 hR=>(hr W1 hR).mono fun e w' hM=>?_)
   rcases hM with ⟨_,h1,h2⟩|⟨h1,_⟩
   ·exact⟨_,h1,h2⟩
   ·rw[eJ]at h1;cases h1
 ·have ho:qx1 x (bl s) a b c d=x.same (errQuo x.nodes (bl s) (qb3 [(a,b),(c,d)]) a b):=by
   unfold qx1
   cases hf:findKey x.nodes (qaa (bl s)) with
   |none=>rfl
   |some n=>simp only;rw[if_pos he]
  rw[ho]at hp;have hr:=fun W1 (hR:GRef W1 x.br x.g x.cap x.L x.ao x.cW x.Ws x.cnt x.st)=>qzl hR A.ents A.einj s hs a b c d jT he
  generalize errQuo x.nodes (bl s) (qb3 [(a,b),(c,d)]) a b=err at *;obtain⟨l1,l2,l3⟩:=qkk A err
  exact qd0 hK h hA hx (o:=x.same err) l1 l2 l3 mkk2 0 hp (fun W1 hR=>(hr W1 hR).mono fun e w' hM=>⟨_,hM.1,qfx hR hM.2 err⟩)
end
def kidE (s:Bs)(e:Ent):Bool:=inB (joinB e.key) s&&!decide (joinB e.key=s)
def atW (s:Bs)(x:Wk):Bool:=decide (joinB x.key=s)
def qxs (L:List Ent)(Ws:List Wk)(s:Bs):Bool:=L.any (kidE s)||Ws.any (atW s)
theorem qz3{g:Nat}(h:GRef w br g cap L ao cW Ws cnt st)(E:Ents L)(EW:Wks Ws)(s:ByteArray)(hs:s.size<=2000000):
  Cl 118 #[vP br,.string s] w fun e w'=>e=.returned (.bool (qxs L Ws (bl s)))/\w'=w:=by
 have cP:=E.len;have jm:=EW.len;have cr:=h.ref.qjv;have nP:=qy1 h.wrow;obtain⟨n,hn⟩:∃n,n=L.length:=⟨_,rfl⟩;obtain⟨m,hm⟩:∃m,m=Ws.length:=⟨_,rfl⟩;have dL:w.cell? (vA br 0)=some (vS g n cap):=by have:=h.ref.at_.cell 0;rw[hn];simpa using this
 have de:w.cell? (vA br 1)=some (.slice ao m cW):=by have:=h.ref.at_.cell 1;rw[hm];simpa using this
 rw[<-hn]at cP cr;rw[<-hm]at jm nP;have HN:Hid (n=L.length/\m=Ws.length):=⟨hn,hm⟩;clear hn hm
 go_enter func118,ntmps118
 go_wp2
 go_loop [5,6] (fun i _=>∃k:Nat,k<=n/\i=vI k/\(L.take k).any (kidE (bl s))=false) (fun i _=>n-(intOf i).toNat)
 case atStart=>exact⟨0,Nat.zero_le _,rfl,by simp⟩
 case round =>
  obtain⟨k,hk,rfl,a8⟩:=hrel;have cO:Hid ((L.take k).any (kidE (bl s))=false):=a8;clear a8
  by_cases ak:k<n
  ·have aV:k<L.length:=by rw[<-HN.out.1];exact ak
   obtain⟨y,hy⟩:∃y,L[k]?=some y:=⟨_,xr1 aV⟩;have eU:=xr2 hy;have hT:L.take (k+1)=L.take k++[y]:=by
    rw[xrf aV];rw[xr1 aV]at hy;cases hy;rfl
   have eX:Hid ((L.take (k+1)).any (kidE (bl s))=kidE (bl s) y):=by
    show _=_
    rw[hT,List.any_append,cO.out];simp
   have a7:Hid (kidE (bl s) y=true->qxs L Ws (bl s)=true):=fun ht=>by
    show qxs L Ws (bl s)=true
    unfold qxs;rw[Bool.or_eq_true,xs0]
    exact .inl ⟨y,eU,ht⟩
   have hp:=h.ref.ent hy (j:=0) (v:=.string (sb (joinB y.key))) rfl;simp only[Nat.add_zero]at hp;have cH:=qk9 (sb (joinB y.key)) s w (E.small eU) hs;rw[qbi]at cH;have nN:((sb (joinB y.key)).toList == s.toList)=decide (joinB y.key=bl s):=by rw[qmj,qbi]
   have lZ:Hid (kidE (bl s) y=(inB (joinB y.key) (bl s)&&!decide (joinB y.key=bl s))):=rfl;clear hy eU hT cO;generalize kidE (bl s) y=tt at *;generalize inB (joinB y.key) (bl s)=i1 at *;generalize decide (joinB y.key=bl s)=i2 at *;have ej:(k:Int)<n:=by omega
   go_wp2_with fail
   refine cH.mono ?_
   rintro e w1 ⟨rfl,bX⟩
   subst bX
   cases i1<;>cases i2
   all_goals go_wp2
   all_goals first
    |(go_ret;exact⟨qa9 (a7.out (by rw[lZ.out];rfl)).symm,rfl⟩)
    |(go_round;(case rel=>exact⟨k+1,by omega,by go_num,by rw[eX.out,lZ.out];rfl⟩);(case measure=>simp[intOf];omega))
  ·have dz:L.take k=L:=xrd (by have:=HN.out.1;omega);have HL:Hid (L.any (kidE (bl s))=false):=by have:=cO.out;rw[dz]at this;exact this
   clear cO dz
   go_wp2
   go_loop [7] (fun i=>∃k:Nat,k<=m/\i=vI k/\(Ws.take k).any (atW (bl s))=false) (fun i=>m-(intOf i).toNat)
   case atStart=>exact⟨0,Nat.zero_le _,rfl,by simp⟩
   case round =>
    obtain⟨k,hk,rfl,a8⟩:=hrel;have cO:Hid ((Ws.take k).any (atW (bl s))=false):=a8;clear a8
    by_cases ak:k<m
    ·have aV:k<Ws.length:=by rw[<-HN.out.2];exact ak
     obtain⟨y,hy⟩:∃y,Ws[k]?=some y:=⟨_,xr1 aV⟩;have eU:=xr2 hy;have hT:Ws.take (k+1)=Ws.take k++[y]:=by
      rw[xrf aV];rw[xr1 aV]at hy;cases hy;rfl
     have eX:Hid ((Ws.take (k+1)).any (atW (bl s))=atW (bl s) y):=by
      show _=_
      rw[hT,List.any_append,cO.out];simp
     have a7:Hid (atW (bl s) y=true->qxs L Ws (bl s)=true):=fun ht=>by
      show qxs L Ws (bl s)=true
      unfold qxs;rw[Bool.or_eq_true,xs0,xs0]
      exact .inr ⟨y,eU,ht⟩
     obtain⟨b,rfl,dw,_,_,_,hp,_⟩:=h.wk hy;have nN:((sb (joinB y.key)).toList == s.toList)=atW (bl s) y:=by rw[qmj,qbi];rfl
     clear hy eU hT cO;generalize atW (bl s) y=tt at *;have ej:(k:Int)<m:=by omega
     cases tt
     ·go_wp2
      go_round
      case rel=>exact⟨k+1,by omega,by go_num,eX.out⟩
      case measure=>simp[intOf];omega
     ·go_wp2
      go_ret
      exact⟨qa9 (a7.out (by simp)).symm,rfl⟩
    ·go_wp2
     go_ret
     have dz:Ws.take k=Ws:=xrd (by have:=HN.out.2;omega);have h1:=cO.out;rw[dz]at h1
     exact⟨qa9 (show false=qxs L Ws (bl s) by unfold qxs;rw[HL.out,h1];rfl),rfl⟩
theorem q00(Ws:List Ent)(i:Nat):qdi (Ws.take i)=(qdi Ws).take (i*6):=by
 induction Ws generalizing i with
 |nil=>simp[qdi]
 |cons a l ih =>
  cases i with
  |zero=>simp[qdi]
  |succ i =>
   have:=ih i
   simp only[List.take_succ_cons,qdi,List.flatMap_cons]at this ⊢;rw[this,List.take_append,show(i+1)*6-(qbs a).length=i*6 by simp[qbs];omega,xrd (l:=qbs a) (by simp[qbs];omega)]
theorem q0y(Ws:List Ent)(i:Nat):qdi (Ws.drop i)=(qdi Ws).drop (i*6):=by
 induction Ws generalizing i with
 |nil=>simp[qdi]
 |cons a l ih =>
  cases i with
  |zero=>simp[qdi]
  |succ i =>
   have:=ih i
   simp only[List.drop_succ_cons,qdi,List.flatMap_cons]at this ⊢;rw[this,List.drop_append,show(i+1)*6-(qbs a).length=i*6 by simp[qbs];omega,List.drop_of_length_le (l:=qbs a) (by simp[qbs];omega),List.nil_append]
def delL (L:List Ent)(k:List Bs):List Ent:=L.filter fun e=>!decide (e.key=k)
theorem qzc:∀(L:List Ent) (i:Nat) (x:Ent),(L.map (·.key)).Nodup->L[i]?=some x->L.take i++L.drop (i+1)=delL L x.key
 | [],i,x,_,h=>by simp at h
 |y::l,0,x,hn,h=>by
  simp at h;subst h
  simp only[List.map_cons,List.nodup_cons,xrq,not_exists,not_and]at hn
  have:l.filter (fun e=>!decide (e.key=y.key))=l:=List.filter_eq_self.2 fun e he=>by simp;exact hn.1 e he
  simp[delL,this]
 |y::l,i+1,x,hn,h=>by
  simp only[List.map_cons,List.nodup_cons,xrq,not_exists,not_and]at hn;have h':l[i]?=some x:=by simpa using h
  have ih:=qzc l i x hn.2 h';have aW:¬(y.key=x.key):=fun e=>hn.1 x (xr2 h') e.symm
  simp[delL,aW]at ih ⊢
  exact ih
theorem GRef.putL{g:Nat}(h:GRef w br g cap L ao cW Ws cnt st)(hB:Bw w w3){k:Nat}(hk:L'.length=k)(hr:w3.ownsRow 0 163 6 (vS g2 k q2) k (qdi L'))(hn:w.heap.size<=g2):
  GRef (w3.setCell (vA br 0) (vS g2 k q2)) br g2 q2 L' ao cW Ws cnt st/\Keep (fun y=>y=br) w (w3.setCell (vA br 0) (vS g2 k q2)):=by
 have bR:=h.qii;subst hk
 refine⟨⟨⟨?_,?_⟩,?_,?_⟩,(Keep.new (T:=fun y=>y=br) hB).setCell (p:=vA br 0) rfl _⟩
 ·have h1:=(h.ref.at_.below hB bR).set 0 (vS g2 L'.length q2)
  simpa using h1
 ·exact xrl hr (fun e=>by simp[Value.ownBlock]at e;omega) _
 ·exact xrl (qab (T:=fun _=>False) h.wrow (Keep.new hB) (fun _ _ h=>h)) (fun e=>(h.ne1 _ e).1 rfl) _
 ·intro b hb
  have:=qal h.wrow hb
  exact⟨(h.ne1 b hb).1,by omega⟩
theorem qy8{g:Nat}(h:GRef w br g cap L ao cW Ws cnt st)(E:Ents L)(EW:Wks Ws)(aH:∀a∈L,∀b∈L,a.key=b.key->a=b)(s:ByteArray)(hs:s.size<=2000000)(he:(if errF L (bl s)≠0 then errF L (bl s) else if qxs L Ws (bl s)=true then 9 else 0)=er)(h0:er≠0):
  Cl 72 #[vP br,.string s] w fun e w'=>e=.returned (.tuple #[v0_,vI er])/\Bw w w':=by
 by_cases hF:errF L (bl s)=0
 ·rw[if_neg (by simpa using hF)]at he;have mn:qxs L Ws (bl s)=true:=by
   cases hb:qxs L Ws (bl s)
   ·rw[hb]at he;exact absurd he.symm h0
   ·rfl
  rw[if_pos mn]at he;subst he;have ag:=qxw h.ref E aH s hs;have ag:Cl 117 #[vP br,.string s] w fun e w'=>(∃i:Nat,e=.returned (.tuple #[vI i,vI 0]))/\Bw w w':=ag.mono fun e w' hp=>by
   obtain⟨hG,hb⟩:=hp
   rcases hG with ⟨h1,_⟩|⟨_,i,_,_,_,h1⟩
   ·exact absurd hF h1
   ·exact⟨⟨i,h1⟩,hb⟩
  have sJ:=fun W (hW:Bw w W)=>qz3 (h.below hW) E EW s hs
  rw[mn]at sJ;clear h hF
  go_enter func72,ntmps72
  go_wp2_with (first
   |(go_at_call 117;refine ag.mono ?_;rintro e w1 ⟨⟨i,rfl⟩,aa⟩)
   |(go_at_call 118;refine(sJ _ aa).mono ?_;rintro e w2 ⟨rfl,en⟩;subst en))
  exact xrn (v:=.tuple #[v0_,vI 9]) (by simp[results,results72,go_sem]) rfl ⟨rfl,aa⟩
 ·have ag:=qxw h.ref E aH s hs;rw[if_pos (by simpa using hF)]at he;have ag:Cl 117 #[vP br,.string s] w fun e w'=>e=.returned (.tuple #[vI 0,vI er])/\Bw w w':=ag.mono fun e w' hp=>by
   obtain⟨hG,hb⟩:=hp
   rcases hG with ⟨_,h1⟩|⟨h1,_⟩
   ·rw[<-he];exact⟨h1,hb⟩
   ·exact absurd h1 hF
  have aW:(er != 0)=true:=by simp[h0]
  have dF:(er == 0)=false:=by simp[h0]
  clear h he hF
  go_enter func72,ntmps72
  go_wp2_with (first
   |(go_at_call 117;refine ag.mono ?_;rintro e w1 ⟨rfl,aa⟩))
  exact xrn (v:=.tuple #[v0_,vI er]) (by simp[results,results72,go_sem]) rfl ⟨rfl,aa⟩
theorem qyx{W:World}{n:Nat}(h:W.ownsRow 0 e size v n xs):∃a c,v=.slice a n c:=by
 rcases h.2 with ⟨h1,h0⟩|⟨g,cap,aD,h1,_⟩
 ·rw[h0];exact⟨none,0,h1⟩
 ·exact⟨_,_,h1⟩
theorem has1{x:Pw}(hx:Blk w x.blk 105 x.cells)(hm:qan w m)(hn:qan w n)(hq:n.blk=x.q)(hb:w.cell? (vA bx 0)=some (nptr m.blk)):
  Cl 193 #[nptr x.blk,vP bx] w fun e w'=>e=.returned (.bool (x.q == m.blk))/\Bw w w':=by
 have kY:=fun W (hW:Bw w W)=>qut (hn.below hW) (hm.below hW)
 rw[hq]at kY;have vK:w.cell? (vA x.blk 1)=some (nptr x.q):=hx.cell 1;unfold nptr at hb vK ⊢;clear hx;generalize (x.q == m.blk)=bb at *
 go_enter func193,ntmps193
 go_wp2_with fail
 have yv:=kY w (Below.refl _ _);have yw:=kY w.drew (Below.refl _ _).drew
 go_region
 all_goals go_wp2
 all_goals go_ret
 all_goals exact⟨rfl,by exact bel2⟩
theorem q06(h:WRow w v l)(hl:l.length<=100)(hm:qan w m)(fu:∀p∈l,∃n,qan w n/\n.blk=p.q)(hb:w.cell? (vA bx 0)=some (nptr m.blk)):
  Cl 222 #[v,.func (.func 193) #[] #[vP bx]] w fun e w'=>(∃r:Int,e=.returned (vI r)/\decide (r >= 0)=l.any (fun p=>p.q == m.blk))/\Bw w w':=by
 have dr:=xrb w _ hb
 simp only at dr
 obtain⟨a0,dA,hv,dV,jf⟩:=h.form;have bh:=fun W (hW:Bw w W) i q (hi:l[i]?=some q)=>(show ∃g cap,v=vS g l.length cap/\g<W.heap.size/\l.length<=cap/\cap<=maxLen/\W.cell? (vA g i)=some (nptr q.blk) from by
  obtain⟨g,cap,h1,h2,h3,h4,h5⟩:=h.at_ hi
  exact⟨g,cap,h1,by have:=hW.size;omega,h3,h4,(hW.cell (p:=vA g i) h2).trans h5⟩)
 have jy:=fun W (hW:Bw w W) q (hq:q∈l)=>(show Cl 193 #[nptr q.blk,vP bx] W fun e w'=>e=.returned (.bool (q.q == m.blk))/\Bw W w' from by
  obtain⟨n,hn,e⟩:=fu q hq
  exact has1 ((h.works q hq).below hW (h.works q hq).lt) (hm.below hW) (hn.below hW) e ((hW.cell (p:=vA bx 0) dr).trans hb))
 obtain⟨n,hn⟩:∃n,n=l.length:=⟨_,rfl⟩;rw[<-hn]at hv bh hl dV;have HN:Hid (n=l.length):=hn;clear hn;subst hv
 go_enter func222,ntmps222
 go_wp2
 go_loopw [8] (fun i wr=>∃k:Nat,k<=n/\i=vI k/\Bw w wr/\(l.take k).any (fun p=>p.q == m.blk)=false) (fun i _=>n-(intOf i).toNat)
 case atStart=>exact⟨0,Nat.zero_le _,rfl,Below.refl _ _,by simp⟩
 case round =>
  obtain⟨k,hk,rfl,ae,a7⟩:=hrel;have kL:Hid ((l.take k).any (fun p=>p.q == m.blk)=false):=a7;clear a7
  by_cases ak:k<n
  ·have aV:k<l.length:=by rw[<-HN.out];exact ak
   obtain⟨q,hq⟩:∃q,l[k]?=some q:=⟨_,xr1 aV⟩;obtain⟨g,cap,he,ct,de,jc,hc⟩:=bh _ ae k q hq;injection he with e1 _ e3;subst e1 e3;have lV:=xr2 hq;have hw:=jy _ ae q lV;have hT:l.take (k+1)=l.take k++[q]:=by
    rw[xrf aV];rw[xr1 aV]at hq;cases hq;rfl
   have eX:Hid ((l.take (k+1)).any (fun p=>p.q == m.blk)=(q.q == m.blk)):=by
    show _=_
    rw[hT,List.any_append,kL.out];simp
   have Ej:Hid ((q.q == m.blk)=true->l.any (fun p=>p.q == m.blk)=true):=fun ht=>by
    show _=true
    rw[xs0]
    exact⟨q,lV,ht⟩
   have nr:(k:Int)<n:=by omega
   have f_:(0:Int)<=k:=by omega
   unfold nptr at hc hw;clear hq bh jy lV hT;generalize (q.q == m.blk)=bb at *
   cases bb
   ·go_wp2_with (go_at_call 193;refine hw.mono ?_;rintro e w1 ⟨rfl,aa⟩;have aj:Bw w w1:=qac ae aa)
    exact⟨⟨k+1,by omega,by go_num,aj,eX.out⟩,by simp[intOf];omega⟩
   ·go_wp2_with (go_at_call 193;refine hw.mono ?_;rintro e w1 ⟨rfl,aa⟩;have aj:Bw w w1:=qac ae aa)
    go_ret
    exact⟨⟨(k:Int),rfl,by rw[Ej.out (by simp)];simp⟩,aj⟩
  ·have dz:l.take k=l:=xrd (by have:=HN.out;omega);have h1:Hid (l.any (fun p=>p.q == m.blk)=false):=by have:=kL.out;rw[dz]at this;exact this
   go_wp2
   go_ret
   exact⟨⟨-1,rfl,by rw[h1.out];rfl⟩,ae⟩
theorem qye(h:WRow w v l)(hl:l.length<=100)(hm:qan w m)(fu:∀p∈l,∃n,qan w n/\n.blk=p.q)(hb:w.cell? (vA bx 0)=some (nptr m.blk)):
  Cl 194 #[v,.func (.func 193) #[] #[vP bx]] w fun e w'=>e=.returned (.bool (l.any (fun p=>p.q == m.blk)))/\Bw w w':=by
 have hi:=q06 h hl hm fu hb;obtain⟨a0,dA,rfl,dV,jf⟩:=h.form;generalize l.any (fun p=>p.q == m.blk)=bb at *;clear h fu
 go_enter func194,ntmps194
 go_wp2_with (go_at_call 222;refine hi.mono ?_;rintro e w1 ⟨⟨r,rfl,hr⟩,aa⟩)
 go_ret
 exact⟨by rw[<-hr];rfl,aa⟩
theorem q1x{lst:Value}(h:TwAt w nodes bt r lst vw va ws as_)(hm:m∈nodes):
  Cl 145 #[.pointer (some (vA bt 1)),vP m.blk] w fun e w'=>e=.returned (.bool ((ws++as_).any (fun p=>p.q == m.blk)))/\Bw w w':=by
 have dx:=h.bk.at_.lt;have an:=h.bk.len;have nP:=fun W (hW:Bw w W) bx (hb:W.cell? (vA bx 0)=some (nptr m.blk))=>qye (w:=W) (v:=vw) (l:=ws) ⟨qab (T:=fun _=>False) h.bk.wrow (Keep.new hW) (fun _ _ e=>e),fun p hp=>(h.bk.works p (xr9 _ hp)).below hW (h.bk.works p (xr9 _ hp)).lt⟩ (by omega) ((h.ins m hm).below hW) (fun p hp=>by
  obtain⟨n,hn,e,_⟩:=h.lf p (xr9 _ hp)
  exact⟨n,(h.ins n hn).below hW,e⟩) hb
 have uj:=fun W (hW:Bw w W) bx (hb:W.cell? (vA bx 0)=some (nptr m.blk))=>qye (w:=W) (v:=va) (l:=as_) ⟨qab (T:=fun _=>False) h.bk.arow (Keep.new hW) (fun _ _ e=>e),fun p hp=>(h.bk.works p (xra _ hp)).below hW (h.bk.works p (xra _ hp)).lt⟩ (by omega) ((h.ins m hm).below hW) (fun p hp=>by
  obtain⟨n,hn,e,_⟩:=h.lf p (xra _ hp)
  exact⟨n,(h.ins n hn).below hW,e⟩) hb
 have c2:w.cell? (vA bt 2)=some vw:=h.bk.at_.cell 2;have c3:w.cell? (vA bt 3)=some va:=h.bk.at_.cell 3;obtain⟨a1,q1,ox⟩:=qyx h.bk.wrow;obtain⟨a2,q2,zB⟩:=qyx h.bk.arow;rw[List.any_append];rw[ox]at c2 nP;rw[zB]at c3 uj;generalize ws.any (fun p=>p.q == m.blk)=x1 at *;generalize as_.any (fun p=>p.q == m.blk)=x2 at *;generalize ws.length=n1 at *;generalize as_.length=n2 at *;have b3:Blk (w.alloc (.cells #[vP m.blk] 97)) w.heap.size 97 #[vP m.blk]:=Blk.new w 97 _;unfold nptr at nP uj;generalize m.blk=mb at *;clear h ox zB
 cases x1
 ·go_enter func145,ntmps145
  go_wp2_with (first
   |(go_at_call 194;refine(nP _ (by exact bel2) w.heap.size (Blk.cell (by exact blk2) 0)).mono ?_;clear nP;rintro e w1 ⟨rfl,aa⟩;have aj:Bw w w1:=qac (by exact bel2) aa;have d3:=(aj.cell (p:=vA bt 3) dx).trans c3;have j0:=b3.below aa b3.lt)
   |(go_at_call 194;refine(uj _ aj w.heap.size (j0.cell 0)).mono ?_;rintro e w2 ⟨rfl,af⟩;have aw:Bw w w2:=qac aj af))
  go_ret
  exact⟨rfl,aw⟩
 ·go_enter func145,ntmps145
  go_wp2_with (first
   |(go_at_call 194;refine(nP _ (by exact bel2) w.heap.size (Blk.cell (by exact blk2) 0)).mono ?_;clear nP;rintro e w1 ⟨rfl,aa⟩;have aj:Bw w w1:=qac (by exact bel2) aa))
  go_ret
  exact⟨rfl,aj⟩
def errRem(nodes:List Node)(l:List Pw)(s:Bs):Int :=
 if qar s=false then 1 else if s=[] then 2 else match findKey nodes (qaa s) with
 |none=>3
 |some n=>if (!(n.kids.length == 0)||l.any (fun p=>p.q == n.blk))=true then 9 else 0
theorem qy4(T:Tree nodes){p:Node}(hp:p∈nodes):p.kids.length<=1000:=by
 obtain⟨ks,hk,hm,hs⟩:=T.kids p hp;have aF:(ks.map (·.key)).Nodup:=by
  have:(ks.map fun k=>qbv k.key).Nodup:=hs.imp (fun {a b} h e=>by subst e;rw[show cmpB a a=0 from qei a]at h;omega)
  rw[show(ks.map fun k=>qbv k.key)=(ks.map (·.key)).map qbv by simp]at this
  exact qcc this
 have h1:∀x∈ks.map (·.key),x∈nodes.map (·.key):=by
  intro k dz;obtain⟨n,ez,rfl⟩:=xrq.1 dz
  exact xrq.2 ⟨n,((hm n).1 ez).1,rfl⟩
 have h2:=qdg aF h1;have h3:=T.len;rw[hk]
 simp at h2 ⊢;omega
theorem qxr(T0:Tree nodes){lst:Value}(h:TwAt w nodes bt r lst vw va ws as_)(hr:r∈nodes)(bK:r.key=[])(s:ByteArray)(hs:s.size<=2000000):
  Cl 96 #[vP bt,.string s] w fun e w'=>e=.returned (vI (errRem nodes (ws++as_) (bl s)))/\Bw w w':=by
 have aJ:=fun W=>qhr s hs W
 rw[qs3]at aJ;have dx:=h.bk.at_.lt;have cI:∀W,Bw w W->W.cell? (vA bt 0)=some (nptr r.blk):=fun W (hW:Bw w W)=>(h.below hW).bk.at_.cell 0
 have ag:=fun W (hW:Bw w W) v hv=>qfh T0 hr bK s hs W (h.below hW).ins v hv
 have kX:=fun n (hn:n∈nodes) W (hW:Bw w W)=>q0g ((h.below hW).ins n hn) (qy4 T0 hn)
 have lh:=fun n (hn:n∈nodes) W (hW:Bw w W)=>q1x (h.below hW) hn
 unfold nptr at cI;unfold errRem
 cases hv:qar (bl s)
 ·rw[hv]at aJ;simp only[if_true]at aJ ⊢;clear ag cI kX lh
  go_enter func96,ntmps96
  go_wp2_with (go_at_call 132;refine(aJ _).mono ?_;rintro e w1 ⟨rfl,aa⟩)
  refine xrn (v:=vI 1) (by simp[results,results96,go_sem]) rfl ⟨rfl,?_⟩
  exact qac (by exact bel2) aa
 rw[hv]at aJ;simp only[Bool.true_eq_false,if_false]at aJ ⊢
 by_cases h0:bl s=[]
 ·have hz:s=⟨#[]⟩:=qer (h0.trans qh4.symm);simp only[h0,if_true]at aJ ⊢;clear ag cI kX lh;subst hz
  go_enter func96,ntmps96
  go_wp2_with (go_at_call 132;refine(aJ _).mono ?_;rintro e w1 ⟨rfl,aa⟩)
  refine xrn (v:=vI 2) (by simp[results,results96,go_sem]) rfl ⟨rfl,?_⟩
  exact qac (by exact bel2) aa
 simp only[h0,if_false]at aJ ⊢
 cases hf:findKey nodes (qaa (bl s)) with
 |none =>
  rw[hf]at ag;clear hf kX lh;unfold nptr at ag
  go_enter func96,ntmps96
  go_wp2_with (first
   |(go_at_call 132;refine(aJ _).mono ?_;rintro e w1 ⟨rfl,aa⟩;have aj:Bw w w1:=qac (by exact bel2) aa;have j_:=cI w1 aj)
   |(go_at_call 63;refine(ag _ aj (.pointer none) rfl).mono ?_;rintro e w2 ⟨rfl,af⟩;have aw:Bw w w2:=qac aj af))
  refine xrn (v:=vI 3) (by simp[results,results96,go_sem]) rfl ⟨rfl,?_⟩
  exact aw
 |some n =>
  obtain⟨hn,dh⟩:=qbw hf;rw[hf]at ag
  replace kX:=kX n hn
  replace lh:=lh n hn
  clear hf;simp only[nptr]at ag
  dsimp only
  generalize (n.kids.length == 0)=k0 at *;generalize (ws++as_).any (fun p=>p.q == n.blk)=x0 at *;clear h
  cases k0
  ·simp only[Bool.not_false,Bool.true_or,if_true];clear lh
   go_enter func96,ntmps96
   go_wp2_with (first
    |(go_at_call 132;refine(aJ _).mono ?_;rintro e w1 ⟨rfl,aa⟩;have aj:Bw w w1:=qac (by exact bel2) aa;have j_:=cI w1 aj)
    |(go_at_call 63;refine(ag _ aj (vP n.blk) rfl).mono ?_;rintro e w2 ⟨rfl,af⟩;have aw:Bw w w2:=qac aj af)
    |(go_at_call 144;refine(kX _ aw).mono ?_;rintro e w3 ⟨rfl,ig⟩;subst ig))
   refine xrn (v:=vI 9) (by simp[results,results96,go_sem]) rfl ⟨rfl,?_⟩
   exact aw
  ·simp only[Bool.not_true,Bool.false_or]
   cases x0
   ·simp only[Bool.false_eq_true,if_false]
    go_enter func96,ntmps96
    go_wp2_with (first
     |(go_at_call 132;refine(aJ _).mono ?_;rintro e w1 ⟨rfl,aa⟩;have aj:Bw w w1:=qac (by exact bel2) aa;have j_:=cI w1 aj)
     |(go_at_call 63;refine(ag _ aj (vP n.blk) rfl).mono ?_;rintro e w2 ⟨rfl,af⟩;have aw:Bw w w2:=qac aj af)
     |(go_at_call 144;refine(kX _ aw).mono ?_;rintro e w3 ⟨rfl,ig⟩;subst ig)
     |(go_at_call 145;refine(lh _ aw).mono ?_;rintro e w4 ⟨rfl,a_⟩;have dU:Bw w w4:=qac aw a_))
    refine xrn (v:=vI 0) (by simp[results,results96,go_sem]) rfl ⟨rfl,?_⟩
    exact dU
   ·simp only[if_true]
    go_enter func96,ntmps96
    go_wp2_with (first
     |(go_at_call 132;refine(aJ _).mono ?_;rintro e w1 ⟨rfl,aa⟩;have aj:Bw w w1:=qac (by exact bel2) aa;have j_:=cI w1 aj)
     |(go_at_call 63;refine(ag _ aj (vP n.blk) rfl).mono ?_;rintro e w2 ⟨rfl,af⟩;have aw:Bw w w2:=qac aj af)
     |(go_at_call 144;refine(kX _ aw).mono ?_;rintro e w3 ⟨rfl,ig⟩;subst ig)
     |(go_at_call 145;refine(lh _ aw).mono ?_;rintro e w4 ⟨rfl,a_⟩;have dU:Bw w w4:=qac aw a_))
    refine xrn (v:=vI 9) (by simp[results,results96,go_sem]) rfl ⟨rfl,?_⟩
    exact dU
end Go.Proofs.YtphclnolomgjoaaGreatDoor
