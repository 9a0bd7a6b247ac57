import Derived.Test.YtphclnolomgjoaaGreatDoorE26
set_option linter.unusedVariables false
set_option linter.unusedSimpArgs false
set_option maxRecDepth 100000
set_option maxHeartbeats 4000000
namespace Go.Proofs.YtphclnolomgjoaaGreatDoor
open Go.Proofs.Tryz
section
open Go.RowKit
variable {N i:Nat}{u v:Value}
theorem iz:∀(a b:Bs),yn a b<0->Op.bytesLess a b=true
 | [],[],h=>by simp[yn,Lib.compareBytes]at h
 | [],b::c,_=>rfl
 |a::zh,[],h=>by simp[yn,Lib.compareBytes]at h
 |a::zh,b::c,h=>by
  have h:Lib.compareBytes (a::zh) (b::c)<0:=h;rw[Zy]at h;rw[cO]
  by_cases d:a<b
  ·exact .inl d
  ·rw[if_neg d]at h
   by_cases e:b<a
   ·rw[if_pos e]at h;omega
   ·rw[if_neg e]at h;have f:¬a.toNat<b.toNat:=d;have g:¬b.toNat<a.toNat:=e
    exact .inr ⟨o_,iz zh c h⟩
theorem pR{a b c:Bs}(d:Op.bytesLess a b=true)(e:Op.bytesLess b c=true):Op.bytesLess a c=true:=by
 cases h:Op.bytesLess a c
 ·have:=ZU a c b h (YZ b c e)
  rw[d]at this;cases this
 ·rfl
theorem fI:∀(a b:List Bs),Vp a b=true->Vp b a=false
 | [],[],h=>by simp[Vp]at h
 | [],_::_,_=>rfl
 |_::_,[],h=>by simp[Vp]at h
 |x::a,y::b,h=>by
  simp only[Vp]at h ⊢
  by_cases e:x=y
  ·rw[if_pos e]at h;rw[if_pos e.symm];exact fI a b h
  ·rw[if_neg e]at h;rw[if_neg (fun c=>e c.symm)];exact YZ _ _ h
theorem fQ:∀(a b:List Bs),a≠b->Vp a b=false->Vp b a=true
 | [],[],h,_=>absurd rfl h
 | [],_::_,_,h=>by simp[Vp]at h
 |_::_,[],_,_=>rfl
 |x::a,y::b,f,h=>by
  simp only[Vp]at h ⊢
  by_cases e:x=y
  ·rw[if_pos e]at h;rw[if_pos e.symm];exact fQ a b (fun c=>f (by rw[e,c])) h
  ·rw[if_neg e]at h;rw[if_neg (fun c=>e c.symm)]
   cases d:Op.bytesLess y x
   ·exact absurd (dx _ _ h d) e
   ·rfl
theorem fR:∀(a b c:List Bs),Vp a b=true->Vp b c=true->Vp a c=true
 | [],[],_,h,_=>by simp[Vp]at h
 |_::_,[],_,h,_=>by simp[Vp]at h
 |_,_::_,[],_,h=>by simp[Vp]at h
 | [],_::_,_::_,_,_=>rfl
 |x::a,y::b,z::c,g,f=>by
  simp only[Vp]at g f ⊢
  by_cases i:x=y
  ·rw[if_pos i]at g
   by_cases d:y=z
   ·rw[if_pos d]at f;rw[if_pos (i.trans d)];exact fR a b c g f
   ·rw[if_neg d]at f;rw[if_neg (fun e=>d (i ▸ e)),i];exact f
  ·rw[if_neg i]at g
   by_cases d:y=z
   ·rw[if_neg (fun e=>i (e.trans d.symm)),<- d];exact g
   ·rw[if_neg d]at f;rw[if_neg (fun e=>by subst e;have:=YZ _ _ g;rw[f]at this;cases this)]
    exact pR g f
theorem hG{α : Type _}{r : α -> α -> Prop}(d:∀a b,r a b->¬r b a):∀(l m:List α),l.Pairwise r->m.Pairwise r->l.Perm m->l=m
 | [],m,_,_,h=>(List.nil_perm.1 h).symm ▸ rfl
 |a::l,[],_,_,h=>by have:=h.length_eq;simp at this
 |a::l,b::m,k,n,h=>by
  obtain⟨f,g⟩:=List.pairwise_cons.1 k;obtain⟨h3,i⟩:=List.pairwise_cons.1 n;have e:a=b:=by
   have j:a∈b::m:=h.subset s_;have hb:b∈a::l:=h.symm.subset s_
   rcases List.mem_cons.1 j with e|e
   ·exact e
   ·rcases List.mem_cons.1 hb with c|c
    ·exact c.symm
    ·exact absurd (h3 a e) (d _ _ (f b c))
  subst e;rw[hG d l m g i (List.Perm.cons_inv h)]
theorem pn{za:List zc}(T:zr za){ch:zc->List zc}(K:xy za ch):∀(f:Nat) (n:zc),n∈za->4<=n.zb.length+f->(dfs ch f n).Pairwise fun a b=>Vp a.zb b.zb=true:=by
 intro f
 induction f with
 |zero=>intro n _ _;simp[dfs]
 |succ f w =>
  intro n r B;have k:∀c∈ch n,c∈za/\∃x,c.zb=n.zb++[x]:=fun c g=>(K.mem n r c).1 g
  have hb:∀c∈ch n,∀m∈dfs ch f c,∃x tl,mN c.zb=x/\m.zb=n.zb++x::tl:=fun c g m h=>by
   obtain⟨l,x,i⟩:=k c g;obtain⟨_,tl,ht⟩:=(ag T K f c l (by rw[i];simp;omega) m).1 h
   exact⟨x,tl,by rw[i,Wm],by rw[<-ht,i];simp⟩
  have j:=K.sort n r
  show(n::(ch n).flatMap (dfs ch f)).Pairwise _
  refine List.pairwise_cons.2 ⟨fun m h=>?_,?_⟩
  ·obtain⟨c,g,h⟩:=List.mem_flatMap.1 h;obtain⟨x,tl,_,e⟩:=hb c g m h;rw[e]
   have:=a8 n.zb [] (x::tl)
   rw[List.append_nil]at this;rw[this];rfl
  ·generalize ch n=q at k hb j
   induction q with
   |nil=>simp
   |cons c q ih2 =>
    rw[List.flatMap_cons];obtain⟨l,x,i⟩:=k c s_;simp only[List.map_cons,List.pairwise_cons]at j
    refine YV.2 ⟨w c l (by rw[i];simp;omega),ih2 (fun d hd=>k d (by simp[hd])) (fun d hd=>hb d (by simp[hd])) j.2,fun a v b s=>?_⟩
    obtain⟨d,hd,A⟩:=List.mem_flatMap.1 s;obtain⟨o,C,t,y⟩:=hb c s_ a v;obtain⟨E,D,u,z⟩:=hb d (by simp[hd]) b A;have p:=j.1 (mN d.zb) (VF hd);rw[t,u]at p;rw[y,z,hU _ _ _ (fun e=>by subst e;have:yn o o=0:=XL o;omega)]
    exact iz _ _ p
theorem fY{L:List zx}(c:(L.map (·.zb)).Nodup):∀k,k<=L.length->(VM L k).Pairwise fun i j=>Vp (Xg L i) (Xg L j)=true
 |0,_=>by simp[VM]
 |k+1,v=>by
  have f:=fY c k o_;rw[a5];unfold insO;have q:=List.takeWhile_append_dropWhile (p:=V0 L k) (l:=VM L k);have n:∀j∈VM L k,Xg L j≠Xg L k:=fun j a e=>by
   have u:=bL a;unfold Xg at e;rw[Ur (show j<L.length by omega),Ur (show k<L.length by omega)]at e
   simp only at e
   have:=(List.getElem_inj (i:=j) (j:=k) (xs:=L.map (·.zb)) (h₀ := by simp;omega) (h₁ := by simp;omega) c).1 (j_ e)
   omega
  rw[<-q]at f;obtain⟨s,s2,t⟩:=YV.1 f;have h:∀j∈(VM L k).dropWhile (V0 L k),Vp (Xg L k) (Xg L j)=true:=by
   have b:∀j∈(VM L k).dropWhile (V0 L k),j∈VM L k:=fun j a=>(List.dropWhile_suffix _).subset a
   cases hd:(VM L k).dropWhile (V0 L k) with
   |nil=>intro j a;cases a
   |cons y m =>
    rw[hd]at s2 b;have o:V0 L k y=false:=by
     have:=List.head_dropWhile_not (p:=V0 L k) (l:=VM L k) (by rw[hd];simp)
     simpa [hd] using this
    have g:Vp (Xg L k) (Xg L y)=true:=fQ _ _ (n y (b y s_)) o;intro j a
    rcases List.mem_cons.1 a with rfl|a
    ·exact g
    ·exact fR _ _ _ g ((List.pairwise_cons.1 s2).1 j a)
  refine YV.2 ⟨s,List.pairwise_cons.2 ⟨h,s2⟩,fun i d j a=>?_⟩
  have r:V0 L k i=true:=by
   have:=List.all_takeWhile (p:=V0 L k) (l:=VM L k)
   exact List.all_eq_true.1 this i d
  rcases List.mem_cons.1 a with rfl|a
  ·exact r
  ·exact t i d j a
theorem gB{L:List zx}:∀(l:List Nat),(l.Pairwise fun i j=>Vp (Xg L i) (Xg L j)=true)->(xk L l).Pairwise fun a b=>Vp a.zb b.zb=true
 | [],_=>by simp[xk]
 |i::l,h=>by
  obtain⟨e,f⟩:=List.pairwise_cons.1 h;have d:=gB l f;unfold xk at d ⊢;rw[List.filterMap_cons]
  cases g:L[i]? with
  |none=>exact d
  |some x =>
   refine List.pairwise_cons.2 ⟨fun y c=>?_,d⟩
   obtain⟨j,k,c⟩:=List.mem_filterMap.1 c
   have:=e j k
   unfold Xg at this;rw[g,c]at this
   exact this
theorem p1(L:List zx):xk L (List.range L.length)=L:=by
 have:∀k,k<=L.length->xk L (List.range k)=L.take k:=by
  intro k
  induction k with
  |zero=>intro _;simp[xk]
  |succ k a =>
   intro b;have a:=a o_;unfold xk at a ⊢;rw[List.range_succ,List.filterMap_append,a,VT o_]
   simp[Ur (show k<L.length by omega)]
 rw[this _ (Nat.le_refl _),List.take_length]
theorem ow{za:List zc}(T:zr za){ch:zc->List zc}(K:xy za ch){r:zc}(e:r∈za)(f:r.zb=[]):
  xk (za.map zc.zq) (VM (za.map zc.zq) (za.map zc.zq).length)=(dfs ch 4 r).map zc.zq:=by
 refine hG (r:=fun a b=>Vp a.zb b.zb=true) (fun a b h d=>by rw[fI _ _ h]at d;cases d) _ _ (gB _ (fY (by rw[List.map_map];exact T.nodup) _ (Nat.le_refl _))) ?_ ?_
 ·rw[List.pairwise_map];exact pn T K 4 r e o_
 ·have c:(xk (za.map zc.zq) (VM (za.map zc.zq) (za.map zc.zq).length)).Perm (xk (za.map zc.zq) (List.range (za.map zc.zq).length)):=(a4 _ _).filterMap _;rw[p1]at c
  exact c.trans ((cP T K e f).map _).symm
theorem e6:∀(l:List (List Value)) (i k:Nat) (x:List Value),(∀y∈l,y.length=9)->l[i]?=some x->k<9->l.flatten[i*9+k]?=x[k]?
 | [],i,k,x,_,h,_=>by simp at h
 |y::l,0,k,x,a,h,b=>by
  simp at h;subst h
  have:=a y s_
  rw[List.flatten_cons,Wu o_]
  simp
 |y::l,i+1,k,x,a,h,b=>by
  have e:=a y s_;have d:=e6 l i k x (fun z c=>a z (by simp[c])) (j_ h) b;rw[List.flatten_cons,Wp o_,show(i+1)*9+k-y.length=i*9+k by omega]
  exact d
theorem lr{α : Type}{f : α -> Value->List Value}:∀(l:List α) (vs:List Value) (i:Nat) (a : α) (u:Value),l[i]?=some a->vs[i]?=some u->(List.zipWith f l vs)[i]?=some (f a u):=fun l vs i a u b c=>by
 rw[List.getElem?_zipWith,b,c]
theorem iS{α : Type}{f : α -> Value->List Value}(b:∀a u,(f a u).length=9):∀(l:List α) (vs:List Value),∀y∈List.zipWith f l vs,y.length=9
 | [],_,y,h=>by simp at h
 |_::_,[],y,h=>by simp at h
 |a::l,u::vs,y,h=>by
  rcases List.mem_cons.1 h with rfl|h
  ·exact b _ _
  ·exact iS b l vs y h
theorem fj{α : Type}{f : α -> Value->List Value}(b:∀a u,(f a u).length=9){l:List α}{vs:List Value}{k:Nat}{a : α}(c:l[i]?=some a)(d:vs[i]?=some u)(h3:(f a u)[k]?=some v):(List.zipWith f l vs).flatten[i*9+k]?=some v:=by
 have e:k<9:=by have:=(Uy.1 h3).1;rw[b]at this;exact this
 rw[e6 _ i k _ (iS b l vs) (lr l vs i a u c d) e,h3]
def QC.nil:QC:=⟨⟨#[]⟩,false,0,0,0,0,0,0,none,0,0⟩
theorem jo{P:Nat->QC->Prop}(h:∀i,i<N->∃q,P i q):∃f:Nat->QC,∀i,i<N->P i (f i):=by
 have:∀i,∃q,i<N->P i q:=fun i=>by
  by_cases a:i<N
  ·obtain⟨q,hq⟩:=h i a;exact⟨q,fun _=>hq⟩
  ·exact⟨QC.nil,fun e=>absurd e a⟩
 exact⟨fun i=>Classical.choose (this i),fun i a=>Classical.choose_spec (this i) a⟩
section
variable {l:Nat}{τ : Nat->yd}{W:World}{bw:Nat}{g:List Tw}{K t:Nat}{x:Tw}
theorem oR(qc:K<=1999999)(h:St l τ W bw g (200*K))(Ua:∀y∈g,US K y)(oa:g[t]?=some x)(s s2:ByteArray)(Bb:s.size<=2000000)(bb T a0 a1 c0 c1 nm:Int)(rb : -9223372036854775808<=nm)(pb:nm<=9223372036854775807)(w:World)(hb:Bw W w):
  Calls prog 128 #[vP bw,.agg #[vP x.bt,vP x.br],.agg #[vI bb,vI T,vG s,vG s2,vI a0,vI a1,vI c0,vI c1,vI nm]] w (VI l τ W bw g.length (K+1)):=by
 have A:=Ua x (Uq oa);have X:=A.com.tree;have Sa:=h.below hb;obtain⟨hc,fc,jc,ec,ic,ns,mc,ms,Bc,Va⟩:=id Sa;have na:=Va.tw t x oa;have vb:=Va.le;have Ja:=na.P.pr.WY;obtain⟨r,yb,Hb⟩:=na.P.bk;obtain⟨la,Oa⟩:=Ww X yb;obtain⟨ch,ja⟩:=X.ch;obtain⟨most,cb,db⟩:=Y4 nm 25 rb pb o_ o_;have ba:=ow X ja la Oa;rw[<-A.L]at ba;obtain⟨P,ma⟩:∃P,P=dfs ch 4 r:=⟨_,rfl⟩;rw[<-ma]at ba;have Ib:∀n∈P,n∈x.za:=by rw[ma];exact ZH ja 4 r la
 have jb:P.length=x.L.length:=by
  have Ta:=congrArg List.length ba;rw[iY _ (fun i z=>bL z),dD,List.length_map]at Ta
  exact Ta.symm
 have gb:x.L.length<=20:=A.ents.len;have sc:x.Ws.length<=24:=A.inv.yh.yh.len
 refine(q5 (W:=w) (bw:=bw) (bt:=x.bt) (br:=x.br) (N:=x.L.length) (most:=most) o_ cb s s2 bb T a0 a1 c0 c1 nm (R:=fun w'=>VI l τ W bw g.length (K+1) (vR (.bool true)) w') db
  (Dl:=fun ad D I=>(x.L.length<=D/\D<=maxLen)/\(∀b,(Value.slice ad x.L.length D).ownBlock=some b->w.heap.size<=b)/\∃vs,I.ownsRow 0 37 9 (.slice ad x.L.length D) x.L.length (W_ x.L x.Ws (P.map zc.zq) vs)/\DolN x.Ws I w.heap.size (P.map zc.zq) vs) ?h165 ?hgo).mono ?fin
 case fin =>
  rintro e w' ⟨rfl,Ab⟩
  exact Ab
 case h165 =>
  intro W' Na
  refine(kD (na.R.below Na) A.ents A.inv.yh.yh).mono ?_
  rintro e w' ⟨v,vs,rfl,g1,g2,g3,g4⟩
  rw[ba]at g1 g2;obtain⟨ad,D,rfl⟩:=Xs g1;have Wa:=Na.size
  exact⟨ad,D,rfl,⟨Y1 g1,fun b S=>Nat.le_trans Wa (g4 b S),vs,g1,g2.1,fun i y u h3 Z=>⟨(g2.2 i y u h3 Z).1,fun b S=>Nat.le_trans Wa ((g2.2 i y u h3 Z).2 b S)⟩⟩,g3⟩
 case hgo =>
  rintro ad D I ⟨ib,nb,vs,ab,ha⟩ pa nc
  have hd:∀i,i<x.L.length->∃q:QC,∃n u,P[i]?=some n/\vs[i]?=some u/\q.sl=u/\q.vals=(WU (kN n.zq.zb) n.zq.zj (xj (Uz x.L (kN n.zq.zb))) (xi (Uz x.L (kN n.zq.zb))) n.zq.b0 n.zq.b1 (yf (Ut x.Ws (kN n.zq.zb))) (yg (Ut x.Ws (kN n.zq.zb))) u)/\q.m=(UR x.Ws n.zb x.Ws.length).length/\q.p=sb (kN n.zq.zb)/\q.lf=n.zq.zj/\q.i0=xj (Uz x.L (kN n.zq.zb))/\q.i1=xi (Uz x.L (kN n.zq.zb))/\q.i2=n.zq.b0/\q.i3=n.zq.b1/\q.i4=yf (Ut x.Ws (kN n.zq.zb))/\q.i5=yg (Ut x.Ws (kN n.zq.zb)):=fun i z=>by
   obtain⟨n,E⟩:∃n,P[i]?=some n:=⟨_,Ur o_⟩;obtain⟨u,C⟩:∃u,vs[i]?=some u:=⟨_,Ur (by rw[ha.1];simp;omega)⟩;have mb:=(ha.2 i n.zq u (by rw[VB,E];rfl) C).1;obtain⟨a,c,rfl⟩:=Xs mb
   exact⟨⟨sb (kN n.zq.zb),n.zq.zj,_,_,n.zq.b0,n.zq.b1,_,_,a,_,c⟩,n,_,E,C,rfl,rfl,rfl,rfl,rfl,rfl,rfl,rfl,rfl,rfl,rfl⟩
  obtain⟨d,ia⟩:=jo hd
  let F:Nat->List Int:=fun i=>match P[i]? with|some n=>(UR x.Ws n.zb x.Ws.length).map (·.zm)|none=>[]
  have eb:∀i n,P[i]?=some n->F i=(UR x.Ws n.zb x.Ws.length).map (·.zm):=fun i n E=>by simp only[F];rw[E]
  have Zb:=pa.size
  refine⟨d,GInv l (Vq τ W.heap.size) w bw g K I.heap.size x.L.length D ad (W_ x.L x.Ws (P.map zc.zq) vs) d F,GMid l (Vq τ W.heap.size) w bw g K I.heap.size x.L.length D ad (W_ x.L x.Ws (P.map zc.zq) vs) d F,e5 l (Vq τ W.heap.size) w bw g K I.heap.size x.L.length D ad (W_ x.L x.Ws (P.map zc.zq) vs) d F,
   fun y V=>y.j=0/\∃J,V.ownsRow 0 37 9 (y.sl x.L.length) x.L.length (XE x.za x.zh P J)/\TolN x.ws V (I.heap.size+5) P J/\(∀b,(y.sl x.L.length).ownBlock=some b->I.heap.size+5<=b)/\∀i,i<x.L.length->∃n u,P[i]?=some n/\J[i]?=some u/\(y.q i).sl=u/\(y.q i).m=(U6 x.ws n.ze).length/\(y.q i).vals=WU (kN n.zb) n.zj (xt x.za n.zb) (xr x.za n.zb) n.b0 n.b1 (yf (pun x.zh n.zb)) (yg (pun x.zh n.zb)) u,?_,?_,?_,?_⟩
  ·exact k8 o_ gb oa o_ vb ib s s2 Bb a0 a1 c0 c1
  ·intro Ma S ka;have ob:Bw w Ma:=s5 pa S
   refine(nO X Ja ja (Hb.below ob) la Oa).mono ?_
   rw[<-ma]
   rintro e w' ⟨Cc,J,rfl,g1,g2,g3,g4⟩
   rw[jb]at g1;obtain⟨a,c,rfl⟩:=Xs g1;have hq:∀i,i<x.L.length->∃q:QC,∃n u,P[i]?=some n/\J[i]?=some u/\q.sl=u/\q.m=(U6 x.ws n.ze).length/\q.vals=WU (kN n.zb) n.zj (xt x.za n.zb) (xr x.za n.zb) n.b0 n.b1 (yf (pun x.zh n.zb)) (yg (pun x.zh n.zb)) u:=fun i z=>by
    obtain⟨n,E⟩:∃n,P[i]?=some n:=⟨_,Ur o_⟩;obtain⟨u,C⟩:∃u,J[i]?=some u:=⟨_,Ur (by rw[g2.1];omega)⟩;obtain⟨a,c,rfl⟩:=Xs (g2.2.1 i n u E C).1
    exact⟨⟨sb (kN n.zb),n.zj,_,_,n.b0,n.b1,_,_,a,_,c⟩,n,_,E,C,rfl,rfl,rfl⟩
   obtain⟨q,Q⟩:=jo hq
   exact⟨a,c,q,rfl,(Y1 g1).1,(Y1 g1).2,⟨rfl,J,g1,⟨g2.1,fun i n u h3 Z=>⟨(g2.2.1 i n u h3 Z).1,fun b o=>Nat.le_trans ka ((g2.2.1 i n u h3 Z).2 b o)⟩,g2.2.2⟩,fun b o=>Nat.le_trans ka (g4 b o),Q⟩,g3⟩
  ·rintro y V Ma ⟨qa,J,g1,g2,g3,Q⟩ S ka Pa
   have Ha:Bw I V:=s5 S Pa;have Ia:Bw w V:=s5 pa Ha;have Yb:=Pa.size;have aa:∀b,w.heap.size<=b->Vq (Vq τ W.heap.size) w.heap.size b=.free:=fun b o=>XJ o
   refine⟨qa,Vq (Vq τ W.heap.size) w.heap.size,g,XE x.za x.zh P J,Vo.below Ia,?_,?_,rfl,fun _=>rfl,?_,o_⟩
   ·have:bdI K y.j=200*K:=by unfold bdI;simp[qa]
    rw[this]
    exact Sa.below Ia
   ·rw[if_pos qa];exact Ua
   ·have Aa:∀i n,P[i]?=some n->n∈x.za/\(F i).length=(U6 x.ws n.ze).length/\(F i).length=(UR x.Ws n.zb x.Ws.length).length/\((F i).map fun m=>vI m)=WE (U6 x.ws n.ze)/\((F i).map fun m=>vI m)=WJ (UR x.Ws n.zb x.Ws.length)/\(F i).length<=24:=fun i n E=>by
     have Ra:=Ib n (Uq E);obtain⟨Wb,Xb⟩:=A.com.rel.iN X Ja Ra;have Y:=eb i n E;have kc:(UR x.Ws n.zb x.Ws.length).length<=x.Ws.length:=by
      unfold UR;rw[List.take_length];exact Wt _ _
     refine⟨Ra,by rw[Y,List.length_map,Xb],by rw[Y,List.length_map],by rw[Y,Wb,bC],by rw[Y,bC],by rw[Y,List.length_map];omega⟩
    refine⟨Yv Ha ab,fun b o=>⟨aa b (nb b o),UI ab o⟩,fun i z=>?_,fun i k u z C=>?_,g1,fun b o=>⟨aa b (h_ (g3 b o)),g3 b o⟩,fun i _ z=>?_,fun i k u z C=>?_,fun i Xa b _ Fb Cb o=>?_,fun i z=>?_,fun b o=>aa b (by unfold Frm at o;omega),o_⟩
    ·obtain⟨n,u,B,G,O,U,H,_⟩:=ia i z;obtain⟨ra,q2,ca,sa,ta,ua⟩:=Aa i n B;obtain⟨da,ea⟩:=ha.2 i n.zq u (by rw[VB,B];rfl) G;rw[O,ca,ta]
     exact⟨Yv Ha da,fun b o=>⟨aa b (ea b o),UI da o⟩⟩
    ·obtain⟨n,Ga,B,G,O,U,H,_⟩:=ia i z;rw[U]at C;unfold W_
     exact fj (f:=dCs x.L x.Ws) (fun _ _=>rfl) (by rw[VB,B];rfl) G (by unfold dCs;simpa using C)
    ·obtain⟨n,u,B,G,O,U,H⟩:=Q i z;obtain⟨ra,q2,ca,sa,ta,ua⟩:=Aa i n B;obtain⟨da,ea⟩:=g2.2.1 i n u B G;rw[O,q2,sa]
     exact⟨da,fun b o=>⟨aa b (h_ (ea b o)),ea b o⟩⟩
    ·obtain⟨n,Ga,B,G,O,U,H⟩:=Q i z;rw[H]at C;unfold XE
     exact fj (f:=qCs x.za x.zh) (fun _ _=>rfl) B G (by unfold qCs;simpa using C)
    ·obtain⟨n,u,B,G,O,U,H⟩:=Q i o_;obtain⟨Gb,Za,ga,Ka,La,_⟩:=Q Xa Cb;rw[O]at o;rw[La]
     exact g2.2.2 i Xa u Za b Fb G Ka o
    ·obtain⟨n,u,B,G,O,U,H⟩:=Q i z;obtain⟨Gb,Za,ga,Ka,La,cc,kb,Ba,Ca,Da,Ea,Fa,Jb,Kb,Lb⟩:=ia i z;rw[B]at ga
     cases ga
     obtain⟨ra,q2,ca,sa,ta,ua⟩:=Aa i n B;have Qa:=A.com.rel.told X A.inv.yh.yh ra u;rw[<-A.L]at Qa;rw[Qa]at H;unfold QC.vals at H;simp only[Array.mk.injEq,List.cons.injEq,Value.string.injEq,Value.bool.injEq,Value.int.injEq,true_and,and_true]at H;obtain⟨Pb,Qb,v3,Rb,Sb,Tb,Ub,Vb,Dc⟩:=H
     exact⟨Pb.trans Ba.symm,Qb.trans Ca.symm,v3.trans Da.symm,Rb.trans Ea.symm,Sb.trans Fa.symm,Tb.trans Jb.symm,Ub.trans Kb.symm,Vb.trans Lb.symm,U.trans q2.symm,kb.trans ca.symm,ua⟩
  ·rintro y V ⟨τ1,qb,oc,m1,Db,Eb,tc,vc,wc,Ac⟩
   obtain⟨Ba,Ca,Da,Ea,Fa,Mb,Ga,Nb,Ob,M⟩:=Db;have Ya:bdI K y.j<=200*(K+1):=by unfold bdI;split<;>omega
   refine⟨rfl,τ1,qb,(Vo.below hb).trans m1,⟨Ba,Ca,Da,Ea,Fa,Mb,Ga,Nb,Ob,⟨M.law,Nat.le_trans M.n1 Ya,Nat.le_trans M.n2 Ya,M.row,M.tT,M.tw,M.lo,M.le⟩⟩,fun q hq=>(Eb q hq).mono (by split<;>omega),o_,o_⟩
end
theorem qD{l:Nat}{τ : Nat->yd}{W:World}{bw:Nat}{g:List Tw}{K:Nat}{t:Nat}{x:Tw}(n:K<=1999999)(h:St l τ W bw g (200*K))(d:∀y∈g,US K y)(i:g[t]?=some x)(s s2:ByteArray)(p:s.size<=2000000)(T a0 a1 c0 c1 nm:Int)(m : -9223372036854775808<=nm)(k:nm<=9223372036854775807)(c:World)(hb:Bw W c):
  Calls prog 75 #[vP bw,.agg #[vP x.bt,vP x.br],.agg #[vI 11,vI T,vG s,vG s2,vI a0,vI a1,vI c0,vI c1,vI nm]] c (VI l τ W bw g.length (K+1)):=by
 have f:∀a,Bw W a->Calls prog 128 #[vP bw,.agg #[vP x.bt,vP x.br],.agg #[vI 11,vI T,vG s,vG s2,vI a0,vI a1,vI c0,vI c1,vI nm]] a fun e w'=>e=vR (.bool true)/\VI l τ W bw g.length (K+1) (vR (.bool true)) w':=fun a j=>(oR n h d i s s2 p 11 T a0 a1 c0 c1 nm m k a j).mono (fun e w' b=>⟨b.1,by rw[<-b.1];exact b⟩)
 generalize VI l τ W bw g.length (K+1)=X at f ⊢;have q:=hb.size;clear h d i;generalize x.bt=bt at *;generalize x.br=br at *
 go_enter func75,ntmps75
 go_wp2_with (go_at_call 128;refine(f _ (s5 hb cl)).mono ?_;rintro e r ⟨rfl,o⟩)
 all_goals exact o
theorem kg{l:Nat}{τ : Nat->yd}{W:World}{bw:Nat}{g:List Tw}{K:Nat}(la:K<=1999999)(h:St l τ W bw g (200*K))(C:∀y∈g,US K y)(m:0<g.length)(N:g.length<=100000000)(s s2:ByteArray)(R:s.size<=2000000)(ea:s2.size<=2000000)(T a0 a1 c0 c1 nm:Int)
  (O : -9223372036854775808<=T) (S:T<=9223372036854775807) (M : -9223372036854775808<=nm) (I:nm<=9223372036854775807) :
  Calls prog 36 #[vP bw,.agg #[vI 11,vI T,vG s,vG s2,vI a0,vI a1,vI c0,vI c1,vI nm]] W (VI l τ W bw g.length (K+1)):=by
 obtain⟨a,J,L,G,U,pa,n,A⟩:=h.ZK m;obtain⟨r,E,j⟩:=Y4 T g.length O S m o_;obtain⟨x,u⟩:∃x,g[r]?=some x:=⟨_,Ur E⟩;have b:=fun c hb=>qD o_ h C (t:=r) (x:=x) u s s2 R T a0 a1 c0 c1 nm M I c hb
 obtain⟨v,w⟩:=A r x u;obtain⟨k,D⟩:∃k,k=g.length:=⟨_,rfl⟩;rw[<-D]at m N U n b E j ⊢;have b:∀c,Bw W c->Calls prog 75 #[vP bw,.agg #[vP x.bt,vP x.br],.agg #[vI 11,vI T,vG s,vG s2,vI a0,vI a1,vI c0,vI c1,vI nm]] c fun e w'=>e=vR (.bool true)/\VI l τ W bw k (K+1) (vR (.bool true)) w':=fun c P=>(b c P).mono (fun e w' o=>⟨o.1,by rw[<-o.1];exact o⟩)
 generalize VI l τ W bw k (K+1)=X at b ⊢;clear h C D A u;generalize x.bt=bt at b v;generalize x.br=br at b w;have ja:(r:Int)<k:=o_;have ga:(0:Int)<=r:=o_;have ka:((k:Int) == 0)=false:=by simp;omega
 have b3:zg (W.alloc (.cells #[vI 11,vI T,vG s,vG s2,vI a0,vI a1,vI c0,vI c1,vI nm] 87)) W.heap.size 87 #[vI 11,vI T,vG s,vG s2,vI a0,vI a1,vI c0,vI c1,vI nm]:=zg.new W 87 _;have d:Bw W (W.alloc (.cells #[vI 11,vI T,vG s,vG s2,vI a0,vI a1,vI c0,vI c1,vI nm] 87)):=(Below.refl _ _).alloc (Nat.le_refl _) _
 go_enter func36,ntmps36
 go_upto_region 7 with fail
 generalize W.alloc (.cells #[vI 11,vI T,vG s,vG s2,vI a0,vI a1,vI c0,vI c1,vI nm] 87)=f at b3 d ⊢;have ha:=d.size;have ca:=b3.lt;have d0:=(d.cell (p:=vA bw 0) L).trans n;have d1:=b3.cell 1;have V:=(d.cell (p:=vA a (r*2)) G).trans v;have Y:=(d.cell (p:=vA a (r*2+1)) G).trans w;simp only[s7]at d1;clear n v w;have n1:¬(bw=f.heap.size):=o_;have n2:¬(a=f.heap.size):=o_;have ma:¬(W.heap.size=f.heap.size):=o_;have oa:bw<f.heap.size:=o_;have qa:a<f.heap.size:=o_
 go_cut [6] from 62 to 75 (fun q z=>∃i,q=vP i/\Bw W z/\zg z i 128 #[vP bt,vP br]/\zg z W.heap.size 87 #[vI 11,vI T,vG s,vG s2,vI a0,vI a1,vI c0,vI c1,vI nm]/\W.heap.size<i)
 case first =>
  go_region_held3 (fun w'=>w'.cell? (vA bw 0)=some (vS a k J)/\w'.cell? (vA W.heap.size 1)=some (vI T)/\w'.cell? (vA a (r*2))=some (vP bt)/\w'.cell? (vA a (r*2+1))=some (vP br)) (go_keep)
   (first
   |(go_at_call 66;refine(j _).mono ?_;rintro e da ⟨rfl,H⟩;subst H))
  all_goals go_wp2_with fail
  all_goals go_meet
  all_goals exact⟨_,rfl,cl,(by first|(with_reducible exact zg.new' s_)|(with_reducible exact zg.drew (zg.new' s_))),s6,ca⟩
 case rest =>
  obtain⟨i,rfl,B,F,Z,na⟩:=hcut;clear j V Y d0 d1 b3 d;have ra:=B.size;have aa:=F.cell 0;have ba:=F.cell 1;have ia:=Z.cell;simp only[s7]at aa ba
  go_wp2_with (go_at_call 75;refine(b _ B).mono ?_;rintro e da ⟨rfl,Q⟩)
  all_goals exact Q
end
section
open Go.ChangeShapes Go.WideShapes Go.ChangeAt Go.RowKit
theorem n3(K:b4 13)(H:Type)(enc:TypeId×Value->H)(W:World)(base:Nat)(args:Array Value)(g o:List (DataW H))(before:List MemPlace)
  (k:∀(j:Nat) t v,f13.params[j]?=some t->args[j]?=some v->Value.okWide prog W .any base t v)
  (u:DataW.Whole enc prog f13.params.toList Rows.allSpec.vars false W args.toList g o before) (F:Rows.uptoSmall H (g++o)=true) :
  Calls prog 13 args W fun e W'=>∃v,e=vR v/\Rows.allSpec.post enc prog f13 false true false false W args v W':=by
 have n:=u;obtain⟨p,q,M,B,rfl,P,T⟩:=u;have s:DataW.TrodAll enc prog W 0 (fun _=>true) true f13.params.toList args.toList g p:=M;rw[params13]at s k;obtain⟨f,R,d0,Q,w,U,N,rfl,rfl,r,L⟩:=trodAll_cons s;obtain⟨rfl,rfl,rfl⟩:=trodAll_nil L;obtain rfl:args=#[f]:=by cases args;simp_all
 obtain⟨rfl,rfl⟩:=trodVars_none B;have hb:Rows.uptoBulk d0<=1048576:=by
  have:=of_decide_eq_true F
  simp only[List.append_nil,Rows.uptoBulkAll]at this
  omega
 obtain⟨fuel,E⟩:=id r;have z:f.cells.toList=[f]:=by
  have C:=k 0 22 f rfl rfl;obtain⟨a,l,c,e⟩:=okWide_slice underlying22 C;rw[e];rfl
 obtain⟨ao,len,cap,O,rfl,G,I,A,S,b⟩:=nW E z
 refine(K W ao len cap O G I A o_ (fun i d=>⟨⟨Nat.le_trans (b i d).1.1 hb,Nat.le_trans (b i d).1.2.1 hb,(b i d).1.2.2⟩,(b i d).2⟩)).mono fun e W' ⟨D,m⟩=>?_
 subst D;have y:∀x∈w,x.block<W.heap.size:=fun x J=>n.lt x (j_ J)
 exact⟨_,rfl,_,_,_,[],w,[],n,trodAll_cons_mk (shut_bool underlying4 _) trodAll_mk0,by
  have:=trodAll_cons_mk (Below.trod laidOut k_ (of_decide_eq_true k_) r m y) trodAll_mk0
  rw[List.append_nil]at this
  exact this,rfl,m.frame _,fun h=>by cases h⟩
theorem oo(os:Os):laidMetH prog Rows.allUptoRow.laid ((World.laidAll prog os Rows.allUptoRow.laid).forCall (fun _ _=>0) ⟨#[],#[v0_],[]⟩).memory:=by
 rw[MakeChecks.laidMetH_plain _ _ _ k_]
 exact laidMet_laidAll _ k_ k_
theorem j6(os:Os){H:Type}(enc:TypeId×Value->H):∃a,DataW.whole enc prog ((World.laidAll prog os Rows.allUptoRow.laid).forCall (fun _ _=>0) ⟨#[],#[v0_],[]⟩).memory f13.params.toList Rows.allSpec.vars false #[v0_].toList 8=some ([.nil],[],a) :=
 ⟨[],k_⟩
theorem mT(i:b4 13)(os:Os)(h:os.Started)(H:Type)(enc:TypeId×Value->H)(F:Stop.Interp):
  ReturnsInHanded {} checked os 13 .any ((Rows.OpenSpec.upto Rows.allSpec).preRow enc prog f13 Rows.allUptoRow.domain false Rows.allUptoRow.laid) (((Rows.OpenSpec.upto Rows.allSpec).at F).post enc prog f13 false true false false):=by
 obtain⟨l,g⟩:=j6 os enc
 refine returnsInHanded_of_row (C:=checked) (s:=Rows.OpenSpec.upto Rows.allSpec) own h k_ func13
  (mq (enc:=enc) (C:=checked) (World.laidAll prog os Rows.allUptoRow.laid) #[v0_] (World.laidAll_os _ _ _) (World.shaped_of_ZipB k_ k_) k_
   (OpenSpec.preRow_of_cond 8 g k_ (fun k f=>by cases f;kernel_rfl) k_ (oo os))) ?_
 intro W base args c d before b e _ a _ j _ _
 exact n3 i H enc W base args c d before b e (a _ rfl)
theorem oE(b:b4 13):Rows.AllUptoSaid :=
 OpenClaim.holds_of_cond 13 f13 rfl rfl rfl rfl rfl rfl rfl ⟨rfl,rfl,rfl,rfl,rfl⟩ rfl rfl rfl rfl rfl k_ func13 k_
  (of_decide_eq_true k_) (by unfold Func.isWrapper;first|(rw[if_pos (by decide +kernel)];kernel_rfl)|(rw[if_neg (by decide +kernel)];exact⟨rfl,rfl⟩))
  (fun os a H enc _ F=>by rw[OpenClaim.pre_eq_preRow];exact mT b os a H enc F)
theorem sB (f : FuncId) (fn : Func) (b : Tryz.pinned.checked.prog.funcNamed "borrow/borrowlaw.All" = some f) (a : Tryz.pinned.checked.prog.funcs[f]? = some fn) :
  false=Tryz.pinned.checked.prog.looks []/\∀(j:Nat) t,fn.params[j]?=some t->Tryz.pinned.checked.prog.wantsStandIn t=false:=by
 obtain rfl : f = 13 := Option.some.inj ((show prog.funcNamed "borrow/borrowlaw.All" = some 13 by kernel_rfl).symm.trans b) |>.symm;obtain rfl:fn=f13:=(Option.some.inj (func13.symm.trans a)).symm
 refine⟨k_,fun j t ht=>?_⟩
 rw[params13]at ht;obtain rfl:t=22:=by simpa using Array.mem_of_getElem? ht
 exact(show prog.wantsStandIn 22=false by kernel_rfl)
theorem nY(a:b4 13):Rows.AllUptoCardSaid :=
 Claim7.holds_tied_plain_at .later [] _ _ _ _ (oE a) (fun _ h=>by cases h) k_ (fun _ h=>by cases h) allUpto_row_tie rfl ⟨rfl,rfl⟩ k_ rfl sB k_
end
section
open Go.RowKit
variable {W:World}{ao:Option Addr}{cap:Nat}
theorem qG:ey 11:=by
 intro j w k p h z T s s2 a0 a1 c0 c1 nm t g c d i b a
 by_cases q:z<=10
 ·exact qF j w k p h z T s s2 a0 a1 c0 c1 nm q g c d i b a
 obtain⟨τ,r,f,l,h3,m,n⟩:=h;obtain rfl:z=11:=o_
 exact(kg o_ f l h3 o_ s s2 g c T a0 a1 c0 c1 nm d i b a).mono fun e w' o=>At.next f h3 m n o
theorem kC{len:Nat}(f:len<=cap)(g:cap<=maxLen){O:Nat->OpC}(b:ZB W ao len O)(c:len<=1048576)(a:∀i,i<len->OpOK (O i)):
  Calls prog 13 #[.slice ao len cap] W fun e w'=>e=vR (.bool true)/\Bw W w':=by
 have d:=p3 11 qG o_ f g b c a;clear b a
 go_enter func13,ntmps13
 go_wp2_with (go_at_call 14;refine d.mono ?_;rintro e h ⟨rfl,hb⟩)
 go_ret
 exact⟨rfl,hb⟩
theorem allUptoCard:Rows.AllUptoCardSaid:=nY fun _ _ _ _ _ d e c a b=>kC d e c a b
end
end Go.Proofs.YtphclnolomgjoaaGreatDoor
