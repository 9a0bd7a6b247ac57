import Derived.Test.YtphclnolomgjoaaGreatDoorE22
set_option linter.unusedVariables false
set_option linter.unusedSimpArgs false
set_option maxRecDepth 100000
set_option maxHeartbeats 4000000
namespace Go.Proofs.YtphclnolomgjoaaGreatDoor
open Tryz
open Go.RowKit
variable {k j:List Bs}{b bp bq br bt2 gp c x:Nat}{W a w':World}{Et Ey d m g:Value}{er:Int}{BM Ez l:List Pw}{Ws:List Wk}{s2:Bs}
theorem q4{ns:List Bs}(f:ns.Pairwise fun a b=>yn a b<0){nm:Bs}{zl:Nat}(h:wm ns nm zl false):(ns.take zl++nm::ns.drop zl).Pairwise fun a b=>yn a b<0:=by
 obtain⟨t,m,g,n⟩:=h;have k:=f;have p:=List.take_append_drop zl ns;rw[<-p]at f;obtain⟨q,s2,r⟩:=YV.1 f
 refine YV.2 ⟨q,List.pairwise_cons.2 ⟨?_,s2⟩,?_⟩
 ·intro y d;obtain⟨i,c⟩:=Vh d;rw[List.getElem?_drop]at c;have g1:=g (zl+i) y o_ c;have g2:yn y nm≠0:=fun l=>by
   have:=bI _ _ l
   subst this
   rcases Nat.eq_zero_or_pos i with rfl|s
   ·have:=n.2 (j_ c);cases this
   ·have e:zl<ns.length:=by have:=(Uy.1 c).1;omega
    have g3:=g zl _ (Nat.le_refl _) (Ur e);have o:=List.pairwise_iff_getElem.1 k zl (zl+i) e (Uy.1 c).1 o_;rw[(Uy.1 c).2]at o
    omega
  have u:yn nm y = - yn y nm:=bY _ _
  omega
 ·intro x j y d;obtain⟨i,c⟩:=Vh j;rw[List.getElem?_take]at c
  split at c
  ·rename_i e
   have g1:=m i x e c
   rcases List.mem_cons.1 d with rfl|d
   ·exact g1
   ·exact r x j y d
  ·cases c
theorem jZ{x:Bs}(h:k <+: j++[x])(b:k≠j++[x]):k <+: j:=by
 obtain⟨t,ht⟩:=h;have a:t≠[]:=fun e=>b (by rw[<-ht,e,List.append_nil])
 have e:t=t.dropLast++[t.getLast a]:=(List.dropLast_concat_getLast a).symm;rw[e,<- List.append_assoc]at ht
 exact⟨_,(XM ht).1⟩
structure Mv (za:List zc) (q p f:zc) (nm:Bs) (B:List zc) (i:Nat) (A:List zc) (zl:Nat):Prop where
 T:zr za
 hq:q∈za
 hp:p∈za
 ht:f∈za
 qp:q.zb=p.zb++[nm]
 tl:f.zj=false
 ZO:¬q.zb <+: f.zb
 no:∀n∈za,n.zb≠f.zb++[nm]
 deep:∀n∈za,q.zb <+: n.zb->f.zb.length+1+(n.zb.length-q.zb.length)<=4
 pk:p.zv=B.map (·.ze)
 pm:∀k,k∈B↔(k∈za/\∃x,k.zb=p.zb++[x])
 ps:(B.map fun k=>mN k.zb).Pairwise fun a b=>yn a b<0
 pi:B[i]?=some q
 tk:f.zv=A.map (·.ze)
 tm:∀k,k∈A↔(k∈za/\∃x,k.zb=f.zb++[x])
 ts:(A.map fun k=>mN k.zb).Pairwise fun a b=>yn a b<0
 tf:wm (A.map fun k=>mN k.zb) nm zl false
def gM (q p f:zc)(nm:Bs)(i:Nat)(o:Value)(zl:Nat)(u:Value)(n:zc):zc :=
 if n.zb=q.zb then {q with zb:=f.zb++[nm],up:=some f.ze}
 else if n.zb=p.zb then p.Vw i o
 else if n.zb=f.zb then f.Wl zl q.ze u
 else {n with zb:=xz q.zb (f.zb++[nm]) n.zb}
section
variable {za:List zc}{q p f:zc}{nm:Bs}{B A:List zc}{i zl:Nat} (h:Mv za q p f nm B i A zl) (o u:Value)
include h
theorem Mv.ne:q.zb≠[]/\p.zb≠q.zb/\¬q.zb <+: p.zb/\p.zb≠f.zb/\f.zb≠q.zb:=by
 have a:q.zb.length=p.zb.length+1:=by rw[h.qp];simp
 refine⟨by rw[h.qp];simp,fun e=>by rw[e]at a;omega,fun e=>by have:=e.length_le;omega,fun e=>h.no q h.hq (by rw[h.qp,e]),fun e=>h.ZO (e ▸ List.prefix_refl _)⟩
theorem Mv.fresh(n:zc)(b:n∈za):¬(f.zb++[nm]) <+: n.zb:=fun ⟨t,ht⟩=>by
 obtain⟨m,a,e⟩:=h.T.pre t (f.zb++[nm]) n b ht.symm
 exact h.no m a e
theorem Mv.cv{x y:zc}(c:x∈za)(d:y∈za)(e:xz q.zb (f.zb++[nm]) x.zb=xz q.zb (f.zb++[nm]) y.zb):x=y:=by
 refine h.T.inj x c y d ?_
 by_cases b:q.zb <+: x.zb
 ·rw[WC b]at e
  by_cases a:q.zb <+: y.zb
  ·rw[WC a]at e;have e:=List.append_cancel_left e;obtain⟨j,g⟩:=b;obtain⟨k,i⟩:=a;rw[<-g,<- i]at e ⊢
   simp at e
   rw[e]
  ·rw[V7 a]at e
   exact absurd ⟨_,e⟩ (h.fresh y d)
 ·rw[V7 b]at e
  by_cases a:q.zb <+: y.zb
  ·rw[WC a]at e
   exact absurd ⟨_,e.symm⟩ (h.fresh x c)
  ·rw[V7 a]at e;exact e
theorem Mv.gmv(n:zc)(d:n∈za):(gM q p f nm i o zl u n).zb=xz q.zb (f.zb++[nm]) n.zb/\(gM q p f nm i o zl u n).ze=n.ze/\(gM q p f nm i o zl u n).zj=n.zj/\(gM q p f nm i o zl u n).n0=n.n0/\(gM q p f nm i o zl u n).n1=n.n1/\(gM q p f nm i o zl u n).b0=n.b0/\(gM q p f nm i o zl u n).b1=n.b1/\(n≠q->(gM q p f nm i o zl u n).up=n.up):=by
 obtain⟨n1,n2,j,k,l⟩:=h.ne;unfold gM
 by_cases a:n.zb=q.zb
 ·rw[if_pos a];obtain rfl:=h.T.inj n d q h.hq a;rw[WC (List.prefix_refl _)]
  exact⟨s_,rfl,rfl,rfl,rfl,rfl,rfl,fun e=>absurd rfl e⟩
 ·rw[if_neg a]
  by_cases b:n.zb=p.zb
  ·rw[if_pos b];obtain rfl:=h.T.inj n d p h.hp b;rw[V7 j]
   exact⟨rfl,rfl,rfl,rfl,rfl,rfl,rfl,fun _=>rfl⟩
  ·rw[if_neg b]
   by_cases c:n.zb=f.zb
   ·rw[if_pos c];obtain rfl:=h.T.inj n d f h.ht c;rw[V7 h.ZO]
    exact⟨rfl,rfl,rfl,rfl,rfl,rfl,rfl,fun _=>rfl⟩
   ·rw[if_neg c]
    exact⟨rfl,rfl,rfl,rfl,rfl,rfl,rfl,fun _=>rfl⟩
theorem Mv.below(y z:zc)(m:y∈za)(l:z∈za):(∃x,(gM q p f nm i o zl u y).zb=(gM q p f nm i o zl u z).zb++[x])↔(y=q/\z=f)\/(y≠q/\∃x,y.zb=z.zb++[x]):=by
 obtain⟨n1,n2,B,C,D⟩:=h.ne;rw[(h.gmv o u y m).1,(h.gmv o u z l).1]
 by_cases e:y=q
 ·subst e;rw[WC (List.prefix_refl _),List.drop_length,List.append_nil]
  constructor
  ·rintro⟨x,c⟩
   obtain⟨d,_⟩:=XM c
   left
   refine⟨rfl,(h.cv h.ht l ?_).symm⟩
   rw[V7 h.ZO];exact d
  ·rintro(⟨_,rfl⟩|⟨d,_⟩)
   ·exact⟨nm,by rw[V7 h.ZO]⟩
   ·exact absurd rfl d
 ·have s:y.zb≠q.zb:=fun a=>e (h.T.inj y m q h.hq a)
  rcases List.eq_nil_or_concat y.zb with b|⟨j,k,b⟩
  ·have t:¬q.zb <+: y.zb:=fun a=>n1 (by rw[b]at a;exact List.prefix_nil.1 a)
   rw[V7 t,b]
   constructor
   ·rintro⟨x,c⟩;simp at c
   ·rintro(⟨a,_⟩|⟨_,x,c⟩)
    ·exact absurd a e
    ·simp at c
  ·have b:y.zb=j++[k]:=by rw[b,List.concat_eq_append]
   obtain⟨n,g1,g2,_⟩:=h.T.par y m j k b;have r:xz q.zb (f.zb++[nm]) y.zb=xz q.zb (f.zb++[nm]) n.zb++[k]:=by
    rw[b,g2]
    by_cases a:q.zb <+: j
    ·rw[WC a,WC (a.trans (aE _ _)),List.drop_append_of_le_length a.length_le];simp only[List.append_assoc]
    ·rw[V7 a,V7 (fun v=>a (jZ v (fun w=>s (by rw[b];exact w.symm))))]
   rw[r]
   constructor
   ·rintro⟨x,c⟩
    obtain⟨d,_⟩:=XM c
    have:=h.cv g1 l d
    right
    exact⟨e,k,by rw[b,<- g2,this]⟩
   ·rintro(⟨a,_⟩|⟨_,x,c⟩)
    ·exact absurd a e
    ·rw[b]at c;obtain⟨d,A⟩:=XM c
     have:n=z:=h.T.inj n g1 z l (g2.trans d)
     rw[this];exact⟨k,rfl⟩
theorem Mv.zn(y:zc)(b:y∈za):mN (gM q p f nm i o zl u y).zb=mN y.zb:=by
 obtain⟨n1,n2,d,k,l⟩:=h.ne;rw[(h.gmv o u y b).1]
 by_cases e:q.zb <+: y.zb
 ·rw[WC e];obtain⟨t,ht⟩:=e;rw[<-ht,List.drop_left]
  rcases List.eq_nil_or_concat t with a|⟨j,c,a⟩
  ·rw[a,List.append_nil,List.append_nil,Wm,h.qp,Wm]
  ·have a:t=j++[c]:=by rw[a,List.concat_eq_append]
   rw[a,<- List.append_assoc,<- List.append_assoc,Wm,Wm]
 ·rw[V7 e]
theorem Mv.tree:zr (za.map (gM q p f nm i o zl u)):=by
 obtain⟨n1,n2,Aa,S,ta⟩:=h.ne;have T:=h.T;have v:=h.gmv o u;have Q:=h.below o u;have ua:=h.zn o u;have D:∀x,x∈za.map (gM q p f nm i o zl u)↔∃n∈za,x=gM q p f nm i o zl u n:=fun x=>by simp only[UC];exact⟨fun ⟨n,h,e⟩=>⟨n,h,e.symm⟩,fun ⟨n,h,e⟩=>⟨n,h,e.symm⟩⟩
 have ia:gM q p f nm i o zl u q={q with zb:=f.zb++[nm],up:=some f.ze}:=by unfold gM;rw[if_pos rfl]
 have ja:gM q p f nm i o zl u p=p.Vw i o:=by unfold gM;rw[if_neg n2,if_pos rfl]
 have ka:gM q p f nm i o zl u f=f.Wl zl q.ze u:=by unfold gM;rw[if_neg ta,if_neg (fun e=>S e.symm),if_pos rfl]
 have la:∀n∈za,n≠p->n≠f->(gM q p f nm i o zl u n).zv=n.zv:=fun n w G I=>by
  unfold gM
  by_cases c1:n.zb=q.zb
  ·rw[if_pos c1];rw[T.inj n w q h.hq c1]
  ·rw[if_neg c1,if_neg (fun e=>G (T.inj n w p h.hp e)),if_neg (fun e=>I (T.inj n w f h.ht e))]
 have ma:Vs nm=true:=WO (T.ok q h.hq).1 (by rw[h.qp];simp);generalize gM q p f nm i o zl u=g at *
 refine⟨?_,?_,?_,?_,?_,?_,?_,?_,by simpa using T.len⟩
 ·obtain⟨r,E,G,I,h3,na⟩:=T.root;have pa:=Uq E;obtain⟨g1,g2,g3,g4,W,N,O,_⟩:=v r pa
  refine⟨g r,by simp[E],?_,g3.trans I,N.trans h3,O.trans na⟩
  rw[g1,V7 (fun e=>n1 (by rw[G]at e;exact List.prefix_nil.1 e)),G]
 ·intro n w m oa e;obtain⟨x,s,rfl⟩:=(D n).1 w;obtain⟨y,C,rfl⟩:=(D m).1 oa;rw[(v x s).1,(v y C).1]at e;rw[h.cv s C e]
 ·rw[List.map_map];have V:=T.nd;unfold List.Nodup at V ⊢;rw[List.pairwise_map]
  refine List.Pairwise.imp_of_mem (fun {a b} X hb ga e=>ga ?_) V
  simp only[Function.comp]at e;rw[(v a X).1,(v b hb).1]at e
  exact h.cv X hb e
 ·intro n w;obtain⟨x,s,rfl⟩:=(D n).1 w;rw[(v x s).1];have L:=T.ok x s
  by_cases c:q.zb <+: x.zb
  ·rw[WC c];have hd:=h.deep x s c;have aa:=(T.ok f h.ht).1
   refine⟨?_,by simp;omega⟩
   unfold UL at aa L ⊢;rw[List.all_append,List.all_append,aa];have G:(x.zb.drop q.zb.length).all Vs=true:=by
    rw[List.all_eq_true]at L ⊢
    exact fun y C=>L.1 y (List.mem_of_mem_drop C)
   rw[G];simp[ma]
  ·rw[V7 c];exact L
 ·intro n w;obtain⟨x,s,rfl⟩:=(D n).1 w;obtain⟨g1,g2,g3,g4,W,N,O,_⟩:=v x s;rw[g3,g4,W,N,O];exact T.zm x s
 ·intro n w t;obtain⟨x,s,rfl⟩:=(D n).1 w;obtain⟨g1,_,_,_,_,_,_,P⟩:=v x s;rw[g1]at t;have da:x≠q:=fun e=>by rw[e,WC (List.prefix_refl _)]at t;simp at t
  rw[P da]
  refine T.top x s ?_
  by_cases c:q.zb <+: x.zb
  ·rw[WC c]at t;simp at t
  ·rw[V7 c]at t;exact t
 ·intro n w k z t;obtain⟨x,s,rfl⟩:=(D n).1 w
  by_cases c:x=q
  ·subst c;rw[ia]at t ⊢;have t:f.zb++[nm]=k++[z]:=t
   refine⟨g f,(D _).2 ⟨f,h.ht,rfl⟩,?_,(v f h.ht).2.2.1.trans h.tl,?_⟩
   ·rw[(v f h.ht).1,V7 h.ZO];exact(XM t).1
   ·show some f.ze=some (g f).ze
    rw[(v f h.ht).2.1]
  ·obtain⟨g1,_,_,_,_,_,_,P⟩:=v x s;rw[P c]
   rcases List.eq_nil_or_concat x.zb with E|⟨j,U,E⟩
   ·rw[g1,V7 (fun e=>n1 (by rw[E]at e;exact List.prefix_nil.1 e)),E]at t
    simp at t
   ·have E:x.zb=j++[U]:=by rw[E,List.concat_eq_append]
    obtain⟨K,a1,a2,F,ea⟩:=T.par x s j U E;obtain⟨d,ba⟩:=(Q x K s a1).2 (.inr ⟨c,U,by rw[E,a2]⟩)
    refine⟨g K,(D _).2 ⟨K,a1,rfl⟩,?_,(v K a1).2.2.1.trans F,by rw[(v K a1).2.1];exact ea⟩
    exact(XM (ba.symm.trans t)).1
 ·intro n w;obtain⟨z,J,rfl⟩:=(D n).1 w;have ca:∀l:List zc,(∀y∈l,y∈za)->(l.map g).map (fun k=>mN k.zb)=l.map fun k=>mN k.zb:=fun l H=>by
   rw[List.map_map];exact List.map_congr_left fun y C=>ua y (H y C)
  have blks:∀l:List zc,(∀y∈l,y∈za)->(l.map g).map (·.ze)=l.map (·.ze):=fun l H=>by
   rw[List.map_map];exact List.map_congr_left fun y C=>(v y (H y C)).2.1
  have fin:∀l:List zc,(∀y,y∈l↔(y∈za/\((y=q/\z=f)\/(y≠q/\∃x,y.zb=z.zb++[x]))))->(g z).zv=l.map (·.ze)->(l.map fun k=>mN k.zb).Pairwise (fun a b=>yn a b<0)->∃B:List zc,(g z).zv=B.map (·.ze)/\(∀k,k∈B↔(k∈za.map g/\∃x,k.zb=(g z).zb++[x]))/\(B.map fun k=>mN k.zb).Pairwise fun a b=>yn a b<0:=fun l H G I=>by
   have Z:∀y∈l,y∈za:=fun y C=>((H y).1 C).1
   refine⟨l.map g,by rw[blks l Z];exact G,fun k=>?_,by rw[ca l Z];exact I⟩
   constructor
   ·intro t;obtain⟨y,C,rfl⟩:=UC.1 t;obtain⟨a1,a2⟩:=(H y).1 C
    exact⟨(D _).2 ⟨y,a1,rfl⟩,(Q y z a1 J).2 a2⟩
   ·rintro⟨t,s⟩
    obtain⟨y,C,rfl⟩:=(D k).1 t
    exact VF ((H y).2 ⟨C,(Q y z C J).1 s⟩)
  by_cases c1:z=p
  ·subst c1;have qa:=dN h.ps
   refine fin (B.take i++B.drop (i+1)) (fun y=>?_) ?_ ?_
   ·rw[Zm qa h.pi y,h.pm]
    constructor
    ·rintro⟨⟨a1,a2⟩,F⟩;exact⟨a1,.inr ⟨F,a2⟩⟩
    ·rintro⟨a1,(⟨_,a2⟩|⟨a2,F⟩)⟩
     ·exact absurd (by rw[a2]) S
     ·exact⟨⟨a1,F⟩,a2⟩
   ·rw[ja]
    show z.zv.take i++z.zv.drop (i+1)=_
    rw[h.pk,List.map_append,List.map_take,List.map_drop]
   ·refine List.Pairwise.sublist (List.Sublist.map _ ?_) h.ps
    conv=>rhs;rw[<-List.take_append_drop i B]
    exact List.Sublist.append (List.Sublist.refl _) (List.drop_sublist_drop_left B (Nat.le_succ i))
  ·by_cases c2:z=f
   ·subst c2;have M:q ∉ A:=fun e=>by
     obtain⟨_,x,s⟩:=(h.tm q).1 e;rw[h.qp]at s
     exact S (XM s).1
    refine fin (A.take zl++q::A.drop zl) (fun y=>?_) ?_ ?_
    ·have ha:y∈A.take zl++q::A.drop zl↔y=q\/y∈A:=by
      conv=>rhs;rw[<-List.take_append_drop zl A]
      simp only[UU,List.mem_cons]
      constructor
      ·rintro(a|a|a)
       ·exact .inr (.inl a)
       ·exact .inl a
       ·exact .inr (.inr a)
      ·rintro(a|a|a)
       ·exact .inr (.inl a)
       ·exact .inl a
       ·exact .inr (.inr a)
     rw[ha,h.tm]
     constructor
     ·rintro(rfl|⟨a1,a2⟩)
      ·exact⟨h.hq,.inl ⟨rfl,rfl⟩⟩
      ·exact⟨a1,.inr ⟨fun e=>M (by rw[<-e];exact(h.tm y).2 ⟨a1,a2⟩),a2⟩⟩
     ·rintro⟨a1,(⟨a2,_⟩|⟨_,F⟩)⟩
      ·exact .inl a2
      ·exact .inr ⟨a1,F⟩
    ·rw[ka]
     show z.zv.take zl++q.ze::z.zv.drop zl=_
     rw[h.tk,List.map_append,List.map_cons,List.map_take,List.map_drop]
    ·have:=q4 h.ts h.tf
     rw[List.map_append,List.map_cons,List.map_take,List.map_drop,show mN q.zb=nm by rw[h.qp,Wm]]
     exact this
   ·obtain⟨Y,ra,R,sa⟩:=T.zv z J;have M:q ∉ Y:=fun e=>by
     obtain⟨_,x,s⟩:=(R q).1 e;rw[h.qp]at s
     exact c1 (T.inj z J p h.hp (XM s).1.symm)
    refine fin Y (fun y=>?_) (by rw[la z J c1 c2];exact ra) sa
    rw[R]
    constructor
    ·rintro⟨a1,a2⟩;exact⟨a1,.inr ⟨fun e=>M (by rw[<-e];exact(R y).2 ⟨a1,a2⟩),a2⟩⟩
    ·rintro⟨a1,(⟨_,a2⟩|⟨_,F⟩)⟩
     ·exact absurd a2 c2
     ·exact⟨a1,F⟩
end
theorem oQ{ns:List Bs}{x:Bs}{a:Nat}{s t:Bool}(c:wm ns x a s)(d:wm ns x b t):a=b:=by
 rcases Nat.lt_trichotomy a b with h|h|h
 ·have f:a<ns.length:=by have:=d.1;omega
  have e:=Ur f;have c1:=d.2.1 a _ h e;have c2:=c.2.2.1 a _ (Nat.le_refl _) e
  omega
 ·exact h
 ·have f:b<ns.length:=by have:=c.1;omega
  have e:=Ur f;have c1:=c.2.1 b _ h e;have c2:=d.2.2.1 b _ (Nat.le_refl _) e
  omega
theorem dK{nm:Bs}:∀(ns:List Bs),ns.Pairwise (fun a b=>yn a b<0)->nm ∉ ns->∃zl,wm ns nm zl false
 | [],_,_=>⟨0,h4 _⟩
 |a::l,r,h=>by
  obtain⟨o,p⟩:=List.pairwise_cons.1 r
  by_cases c:yn a nm<0
  ·obtain⟨zl,s,i,k,m⟩:=dK l p (fun e=>h (V3 _ e))
   refine⟨zl+1,by simp;omega,fun j n g d=>?_,fun j n g d=>?_,?_⟩
   ·cases j with
    |zero=>simp at d;rw[<-d];exact c
    |succ j=>exact i j n o_ (j_ d)
   ·cases j with
    |zero=>omega
    |succ j=>exact k j n o_ (j_ d)
   ·rw[m];simp
  ·refine⟨0,Nat.zero_le _,fun j n g=>by omega,fun j n _ d=>?_,?_⟩
   ·cases j with
    |zero=>simp at d;rw[<-d];omega
    |succ j =>
     have q:n∈l:=Uq (j_ d);have c2:=o n q
     rcases Int.lt_or_le (yn n nm) 0 with f|f
     ·exact absurd (bj a n nm c2 f) c
     ·exact f
   ·constructor
    ·intro e;cases e
    ·intro e;simp at e;exact absurd (by rw[e];simp) h
def Tch3 (q p f:zc)(x:Nat):Prop:=uc p q x\/x=f.ze\/f.sl.ownBlock=some x
structure MoM (W:World) (q p f:zc) (nm:Bs) (i:Nat) (o:Value) (zl:Nat) (u:Value) (w':World):Prop where
 own1:o.ownBlock=p.sl.ownBlock
 own2:u.ownBlock=f.sl.ownBlock\/∃g,u.ownBlock=some g/\W.heap.size<=g
 par:UA w' (p.Vw i o)
 tar:UA w' (f.Wl zl q.ze u)
 kid:UA w' {q with zb:=f.zb++[nm],up:=some f.ze}
 zf:zd (Tch3 q p f) W w'
theorem nR{w:World}{nm:ByteArray}{P1:World->Prop}{a:World->Prop}
  (c:Calls prog 97 #[vP bq] w fun e w'=>e=vT #[]/\w'.cell? (vA bq 0)=some (vG nm)/\P1 w')
  (d:∀b,P1 b->Calls prog 82 #[vP bt2,vG nm,vP bq] b fun e w'=>e=vT #[]/\a w') :
  Calls prog 94 #[vP bq,vP bt2] w fun e w'=>e=vT #[]/\a w':=by
 go_enter func94,ntmps94
 go_wp2_with (first
  |(go_at_call 97;refine c.mono ?_;rintro e i ⟨rfl,h,f⟩)
  |(go_at_call 82;refine(d _ f).mono ?_;rintro e j ⟨rfl,g⟩))
 go_end0
 exact⟨rfl,g⟩
section
variable {τ : Nat->yd}{t:Nat}{w:World}{bt:Nat}{za:List zc}{zn:Int}{vw va:Value}{ws zh:List Pw}{q p f:zc}{nm:Bs}{B A:List zc}{i zl:Nat}
theorem gy(h:UJ τ t w bt za zn vw va ws zh)(M:Mv za q p f nm B i A zl):
  Calls prog 94 #[vP q.ze,vP f.ze] w fun e w'=>e=vT #[]/\∃o u,MoM w q p f nm i o zl u w':=by
 have T:=h.pr.tree;obtain⟨n1,n2,oa,Q,ma⟩:=M.ne;have E:q≠p:=fun e=>n2 (by rw[e])
 have C:q≠f:=fun e=>ma (by rw[e])
 have y:p≠f:=fun e=>Q (by rw[e])
 obtain⟨a,a1,a2,_,ea⟩:=T.par q M.hq p.zb nm M.qp
 have:a=p:=T.inj a a1 p M.hp a2
 subst this;have na:mN q.zb=nm:=by rw[M.qp];exact Wm _ _
 have J:∀ {z:zc} {l:List zc},z∈za->z.zv=l.map (·.ze)->l.length<=1000:=fun m e=>by have:=dM T m;rw[e]at this;simpa using this
 have W:X1 w a B:=⟨M.pk,fun k d=>h.pr.yj k ((M.pm k).1 d).1,M.ps,J M.hp M.pk⟩;have n:=h.apart M.hp M.hq;have R:=h.apart M.hq M.hp;have S:=h.apart M.hp M.hp;have G:=h.apart M.hq M.hq;have H:=h.apart M.ht M.hq;have I:=h.apart M.hq M.ht;have U:=h.apart M.ht M.ht;have V:=h.apart M.ht M.hp;have s:=h.apart M.hp M.ht;have ka:=hS (h.pr.yj a M.hp) (h.pr.yj q M.hq) W M.pi ea (n.2.1 (fun e=>E e.symm)) S.1 n.1 G.1 R.1 (n.2.2 (fun e=>E e.symm))
 refine nR (nm:=sb nm) (P1:=fun r=>∃o,LvM w a q i o r) (ka.mono ?_) (fun r la=>?_)
 ·rintro e w' ⟨rfl,sl,ba,D,N,ca⟩
  refine⟨rfl,?_,sl,⟨ba,D,N,ca⟩⟩
  have:=N.cell (i:=0) (v:=vG (sb (mN q.zb))) rfl
  rw[na]at this;exact this
 ·obtain⟨o,L⟩:=la;have ja:UA r f:=h.other M.hq M.hp M.ht (fun e=>y e.symm) (fun e=>C e.symm) L.zf;have F:∀k∈A,(if k.zb=a.zb then a.Vw i o else k).ze=k.ze/\(if k.zb=a.zb then a.Vw i o else k).zb=k.zb:=fun k d=>by
   by_cases c:k.zb=a.zb
   ·have:k=a:=T.inj k ((M.tm k).1 d).1 a M.hp c
    subst this;rw[if_pos rfl];exact⟨rfl,rfl⟩
   ·rw[if_neg c];exact⟨rfl,rfl⟩
  have K:(A.map fun k=>if k.zb=a.zb then a.Vw i o else k).map (fun k=>mN k.zb)=A.map fun k=>mN k.zb:=by
   rw[List.map_map];exact List.map_congr_left fun k d=>by simp only[Function.comp];rw[(F k d).2]
  have X:X1 r f (A.map fun k=>if k.zb=a.zb then a.Vw i o else k):=by
   refine⟨?_,fun k d=>?_,by rw[K];exact M.ts,by rw[List.length_map];exact J M.ht M.tk⟩
   ·rw[List.map_map,M.tk];exact List.map_congr_left fun k d=>((F k d).1).symm
   ·obtain⟨z,m,rfl⟩:=UC.1 d;obtain⟨b1,x,b2⟩:=(M.tm z).1 m
    by_cases c:z.zb=a.zb
    ·rw[if_pos c];exact L.par
    ·rw[if_neg c]
     exact h.other M.hq M.hp b1 (fun e=>c (by rw[e])) (fun e=>Q (by rw[e,M.qp]at b2;exact(XM b2).1)) L.zf
  have da:Vs nm=true:=WO (T.ok q M.hq).1 (by rw[M.qp];simp);have Z:∀k∈A.map fun k=>if k.zb=a.zb then a.Vw i o else k,mN k.zb≠nm:=fun k d e=>by
   obtain⟨z,m,rfl⟩:=UC.1 d;rw[(F z m).2]at e;obtain⟨b1,x,b2⟩:=(M.tm z).1 m;rw[b2,Wm]at e
   exact M.no z b1 (by rw[b2,e])
  refine(iG ja L.kid X nm da Z (k':=f.zb++[nm]) (Wm _ _) (fun e=>I.2.1 C e) H.1 U.1 G.1 I.1 (H.2.2 (fun e=>C e.symm))).mono ?_
  rintro e w' ⟨rfl,Y,u,P,ga,ha,O,ia⟩
  rw[K]at P;have aa:Y=zl:=oQ P M.tf;subst aa
  refine⟨rfl,o,u,⟨L.own,?_,?_,ga,ha,?_⟩⟩
  ·rcases ia with e|⟨g,e,j⟩
   ·exact .inl e
   ·exact .inr ⟨g,e,by have:=L.zf.size;omega⟩
  ·refine L.par.zf O (fun e=>?_) (fun g j e=>?_)
   ·rcases e with e|e|e
    ·exact s.2.1 y e
    ·exact n.2.1 (fun D=>E D.symm) e
    ·exact V.1 e
   ·have j:o.ownBlock=some g:=j;rw[L.own]at j
    rcases e with e|e|e
    ·exact s.1 (by rw[j,e])
    ·exact n.1 (by rw[j];exact congrArg some e)
    ·exact s.2.2 y g j e
  ·exact(L.zf.mono (fun b e=>.inl e)).trans (O.mono (fun b e=>by
    rcases e with e|e|e
    ·exact .inr (.inl e)
    ·exact .inl (.inr (.inl e))
    ·exact .inr (.inr e)))
def mvP (k k':List Bs)(y:Pw):Pw:={y with x:=we k k' y.x}
theorem sV(k k':List Bs)(y:Pw):Zg y (mvP k k' y):=⟨rfl,rfl,rfl,rfl,rfl⟩
theorem UJ.Zh(h:UJ τ t w bt za zn vw va ws zh)(M:Mv za q p f nm B i A zl){o u:Value}(m:MoM w q p f nm i o zl u w'):
  yw τ t w bt (za.map (gM q p f nm i o zl u)) zn vw va (ws.map (mvP q.zb (f.zb++[nm]))) (zh.map (mvP q.zb (f.zb++[nm]))) w':=by
 have T:=h.pr.tree;obtain⟨n1,n2,ga,W,X⟩:=M.ne;have ea:q≠p:=fun e=>n2 (by rw[e])
 have ca:q≠f:=fun e=>X (by rw[e])
 have ba:p≠f:=fun e=>W (by rw[e])
 have v:=M.gmv o u;have aa:=M.zn o u;have E:∀x,x∈za.map (gM q p f nm i o zl u)↔∃n∈za,x=gM q p f nm i o zl u n:=fun x=>by simp only[UC];exact⟨fun ⟨n,h,e⟩=>⟨n,h,e.symm⟩,fun ⟨n,h,e⟩=>⟨n,h,e.symm⟩⟩
 obtain⟨τ',J⟩:∃τ':Nat->yd,τ'=fun x=>if x<w.heap.size then τ x else if u.ownBlock=some x then .row t f.ze else .free:=⟨_,rfl⟩
 have G:∀x,x<w.heap.size -> τ' x = τ x:=fun x I=>by rw[J];simp[I]
 have K:∀b,Tch3 q p f b->((τ b).k=1\/(τ b).k=2)/\(τ b).prog t:=fun b hb=>by
  rcases hb with e|e|e
  ·exact h.tch M.hq M.hp b e
  ·exact h.tch M.ht M.ht b (.inl e)
  ·exact h.tch M.ht M.ht b (.inr (.inr e))
 have N:∀z∈za,z≠p->z≠q->z≠f->UA w' z:=fun z c c1 c2 l=>by
  refine(h.pr.yj z c).zf m.zf (fun e=>?_) (fun g D e=>?_)
  ·rcases e with (e|e|e)|e|e
   ·exact(h.apart c M.hp).2.1 c1 e
   ·exact(h.apart c M.hq).2.1 c2 e
   ·exact(h.apart M.hp c).1 e
   ·exact(h.apart c M.ht).2.1 l e
   ·exact(h.apart M.ht c).1 e
  ·rcases e with (e|e|e)|e|e
   ·exact(h.apart c M.hp).1 (by rw[D,e])
   ·exact(h.apart c M.hq).1 (by rw[D,e])
   ·exact(h.apart c M.hp).2.2 c1 g D e
   ·exact(h.apart c M.ht).1 (by rw[D,e])
   ·exact(h.apart c M.ht).2.2 l g D e
 obtain⟨r,H,hb⟩:=h.bk;obtain⟨S,da⟩:=Ww T H
 refine⟨τ',G,fun x I=>?_,?_,m.zf.X4 (fun b hb e=>⟨hb,(K b e).2⟩)⟩
 ·rw[J];simp only[Nat.not_lt.2 I,if_false]
  split
  ·exact .inr rfl
  ·exact .inl rfl
 refine h.new (τ' := τ') (M.tree o u) (fun n s=>?_) (fun n s=>?_) (fun a U b O e=>?_) H (r':=gM q p f nm i o zl u r) (by rw[VB,H];rfl) (v r S).2.1 m.zf (fun b _ e=>(K b e).1) G (fun y _=>sV _ _ y) (fun y F=>?_)
 ·obtain⟨z,c,rfl⟩:=(E n).1 s;have C:=aa z c;unfold gM at C ⊢
  by_cases c1:z.zb=q.zb
  ·rw[if_pos c1];exact m.kid
  ·rw[if_neg c1]at C ⊢
   by_cases c2:z.zb=p.zb
   ·rw[if_pos c2];exact m.par
   ·rw[if_neg c2]at C ⊢
    by_cases l:z.zb=f.zb
    ·rw[if_pos l];exact m.tar
    ·rw[if_neg l]at C ⊢;have L:=N z c (fun e=>c2 (by rw[e])) (fun e=>c1 (by rw[e])) (fun e=>l (by rw[e]))
     refine⟨?_,L.row⟩
     refine L.zl.trans ?_
     simp only[zc.cells]at C ⊢;rw[C]
 ·obtain⟨z,c,rfl⟩:=(E n).1 s;obtain⟨j,V⟩:=Vh c;obtain⟨Y,Z⟩:=h.pr.tags j z V;rw[(v z c).2.1]
  refine⟨by rw[G _ (h.pr.yj z c).lt];exact Y,fun g d=>?_⟩
  have old:∀g,z.sl.ownBlock=some g -> τ' g=.row t z.ze:=fun g e=>by rw[G _ ((h.pr.yj z c).row.lt g e).2];exact Z g e
  unfold gM at d
  by_cases c1:z.zb=q.zb
  ·rw[if_pos c1]at d;rw[T.inj z c q M.hq c1]at old ⊢
   exact old g d
  ·rw[if_neg c1]at d
   by_cases c2:z.zb=p.zb
   ·rw[if_pos c2]at d;have d:o.ownBlock=some g:=d;rw[T.inj z c p M.hp c2]at old ⊢
    exact old g (by rw[<-m.own1];exact d)
   ·rw[if_neg c2]at d
    by_cases l:z.zb=f.zb
    ·rw[if_pos l]at d;have d:u.ownBlock=some g:=d;rw[T.inj z c f M.ht l]at old ⊢
     rcases m.own2 with e|⟨g',e,R⟩
     ·exact old g (by rw[<-e];exact d)
     ·rw[d]at e;cases e;rw[J]
      simp[Nat.not_lt.2 R,d]
    ·rw[if_neg l]at d
     exact old g d
 ·obtain⟨z,c,rfl⟩:=(E a).1 U;obtain⟨y,F,rfl⟩:=(E b).1 O;rw[(v z c).2.1,(v y F).2.1]at e;rw[h.pr.uk z c y F e]
 ·obtain⟨n,s,P,Q⟩:=hb.lf y F
  refine⟨_,(E _).2 ⟨n,s,rfl⟩,(v n s).2.1.trans P,?_⟩
  rw[(v n s).1,Q];rfl
end
theorem sg{w:World}{a:Nat}(h:w.cell? (vA a 0)=some (vI 0)):
  CallsD prog 140 #[vP a,vP b] .returning w fun e c w'=>c=.returning/\(e=vT #[]/\w'=w):=by
 go_enter_d func140,ntmps140
 go_wp2
 go_end0
 exact⟨rfl,rfl⟩
theorem pL{w:World}{a:Nat}(j:(er != 0)=true)(h:w.cell? (vA a 0)=some (vI er))(hb:w.cell? (vA b 0)=some (.func (.func 95) #[] #[d,g])){M:World->Prop}
  (f:Calls prog 95 #[d,g] w fun e w'=>e=vT #[]/\M w') :
  CallsD prog 140 #[vP a,vP b] .returning w fun e i w'=>i=.returning/\(e=vT #[]/\M w'):=by
 go_enter_d func140,ntmps140
 go_wp2_with (go_at_call 95;refine f.mono ?_;rintro e k ⟨rfl,c⟩)
 go_end0
 exact⟨rfl,c⟩
theorem qH{w:World}{bt:Nat}{M1 M2 M3:World->Prop}(G:bt<w.heap.size)
  (v:∀c,Bw w c->w.heap.size+2<=c.heap.size->Calls prog 93 #[d,m] c fun e w'=>e=vT #[]/\zd (fun b=>b<w.heap.size) c w'/\M1 w')
  (x:∀c,M1 c->Calls prog 141 #[vP bt] c fun e w'=>e=vR (vI er)/\Bw c w')
  (u:er=0->∀c a,M1 c->w.heap.size<=c.heap.size->zd (fun b=>b=w.heap.size+1) c a->M2 a)
  (y:er≠0->∀c a,M1 c->w.heap.size<=c.heap.size->zd (fun b=>b=w.heap.size+1) c a->Calls prog 95 #[d,g] a fun e w'=>e=vT #[]/\zd (fun b=>b≠w.heap.size/\b≠w.heap.size+1) a w'/\M3 w') :
  Calls prog 87 #[vP bt,.func (.func 93) #[] #[d,m],.func (.func 95) #[] #[d,g]] w fun e w'=>e=vR (vI er)/\(er=0->M2 w')/\(er≠0->M3 w'):=by
 have I:∀(fn:Fn) (first cap:Array Value) (w:World),(Instr.makeFunc fn first cap).run prog w=.ok (.func fn first cap) w:=fun _ _ _ _=>rfl
 obtain⟨h,i⟩:∃h,h=(w.alloc (.cells #[.func (.func 95) #[] #[d,g]] 1)).alloc (.cells #[vI 0] 53):=⟨_,rfl⟩;have b1:zz h w.heap.size 1 (.func (.func 95) #[] #[d,g]):=by rw[i];exact(zz.new w 1 _).alloc _
 have b2:zz h (w.heap.size+1) 53 (vI 0):=by
  rw[i];have:=zz.new (w.alloc (.cells #[.func (.func 95) #[] #[d,g]] 1)) 53 (vI 0)
  rwa[Vv]at this
 have E:Bw w h:=by rw[i];exact cl
 have H:w.heap.size+2<=h.heap.size:=by rw[i];simp
 go_enter_defers func87,ntmps87
 go_upto_region 1 with fail
 rw[<-i];clear i
 go_wp2_with (first
  |(go_at_call 93;refine(v _ cl (by first|omega|(simp;omega))).mono ?_;rintro e C ⟨rfl,n,o⟩;have d1:=b1.zf n o_;have r:=b2.zf n o_;have F:=n.size)
  |(go_at_call 141;refine(x _ o).mono ?_;rintro e D ⟨rfl,l⟩;have t:=d1.below l d1.lt;have j:=r.below l r.lt;have q2:=j.cell;have J:=j.frozen))
 have q:zd (fun b=>b=w.heap.size+1) C (D.setCell (vA (w.heap.size+1) 0) (vI er)):=(zd.new (T:=fun b=>b=w.heap.size+1) l).setCell (p:=vA (w.heap.size+1) 0) rfl _;have g1:=(t.other (vA (w.heap.size+1) 0) (vI er) s_).cell;have g2:=(j.set (vI er)).cell
 by_cases k:er=0
 ·subst k
  refine leaves_cons (f:=140) (args:=#[vP (w.heap.size+1),vP w.heap.size]) s_ (by simp[go_sem]) ?_
  refine(sg (b:=w.heap.size) g2).mono ?_
  rintro e B z ⟨rfl,rfl,rfl⟩
  simp[Leaves,settle,results,results87,go_sem,g2]
  exact u rfl _ _ o o_ q
 ·refine leaves_cons (f:=140) (args:=#[vP (w.heap.size+1),vP w.heap.size]) s_ (by simp[go_sem]) ?_
  refine(pL (j_ k) g2 g1 (y k _ _ o o_ q)).mono ?_
  rintro e B z ⟨rfl,rfl,s,A⟩
  have g3:=((j.set (vI er)).zf s s_).cell
  simp[Leaves,settle,results,results87,go_sem,g3]
  exact⟨fun e=>absurd e k,fun _=>A⟩
section
variable {τ : Nat->yd}{t:Nat}{w:World}{bt:Nat}{za:List zc}{zn:Int}{vw va:Value}{ws zh:List Pw}{q p f:zc}{nm:Bs}{B A:List zc}{i zl:Nat}
theorem yw.trans{c:List zc}{τ':Nat->yd}(m1:∀b,b<w.heap.size -> τ' b = τ b)(g:∀b,w.heap.size<=b -> τ' b=.free\/(τ' b).prog t)(d:zd (fun b=>b<w.heap.size/\(τ b).prog t) w a)(h:yw τ' t a bt c zn Ey Et Ez BM w'):yw τ t w bt c zn Ey Et Ez BM w':=by
 obtain⟨τ2,g1,g2,g3,g4⟩:=h;have i:=d.size
 refine⟨τ2,fun b hb=>(g1 b o_).trans (m1 b hb),fun b hb=>?_,g3,d.Vf g4 (fun b hb e=>⟨hb,by have:=e.2;rw[m1 b hb]at this;exact this⟩)⟩
 by_cases f:b<a.heap.size
 ·rw[g1 b f];exact g b hb
 ·exact g2 b o_
theorem Mv.eR(M:Mv za q p f nm B i A zl){n:zc}(a:n∈za):xz (f.zb++[nm]) q.zb (xz q.zb (f.zb++[nm]) n.zb)=n.zb:=by
 by_cases c:q.zb <+: n.zb
 ·rw[WC c,WC (aE _ _),List.drop_left];obtain⟨tl,ht⟩:=c;rw[<-ht,List.drop_left]
 ·rw[V7 c,V7 (M.fresh n a)]
theorem Mv.ml(M:Mv za q p f nm B i A zl):p.zj=false:=by
 obtain⟨b,a1,a2,a,_⟩:=M.T.par q M.hq p.zb nm M.qp;rw[<-M.T.inj b a1 p M.hp a2];exact a
theorem Mv.back(M:Mv za q p f nm B i A zl)(o u:Value):∃t w m s,Mv (za.map (gM q p f nm i o zl u)) (gM q p f nm i o zl u q) (gM q p f nm i o zl u f) (gM q p f nm i o zl u p) nm t w m s:=by
 obtain⟨n1,n2,N,P,Q⟩:=M.ne;have T':=M.tree o u;have a:=M.gmv o u;have j:∀x,x∈za.map (gM q p f nm i o zl u)↔∃n∈za,x=gM q p f nm i o zl u n:=fun x=>by simp only[UC];exact⟨fun ⟨n,h,e⟩=>⟨n,h,e.symm⟩,fun ⟨n,h,e⟩=>⟨n,h,e.symm⟩⟩
 have l:(gM q p f nm i o zl u q).zb=f.zb++[nm]:=by rw[(a q M.hq).1,WC (List.prefix_refl _),List.drop_length,List.append_nil]
 have D:(gM q p f nm i o zl u f).zb=f.zb:=by rw[(a f M.ht).1,V7 M.ZO]
 have y:(gM q p f nm i o zl u p).zb=p.zb:=by rw[(a p M.hp).1,V7 N]
 have L:=(a p M.hp).2.2.1.trans M.ml;have H:=(j _).2 ⟨q,M.hq,rfl⟩;have G:=(j _).2 ⟨p,M.hp,rfl⟩;have mt:=(j _).2 ⟨f,M.ht,rfl⟩;generalize gM q p f nm i o zl u=g at *;obtain⟨t,b1,b2,b3⟩:=T'.zv (g f) mt;obtain⟨m,c1,c2,E⟩:=T'.zv (g p) G;obtain⟨w,K⟩:=Vh ((b2 (g q)).2 ⟨H,nm,by rw[l,D]⟩);have C:∀n∈za.map g,n.zb≠(g p).zb++[nm]:=fun n v e=>by
  obtain⟨z,b,rfl⟩:=(j n).1 v;rw[(a z b).1,y,<- M.qp]at e
  by_cases c:q.zb <+: z.zb
  ·rw[WC c]at e;exact M.fresh q M.hq ⟨_,e⟩
  ·rw[V7 c]at e;exact c (by rw[e];exact List.prefix_refl _)
 obtain⟨s,I⟩:=dK (nm:=nm) (m.map fun k=>mN k.zb) E (fun e=>by
  obtain⟨k,J,r⟩:=UC.1 e;obtain⟨d1,x,F⟩:=(c2 k).1 J;have r:mN k.zb=nm:=r;rw[F,Wm]at r
  exact C k d1 (by rw[F,r]))
 refine⟨t,w,m,s,⟨T',H,mt,G,by rw[l,D],L,by rw[l,y];exact M.fresh p M.hp,C,fun n v c=>?_,b1,b2,b3,K,c1,c2,E,I⟩⟩
 obtain⟨z,b,rfl⟩:=(j n).1 v;rw[l,(a z b).1]at c;rw[l,y,(a z b).1];have O:q.zb.length=p.zb.length+1:=by rw[M.qp];simp
 by_cases d:q.zb <+: z.zb
 ·rw[WC d]
  have:=(M.T.ok z b).2
  have:=d.length_le
  simp
  omega
 ·rw[V7 d]at c
  exact absurd c (M.fresh z b)
theorem Mv.ents(M:Mv za q p f nm B i A zl)(o u:Value):(za.map (gM q p f nm i o zl u)).map zc.zq=(za.map zc.zq).map (wg q.zb (f.zb++[nm])):=by
 rw[List.map_map,List.map_map]
 refine List.map_congr_left fun n d=>?_
 obtain⟨g1,g2,g3,g4,a,b,c,_⟩:=M.gmv o u n d;simp only[Function.comp,zc.zq,wg];rw[g1,g3,g4,a,b,c]
theorem yl.Zh(R:yl za Ws ws zh){b:List zc}(k k':List Bs)(e:∀y∈ws.map (mvP k k')++zh.map (mvP k k'),∃n∈b,n.ze=y.q/\n.zb=y.x.zb):yl b (Ws.map (we k k')) (ws.map (mvP k k')) (zh.map (mvP k k')):=by
 obtain⟨d,a1,a2,c⟩:=R.a
 refine⟨?_,⟨d.map (we k k'),?_,?_,?_⟩,e⟩
 ·rw[List.map_map,List.filter_map]
  have:=congrArg (List.map (we k k')) R.w
  rw[List.map_map]at this
  exact this
 ·rw[List.map_map,List.map_map]
  have:=congrArg (List.map (we k k')) a1
  rw[List.map_map,List.map_map]at this
  exact this
 ·rw[List.filter_map]
  exact a2.map _
 ·rw[List.pairwise_map]
  exact c
theorem jE(M:Mv za q p f nm B i A zl)(a:∀y∈l,∃n∈za,n.ze=y.q/\n.zb=y.x.zb):(l.map (mvP q.zb (f.zb++[nm]))).map (mvP (f.zb++[nm]) q.zb)=l:=by
 rw[List.map_map]
 conv=>rhs;rw[<-List.map_id l]
 refine List.map_congr_left fun y c=>?_
 obtain⟨n,b,_,e⟩:=a y c
 have:=M.eR b
 rw[e]at this;obtain⟨o,g,r⟩:=y;obtain⟨d,m,h,j,k⟩:=g;simp only[Function.comp,mvP,we,id];rw[this]
end
theorem qO{w:World}{P:World->Prop}(b1:zg w c 97 #[vP bq])(b2:zg w x 97 #[vP bt2])
  (b:Calls prog 94 #[vP bq,vP bt2] w fun e w'=>e=vT #[]/\P w') :
  Calls prog 93 #[vP c,vP x] w fun e w'=>e=vT #[]/\P w':=by
 have c1:=b1.cell 0;have c2:=b2.cell 0;simp only[List.getElem?_toArray,List.getElem?_cons_zero]at c1 c2
 go_enter func93,ntmps93
 go_wp2_with (go_at_call 94;refine b.mono ?_;rintro e d ⟨rfl,a⟩)
 go_end0
 exact⟨rfl,a⟩
theorem qP{w:World}{P:World->Prop}(b1:zg w c 97 #[vP bq])(b2:zg w x 97 #[vP bt2])
  (b:Calls prog 94 #[vP bq,vP bt2] w fun e w'=>e=vT #[]/\P w') :
  Calls prog 95 #[vP c,vP x] w fun e w'=>e=vT #[]/\P w':=by
 have c1:=b1.cell 0;have c2:=b2.cell 0;simp only[List.getElem?_toArray,List.getElem?_cons_zero]at c1 c2
 go_enter func95,ntmps95
 go_wp2_with (go_at_call 94;refine b.mono ?_;rintro e d ⟨rfl,a⟩)
 go_end0
 exact⟨rfl,a⟩
section
variable {τ : Nat->yd}{t:Nat}{w:World}{bt:Nat}{za:List zc}{zn:Int}{vw va:Value}{ws zh:List Pw}{q p f:zc}{nm:Bs}{B A:List zc}{i zl:Nat}
theorem ni(h:UJ τ t w bt za zn vw va ws zh)(R:yl za Ws ws zh)(M:Mv za q p f nm B i A zl)(ra:xm (Ws.map (we q.zb (f.zb++[nm]))))
  (b1:zg w c 97 #[vP q.ze]) (b2:zg w x 97 #[vP f.ze]) (b3:zg w gp 97 #[vP p.ze]) (d1:¬Tch3 q p f c) (da:¬Tch3 q p f gp) :
  Calls prog 87 #[vP bt,.func (.func 93) #[] #[vP c,vP x],.func (.func 95) #[] #[vP c,vP gp]] w
   fun e w'=>e=vR (vI (xo ((za.map zc.zq).map (wg q.zb (f.zb++[nm]))) (Ws.map (we q.zb (f.zb++[nm])))))/\(xo ((za.map zc.zq).map (wg q.zb (f.zb++[nm]))) (Ws.map (we q.zb (f.zb++[nm])))=0->∃o u,yw τ t w bt (za.map (gM q p f nm i o zl u)) zn vw va (ws.map (mvP q.zb (f.zb++[nm]))) (zh.map (mvP q.zb (f.zb++[nm]))) w')/\(xo ((za.map zc.zq).map (wg q.zb (f.zb++[nm]))) (Ws.map (we q.zb (f.zb++[nm])))≠0->∃s,s.map zc.zq=za.map zc.zq/\(∀n∈za,∃v∈s,v.ze=n.ze/\v.zb=n.zb/\v.zj=n.zj)/\yw τ t w bt s zn vw va ws zh w'):=by
 have T:=h.pr.tree;have j:∀z∈za,z.ze<w.heap.size/\∀g,z.sl.ownBlock=some g->g<w.heap.size:=fun z G=>⟨(h.pr.yj z G).lt,fun g d=>((h.pr.yj z G).row.lt g d).2⟩
 have ua:∀b,Tch3 q p f b->b<w.heap.size:=fun b hb=>by
  rcases hb with (e|e|e)|e|e
  ·rw[e];exact(j p M.hp).1
  ·rw[e];exact(j q M.hq).1
  ·exact(j p M.hp).2 b e
  ·rw[e];exact(j f M.ht).1
  ·exact(j f M.ht).2 b e
 obtain⟨Da,_,N⟩:=h.bk;have Y:∀o u l a,MoM w q p f nm i o zl u l->(∀g,u.ownBlock=some g->g≠w.heap.size+1)->zd (fun b=>b=w.heap.size+1) l a->MoM w q p f nm i o zl u a:=fun o u l a m D C=>by
  refine⟨m.own1,m.own2,m.par.zf C (fun e=>?_) (fun g d e=>?_),m.tar.zf C (fun e=>?_) (fun g d e=>D g d e),m.kid.zf C (fun e=>?_) (fun g d e=>?_),m.zf.Vf C (fun b hb e=>by omega)⟩
  ·have e:p.ze=w.heap.size+1:=e
   have:=(j p M.hp).1;omega
  ·have d:o.ownBlock=some g:=d;rw[m.own1]at d
   have:=(j p M.hp).2 g d;omega
  ·have e:f.ze=w.heap.size+1:=e
   have:=(j f M.ht).1;omega
  ·have e:q.ze=w.heap.size+1:=e
   have:=(j q M.hq).1;omega
  ·have:=(j q M.hq).2 g d;omega
 refine qH (M1:=fun l=>∃o u,MoM w q p f nm i o zl u l/\(∀g,u.ownBlock=some g->g≠w.heap.size/\g≠w.heap.size+1))
  (M2:=fun w'=>∃o u,yw τ t w bt (za.map (gM q p f nm i o zl u)) zn vw va (ws.map (mvP q.zb (f.zb++[nm]))) (zh.map (mvP q.zb (f.zb++[nm]))) w')
  (M3:=fun w'=>∃s,s.map zc.zq=za.map zc.zq/\(∀n∈za,∃v∈s,v.ze=n.ze/\v.zb=n.zb/\v.zj=n.zj)/\yw τ t w bt s zn vw va ws zh w') h.lts.1 (fun l hb G=>?_) (fun l F=>?_) (fun _ l a F G C=>?_) (fun _ l a F G C=>?_)
 ·have qa:=h.zf (τ':=Vq τ w.heap.size) (T:=fun _=>False) (zd.new hb) (fun _ _ h=>h.elim) (fun b hb=>VK hb)
  refine qO (P:=fun w'=>zd (fun b=>b<w.heap.size) l w'/\∃o u,MoM w q p f nm i o zl u w'/\(∀g,u.ownBlock=some g->g≠w.heap.size/\g≠w.heap.size+1)) (b1.below hb b1.lt) (b2.below hb b2.lt) ((gy qa M).mono ?_)
  rintro e w' ⟨rfl,o,u,m⟩
  refine⟨rfl,m.zf.mono ua,o,u,⟨m.own1,?_,m.par,m.tar,m.kid,(zd.new hb).trans m.zf⟩,fun g d=>?_⟩
  ·rcases m.own2 with e|⟨g,e,d⟩
   ·exact .inl e
   ·exact .inr ⟨g,e,o_⟩
  ·rcases m.own2 with e|⟨g',e,E⟩
   ·rw[e]at d
    have:=(j f M.ht).2 g d
    omega
   ·rw[d]at e;cases e;omega
 ·obtain⟨o,u,m,_⟩:=F;obtain⟨τ',m1,V,P,X⟩:=h.Zh M m;obtain⟨r,sa,hb⟩:=P.bk;obtain⟨pa,ca⟩:=Ww P.pr.tree sa
  have:=cI P.pr.tree P.pr.WY hb pa ca
  rw[c6 P.pr.tree (R.Zh _ _ hb.lf) ra,M.ents o u]at this
  exact this
 ·obtain⟨o,u,m,D⟩:=F
  exact⟨o,u,h.Zh M (Y o u l a m (fun g d=>(D g d).2) C)⟩
 ·obtain⟨o,u,m,D⟩:=F;have Aa:=Y o u l a m (fun g d=>(D g d).2) C;obtain⟨τ',m1,V,P,X⟩:=h.Zh M Aa;obtain⟨Ca,ta,Ba,Z,H⟩:=M.back o u;have d:=M.gmv o u;have S:(gM q p f nm i o zl u q).zb=f.zb++[nm]:=by rw[(d q M.hq).1,WC (List.prefix_refl _),List.drop_length,List.append_nil]
  have Q:(gM q p f nm i o zl u p).zb=p.zb:=by rw[(d p M.hp).1,V7 M.ne.2.2.1]
  have aa:=(b1.zf m.zf d1).zf C (h_ b1.lt);have ba:=(b3.zf m.zf da).zf C (h_ b3.lt);have J:=gy P H;rw[(d q M.hq).2.1,(d p M.hp).2.1]at J
  refine qP (P:=fun w'=>zd (fun b=>b≠w.heap.size/\b≠w.heap.size+1) a w'/\∃s,s.map zc.zq=za.map zc.zq/\(∀n∈za,∃v∈s,v.ze=n.ze/\v.zb=n.zb/\v.zj=n.zj)/\yw τ t w bt s zn vw va ws zh w') aa ba (J.mono ?_)
  rintro e w' ⟨rfl,K,L,W⟩
  have ea:gM q p f nm i o zl u p=p.Vw i o:=by unfold gM;rw[if_neg M.ne.2.1,if_pos rfl]
  have ga:gM q p f nm i o zl u f=f.Wl zl q.ze u:=by unfold gM;rw[if_neg M.ne.2.2.2.2,if_neg (fun e=>M.ne.2.2.2.1 e.symm),if_pos rfl]
  have O:=P.Zh H W;rw[S,Q,<- M.qp,jE M (fun y I=>N.lf y (UM _ I)),jE M (fun y I=>N.lf y (U8 _ I))]at O;have E:=H.gmv K L;have U:∀n∈za,(gM (gM q p f nm i o zl u q) (gM q p f nm i o zl u f) (gM q p f nm i o zl u p) nm ta K Z L (gM q p f nm i o zl u n)).zb=n.zb:=fun n k=>by
   rw[(E _ (VF k)).1,S,Q,<- M.qp,(d n k).1];exact M.eR k
  refine⟨rfl,W.zf.mono (fun b e=>?_),_,?_,fun n k=>?_,yw.trans m1 V X O⟩
  ·rcases e with (e|e|e)|e|e
   ·rw[e,(d f M.ht).2.1];have:=(j f M.ht).1;omega
   ·rw[e,(d q M.hq).2.1];have:=(j q M.hq).1;omega
   ·rw[ga]at e;exact D b e
   ·rw[e,(d p M.hp).2.1];have:=(j p M.hp).1;omega
   ·rw[ea]at e;have e:o.ownBlock=some b:=e;rw[m.own1]at e
    have:=(j p M.hp).2 b e;omega
  ·rw[List.map_map,List.map_map]
   refine List.map_congr_left fun n k=>?_
   obtain⟨_,_,g3,g4,ma,na,oa,_⟩:=d n k;obtain⟨_,_,ha,ia,ja,ka,la,_⟩:=E _ (VF k);simp only[Function.comp,zc.zq];rw[U n k,ha,ia,ja,ka,la,g3,g4,ma,na,oa]
  ·exact⟨_,VF (VF k),((E _ (VF k)).2.1).trans (d n k).2.1,U n k,((E _ (VF k)).2.2.1).trans (d n k).2.2.1⟩
end
theorem kG{g:Nat}{t:TypeId}(h:zg W g t #[.pointer none])(v:Value):zg (W.setCell (vA g 0) v) g t #[v]:=by simpa using h.set 0 v
theorem tq{w:World}{bt:Nat}(s s2:ByteArray)(c:er≠0)(b:Calls prog 91 #[vP bt,vG s,vG s2] w fun e w'=>e=vR (vI er)/\Bw w w'):
  Calls prog 57 #[vP bt,vG s,vG s2] w fun e w'=>e=vR (vI er)/\Bw w w':=by
 have d:(er != 0)=true:=by simpa using c
 go_enter func57,ntmps57
 go_wp2_with (go_at_call 91;refine b.mono ?_;rintro e f ⟨rfl,a⟩)
 exact Us (v:=vI er) (by simp[results,results57,go_sem]) rfl ⟨rfl,a⟩
theorem qQ{w:World}{bt:Nat}(s s2:ByteArray)(C:Calls prog 91 #[vP bt,vG s,vG s2] w fun e w'=>e=vR (vI 0)/\Bw w w')(i:∀W,Bw w W->W.cell? (vA bt 0)=some (vP br))
  {fv:ByteArray->Value} (n:∀W k,Bw w W->k=s\/k=s2->Calls prog 63 #[vP br,vG k] W fun e w'=>e=vR (fv k)/\Bw W w') (oa:fv s=vP bq) (pa:fv s2=vP bt2)
  (O:∀W,Bw w W->Calls prog 92 #[vP bq] W fun e w'=>e=vR (vP bp)/\w'=W) {Q:World->Prop}
  (K:∀W,Bw w W->∀c x gp,zg W c 97 #[vP bq]->zg W x 97 #[vP bt2]->zg W gp 97 #[vP bp]->w.heap.size<=c->w.heap.size<=x->w.heap.size<=gp ->
   Calls prog 87 #[vP bt,.func (.func 93) #[] #[vP c,vP x],.func (.func 95) #[] #[vP c,vP gp]] W fun e w'=>e=vR (vI er)/\Q w') :
  Calls prog 57 #[vP bt,vG s,vG s2] w fun e w'=>e=vR (vI er)/\Q w':=by
 have ta:∀(fn:Fn) (first cap:Array Value) (w:World),(Instr.makeFunc fn first cap).run prog w=.ok (.func fn first cap) w:=fun _ _ _ _=>rfl
 have L:=VE w _ (i w (Below.refl _ _))
 simp only at L
 go_enter func57,ntmps57
 go_upto_region 4 with (go_at_call 91;refine C.mono ?_;rintro e f ⟨rfl,A⟩)
 have qa:=A.size;have V:=i f A;have n1:¬(bt=f.heap.size):=o_;have n2:¬(bt=f.heap.size+1):=o_
 go_cut [8,9] from 18 to 29 (fun d m o=>∃g1 g2,d=vP g1/\m=vP g2/\Bw w o/\zg o g1 97 #[vP bq]/\zg o g2 97 #[vP bt2]/\w.heap.size<=g1/\w.heap.size<=g2)
 case first =>
  go_region_held3 (fun w'=>w'.cell? (vA bt 0)=some (vP br)) (first|go_keep|exact i _ cl)
   (first
   |(go_at_call 63;have _hh:=j;refine(n _ _ cl (by first|exact .inl rfl|exact .inr rfl)).mono ?_;rintro e b ⟨rfl,h⟩;have B:Bw w b:=s5 cl h;have ua:=B.size;have ra:=h.size;have sa:=i b B;have Z:¬(bt=b.heap.size):=o_;have aa:¬(bt=b.heap.size+1):=o_;(try (refine XH (p:=zg b (f.heap.size) 97 #[.pointer none]) ?_ ?_;(focus (refine zg.below ?_ h ?_;(focus ((repeat (first|(with_reducible assumption)|((with_reducible refine zg.new' ?_);simp;done)|(with_reducible refine zg.alloc ?_ _)|(with_reducible refine zg.drew ?_)|(with_reducible refine zg.drewN ?_ _)));done));(focus (first|omega|(simp;done)|(simp;omega)))));intro q;have E:=q.cell 0;have ba:=q.frozen 0;have ca:=q.lt;simp only[List.getElem?_toArray,List.getElem?_cons_zero]at E));(try (refine XH (p:=zg b (f.heap.size+1) 97 #[.pointer none]) ?_ ?_;(focus (refine zg.below ?_ h ?_;(focus ((repeat (first|(with_reducible assumption)|((with_reducible refine zg.new' ?_);simp;done)|(with_reducible refine zg.alloc ?_ _)|(with_reducible refine zg.drew ?_)|(with_reducible refine zg.drewN ?_ _)));done));(focus (first|omega|(simp;done)|(simp;omega)))));intro g;have F:=g.cell 0;have da:=g.frozen 0;have ea:=g.lt;simp only[List.getElem?_toArray,List.getElem?_cons_zero]at F));(try (refine XH (p:=zg b (a.heap.size) 97 #[.pointer none]) ?_ ?_;(focus (refine zg.below ?_ h ?_;(focus ((repeat (first|(with_reducible assumption)|((with_reducible refine zg.new' ?_);simp;done)|(with_reducible refine zg.alloc ?_ _)|(with_reducible refine zg.drew ?_)|(with_reducible refine zg.drewN ?_ _)));done));(focus (first|omega|(simp;done)|(simp;omega)))));intro r;have G:=r.cell 0;have ga:=r.frozen 0;have ha:=r.lt;simp only[List.getElem?_toArray,List.getElem?_cons_zero]at G));(try (refine XH (p:=zg b (a.heap.size+1) 97 #[.pointer none]) ?_ ?_;(focus (refine zg.below ?_ h ?_;(focus ((repeat (first|(with_reducible assumption)|((with_reducible refine zg.new' ?_);simp;done)|(with_reducible refine zg.alloc ?_ _)|(with_reducible refine zg.drew ?_)|(with_reducible refine zg.drewN ?_ _)));done));(focus (first|omega|(simp;done)|(simp;omega)))));intro t;have H:=t.cell 0;have ia:=t.frozen 0;have ja:=t.lt;simp only[List.getElem?_toArray,List.getElem?_cons_zero]at H)))
   |(go_at_call 63;refine(n _ _ cl (by first|exact .inl rfl|exact .inr rfl)).mono ?_;rintro e a ⟨rfl,j⟩;have z:Bw w a:=s5 cl j;have Aa:=z.size;have U:=j.size;have T:=i a z;have X:¬(bt=a.heap.size):=o_;have Y:¬(bt=a.heap.size+1):=o_;(try (refine XH (p:=zg a (f.heap.size) 97 #[.pointer none]) ?_ ?_;(focus (refine zg.below ?_ j ?_;(focus ((repeat (first|(with_reducible assumption)|((with_reducible refine zg.new' ?_);simp;done)|(with_reducible refine zg.alloc ?_ _)|(with_reducible refine zg.drew ?_)|(with_reducible refine zg.drewN ?_ _)));done));(focus (first|omega|(simp;done)|(simp;omega)))));intro u;have I:=u.cell 0;have ka:=u.frozen 0;have la:=u.lt;simp only[List.getElem?_toArray,List.getElem?_cons_zero]at I));(try (refine XH (p:=zg a (f.heap.size+1) 97 #[.pointer none]) ?_ ?_;(focus (refine zg.below ?_ j ?_;(focus ((repeat (first|(with_reducible assumption)|((with_reducible refine zg.new' ?_);simp;done)|(with_reducible refine zg.alloc ?_ _)|(with_reducible refine zg.drew ?_)|(with_reducible refine zg.drewN ?_ _)));done));(focus (first|omega|(simp;done)|(simp;omega)))));intro y;have J:=y.cell 0;have ma:=y.frozen 0;have na:=y.lt;simp only[List.getElem?_toArray,List.getElem?_cons_zero]at J))))
  all_goals go_wp2_with fail
  all_goals go_meet
  all_goals refine⟨_,_,rfl,rfl,cl,?_,?_,o_,o_⟩
  all_goals (repeat (first|(with_reducible assumption)|(with_reducible refine kG ?_ _)|((with_reducible refine zg.new' ?_);first|(simp;done)|(simp;omega))|(with_reducible refine zg.alloc ?_ _)|((with_reducible refine zg.other ?_ _ _ ?_);rotate_left;(focus (first|omega|(simp;done)|(simp;omega))))))
 case rest =>
  obtain⟨g1,g2,rfl,rfl,l,d,m,M,N⟩:=hcut;have c1:=d.cell 0;have l1:=d.lt;have l2:=m.lt;have D:=l.size;simp only[List.getElem?_toArray,List.getElem?_cons_zero]at c1;clear n i C
  go_wp2_with (first
   |(go_at_call 92;refine(O _ l).mono ?_;rintro e Ba ⟨rfl,R⟩;subst R;have S:=K _ (l.alloc D (.cells #[vP bp] 97)) g1 g2 _ (d.alloc _) (m.alloc _) (zg.new _ 97 _) M N D)
   |(go_at_call 87;refine S.mono ?_;rintro e Ca ⟨rfl,P⟩))
  exact Us (v:=vI er) (by simp[results,results57,go_sem]) rfl ⟨rfl,P⟩
theorem gr{za:List zc}{s:Bs}(h:tj za s s2=0):UB s=true/\s≠[]/\∃q f,zp za (s4 s)=some q/\zp za (s4 s2)=some f/\f.zj=false/\q.zb.isPrefixOf f.zb=false/\zp za (f.zb++[mN q.zb])=none/\YR za q f=false:=by
 unfold tj at h
 by_cases a:xg [s2,s] s=0
 ·rw[if_neg (j_ a)]at h;obtain⟨e,_,d⟩:=iB a
  refine⟨e,d,?_⟩
  cases hq:zp za (s4 s) with
  |none=>rw[hq]at h;cases h
  |some q =>
   rw[hq]at h
   simp only at h
   cases ht:zp za (s4 s2) with
   |none=>rw[ht]at h;cases h
   |some f =>
    rw[ht]at h
    simp only at h
    by_cases c1:f.zj=true
    ·rw[if_pos c1]at h;cases h
    ·rw[if_neg c1]at h
     by_cases c2:q.zb.isPrefixOf f.zb=true
     ·rw[if_pos c2]at h;cases h
     ·rw[if_neg c2]at h
      by_cases b:(zp za (f.zb++[mN q.zb])).isSome=true
      ·rw[if_pos b]at h;cases h
      ·rw[if_neg b]at h
       by_cases c:YR za q f=true
       ·rw[if_pos c]at h;cases h
       ·exact⟨q,f,rfl,rfl,by simpa using c1,Bool.eq_false_iff.2 c2,by simpa using b,by simpa using c⟩
 ·rw[if_pos (j_ a)]at h;exact absurd h a
theorem Mv.of{za:List zc}(T:zr za){q f:zc}(hq:q∈za)(ht:f∈za)(C:q.zb≠[])(s:f.zj=false)(t:q.zb.isPrefixOf f.zb=false)(h3:zp za (f.zb++[mN q.zb])=none)(l:YR za q f=false):∃p B i A zl,Mv za q p f (mN q.zb) B i A zl:=by
 have r:q.zb=q.zb.dropLast++[mN q.zb]:=by
  have:=(List.dropLast_concat_getLast C).symm
  conv=>lhs;rw[this]
  congr 2
  conv=>rhs;rw[this]
  rw[Wm]
 obtain⟨p,hp,z,_,_⟩:=T.par q hq _ _ r;obtain⟨B,b1,b2,b3⟩:=T.zv p hp;obtain⟨A,c1,c2,g⟩:=T.zv f ht;have j:q.zb=p.zb++[mN q.zb]:=by rw[z];exact r
 obtain⟨i,w⟩:=Vh ((b2 q).2 ⟨hq,_,j⟩);have d:∀n∈za,n.zb≠f.zb++[mN q.zb]:=fun n b e=>by rw[Zl T b e]at h3;cases h3
 obtain⟨zl,v⟩:=dK (nm:=mN q.zb) (A.map fun k=>mN k.zb) g (fun e=>by
  obtain⟨k,y,a⟩:=UC.1 e;obtain⟨d1,x,h⟩:=(c2 k).1 y;have a:mN k.zb=mN q.zb:=a;rw[h,Wm]at a
  exact d k d1 (by rw[h,a]))
 refine⟨p,B,i,A,zl,⟨T,hq,hp,ht,j,s,(fun e=>absurd (WK.2 e) (Bool.eq_false_iff.1 t)),d,fun n b c=>?_,b1,b2,b3,w,c1,c2,g,v⟩⟩
 unfold YR at l;have u:(za.filter fun m=>q.zb.isPrefixOf m.zb).all (okD ((f.zb.length:Int)+1-q.zb.length))=true:=by simpa using l
 have o:=List.all_eq_true.1 u n (Vu.2 ⟨b,WK.2 c⟩);unfold okD at o;have D:¬((n.zb.length:Int)+((f.zb.length:Int)+1-q.zb.length)>4):=by simpa using o
 have:=c.length_le
 omega
section
variable {τ : Nat->yd}{t:Nat}{w:World}{bt:Nat}{za:List zc}{zn:Int}{vw va:Value}{ws zh:List Pw}{q p f:zc}{nm:Bs}{B A:List zc}{i zl:Nat}
theorem ku(h:UJ τ t w bt za zn vw va ws zh)(R:yl za Ws ws zh)(s s2:ByteArray)(N:s.size<=2000000)(G:s2.size<=2000000)(L:tj za (bl s) (bl s2)=0)(hq:zp za (s4 (bl s))=some q)(ht:zp za (s4 (bl s2))=some f)(M:Mv za q p f nm B i A zl)(j:xm (Ws.map (we q.zb (f.zb++[nm]))))(F:xo ((za.map zc.zq).map (wg q.zb (f.zb++[nm]))) (Ws.map (we q.zb (f.zb++[nm])))=er):
  Calls prog 57 #[vP bt,vG s,vG s2] w fun e w'=>e=vR (vI er)/\((er=0->∃o u,yw τ t w bt (za.map (gM q p f nm i o zl u)) zn vw va (ws.map (mvP q.zb (f.zb++[nm]))) (zh.map (mvP q.zb (f.zb++[nm]))) w')/\(er≠0->∃g,g.map zc.zq=za.map zc.zq/\(∀n∈za,∃l∈g,l.ze=n.ze/\l.zb=n.zb/\l.zj=n.zj)/\yw τ t w bt g zn vw va ws zh w')):=by
 have T:=h.pr.tree;obtain⟨r,H,hb⟩:=h.bk;obtain⟨C,m⟩:=Ww T H;have y:=fw T h.pr.WY hb C m s s2 N G;rw[L]at y;obtain⟨d,a1,a2,_,I⟩:=T.par q M.hq p.zb nm M.qp
 have:d=p:=T.inj d a1 p M.hp a2
 subst this;have z:=fun W (j:Bw w W)=>gQ ((h.pr.yj q M.hq).below j)
 rw[I]at z;have D:∀b,Tch3 q d f b->b<w.heap.size:=fun b hb=>by
  rcases hb with (e|e|e)|e|e
  ·rw[e];exact(h.pr.yj d M.hp).lt
  ·rw[e];exact(h.pr.yj q M.hq).lt
  ·exact((h.pr.yj d M.hp).row.lt b e).2
  ·rw[e];exact(h.pr.yj f M.ht).lt
  ·exact((h.pr.yj f M.ht).row.lt b e).2
 refine qQ (br:=r.ze) (bq:=q.ze) (bt2:=f.ze) (bp:=d.ze) (fv:=fun k=>match zp za (s4 (bl k)) with|none=>.pointer none|some p=>zi p.ze) s s2 y (fun W a=>(hb.below a).bk.zl.cell 0) (fun W k a E=>XA T C m k (by rcases E with rfl|rfl<;>assumption) W (hb.below a).yj _ rfl) (by simp only[hq];rfl) (by simp only[ht];rfl) z (fun W a c x gp b1 b2 b3 O P Q=>?_)
 have K:=h.zf (τ':=Vq τ w.heap.size) (T:=fun _=>False) (zd.new a) (fun _ _ h=>h.elim) (fun b hb=>VK hb);have v:=ni K R M j b1 b2 b3 (fun e=>by have:=D _ e;omega) (fun e=>by have:=D _ e;omega);rw[F]at v
 refine v.mono ?_
 rintro e w' ⟨rfl,g1,g2⟩
 refine⟨rfl,fun e=>?_,fun e=>?_⟩
 ·obtain⟨o,u,g3⟩:=g1 e
  exact⟨o,u,yw.from a g3⟩
 ·obtain⟨g,g3,g4,J⟩:=g2 e
  exact⟨g,g3,g4,yw.from a J⟩
end
end Go.Proofs.YtphclnolomgjoaaGreatDoor
