import Derived.Test.YtphclnolomgjoaaGreatDoorE21
import Derived.Test.YtphclnolomgjoaaGreatDoorE16
set_option linter.unusedVariables false
set_option linter.unusedSimpArgs false
set_option maxRecDepth 100000
set_option maxHeartbeats 4000000
namespace Go.Proofs.YtphclnolomgjoaaGreatDoor
open Tryz
section
open Go.RowKit
variable {bp bq b g0 g1 g2 g3 g4 c gp j i n size:Nat}{a d er m0 m1 st zo:Int}{W' g w' f:World}{ok th:Bool}{Ws:List Wk}{e:TypeId}{v:Value}{xs:List Value}{l:List Pw}
theorem p5{w:World}{n:zc}(j:UA w n)(h:n.sl.ownBlock≠some n.ze){b c:Int}(b0:zg w g0 97 #[vP n.ze])(b1:zg w g1 35 #[vI a,vI b])(b2:zg w g2 35 #[vI c,vI d]):
  Calls prog 88 #[vP g0,vP g1,vP g2] w fun e w'=>e=vT #[]/\UA w' (n.U9 a b c d)/\zd (fun x=>x=n.ze) w w':=by
 have g:=fO j h a b c d;have c0:=b0.cell 0;have k:=b1.cell 0;have l:=b1.cell 1;have m:=b2.cell 0;have o:=b2.cell 1;simp only[s7]at c0 k l m o
 go_enter func88,ntmps88
 go_wp2_with (go_at_call 89;refine g.mono ?_;rintro e f ⟨rfl,i⟩)
 go_end0
 exact⟨rfl,i⟩
theorem p6{w:World}{n:zc}(j:UA w n)(h:n.sl.ownBlock≠some n.ze){b c:Int}(b0:zg w g0 97 #[vP n.ze])(b1:zg w g1 35 #[vI a,vI b])(b2:zg w g2 35 #[vI c,vI d]):
  Calls prog 90 #[vP g0,vP g1,vP g2] w fun e w'=>e=vT #[]/\UA w' (n.U9 a b c d)/\zd (fun x=>x=n.ze) w w':=by
 have g:=fO j h a b c d;have c0:=b0.cell 0;have k:=b1.cell 0;have l:=b1.cell 1;have m:=b2.cell 0;have o:=b2.cell 1;simp only[s7]at c0 k l m o
 go_enter func90,ntmps90
 go_wp2_with (go_at_call 89;refine g.mono ?_;rintro e f ⟨rfl,i⟩)
 go_end0
 exact⟨rfl,i⟩
def QM (w:World)(n:zc)(w':World):Prop:=UA w' n/\zd (fun x=>x=n.ze) w w'
theorem mH{w:World}{bt:Nat}{n:zc}{b c:Int}(p:UA w n)(y:n.sl.ownBlock≠some n.ze)(A:bt<w.heap.size) 
  (b0:zg w g0 97 #[vP n.ze]) (b1:zg w g1 35 #[vI a,vI b]) (b2:zg w g2 35 #[vI c,vI d]) (b3:zg w g3 35 #[vI m0,vI m1]) (u:zg w g4 35 #[vI n.b0,vI n.b1])
  (hd:(n.U9 a b c d).U9 m0 m1 n.b0 n.b1=n)
  (C:∀f,QM w (n.U9 a b c d) f->Calls prog 141 #[vP bt] f fun e w'=>e=vR (vI er)/\Bw f w') :
  Calls prog 87 #[vP bt,.func (.func 88) #[] #[vP g0,vP g1,vP g2],.func (.func 90) #[] #[vP g0,vP g3,vP g4]] w
   fun e w'=>e=vR (vI er)/\(er=0->QM w (n.U9 a b c d) w')/\(er≠0->QM w n w'):=by
 have s:=p.lt;have v:∀g,n.sl.ownBlock=some g->g<w.heap.size:=fun g j=>(p.row.lt g j).2
 have q:∀ {g t vs},zg w g t vs->t≠136->g≠n.ze:=fun {g t vs} hb ht e=>by
  subst e;have h:zg w n.ze 136 n.cells:=p.zl
  have:=hb.symm.trans h
  injection this with this;injection this with _ h3 _
  exact ht h3
 have F:=q b0 d_;have G:=q b3 d_;have H:=q u d_
 refine qI (M1:=QM w (n.U9 a b c d)) (M2:=QM w (n.U9 a b c d)) (M3:=QM w n) A (fun f hb=>?_) C (fun _ f l i E k=>?_) (fun _ f l i E k=>?_)
 ·refine(p5 (p.below hb) y (b0.below hb b0.lt) (b1.below hb b1.lt) (b2.below hb b2.lt)).mono ?_
  rintro e w' ⟨rfl,m,h⟩
  exact⟨rfl,h.mono (fun x e=>by rw[e];exact s),m,(zd.new hb).trans h⟩
 ·exact⟨i.1.zf k (fun e=>by have B:w.heap.size<=n.ze:=e;omega) (fun g j e=>by have:=v g j;omega),i.2.Vf k (fun x D e=>by omega)⟩
 ·have z:UA l (n.U9 a b c d):=i.1.zf k (fun e=>by have B:w.heap.size<=n.ze:=e;omega) (fun g j e=>by have:=v g j;omega);have o:zd (fun x=>x=n.ze) w l:=i.2.Vf k (fun x D e=>by omega)
  refine(p6 z y (b0.zf o F) (b3.zf o G) (u.zf o H)).mono ?_
  rintro e w' ⟨rfl,m,h⟩
  rw[hd]at m;have r:zd (fun x=>x=n.ze) l w':=h
  exact⟨rfl,r.mono (fun x e=>by rw[e];exact s),m,o.trans r⟩
theorem yt.yz{W:World}{za:List zc}{bt:Nat}{r:zc}{zw vw va:Value}{ws zh:List Pw}(h:yt W za bt r zw vw va ws zh)(v:U_ za)(T:zr za){n:zc}(q:n∈za)(k:zd (fun x=>x=n.ze) W W'){b c:Int}(s:UA W' (n.U9 a b c d)):
  yt W' (yz za n.zb a b c d) bt (if r.zb=n.zb then r.U9 a b c d else r) zw vw va ws zh:=by
 have f:zg W n.ze 136 n.cells:=(h.yj n q).zl;have u:(if r.zb=n.zb then r.U9 a b c d else r).ze=r.ze:=(XK n.zb a b c d r).ze
 refine⟨fun m o=>?_,?_,fun p hp=>?_,h.nm⟩
 ·obtain⟨x,l,rfl⟩:=UC.1 o
  by_cases e:x.zb=n.zb
  ·obtain rfl:=T.inj x l n q e;simp only[if_pos];exact s
  ·simp only[if_neg e]
   refine(h.yj x l).zf k (fun i=>e ?_) (fun g j i=>UY (h.yj x l).row f d_ (by rw[j,i]))
   rw[v x l n q i]
 ·rw[u];have hb:=h.bk
  exact⟨hb.zl.zf k (Wh hb.zl f d_),s8 hb.yc k (fun g j e=>UY hb.yc f d_ (by rw[j,e])),s8 hb.yr k (fun g j e=>UY hb.yr f d_ (by rw[j,e])),fun p hp=>(hb.zu p hp).zf k (Wh (hb.zu p hp) f d_),hb.sep,hb.nd,hb.inj,hb.len⟩
 ·obtain⟨m,o,t,i⟩:=h.lf p hp
  exact⟨_,VF o,(XK n.zb a b c d m).ze.trans t,(XK n.zb a b c d m).zb.trans i⟩
theorem U_.yz{za:List zc}(i:U_ za)(k:List Bs)(a b c d:Int):U_ (yz za k a b c d):=fun x j y l e=>by
 obtain⟨f,m,rfl⟩:=UC.1 j;obtain⟨g,h,rfl⟩:=UC.1 l;rw[(XK k a b c d f).ze,(XK k a b c d g).ze]at e;rw[i f m g h e]
theorem kH{w:World}{g:Nat}{t:TypeId}(h:zg w g t #[vI 0,vI 0])(a b:Value):zg ((w.setCell (vA g 0) a).setCell (vA g 1) b) g t #[a,b]:=by
 have:=(h.set 0 a).set 1 b
 simpa using this
theorem XH{p q:Prop}(h:p)(k:p->q):q:=k h
theorem YC{s:Bs}(h:s4 s=[]):s=[]:=by
 by_cases e:s=[]
 ·exact e
 ·unfold s4 at h;rw[if_neg e]at h
  have:=fP s
  rw[h]at this
  simp at this
theorem cX{za:List zc}{s:Bs}{b:Int}(h:kv za s ok a b=0):UB s=true/\s≠[]/\∃n,zp za (s4 s)=some n/\ok=true/\(n.zj=false->a=0/\b=0):=by
 unfold kv at h
 split at h
 ·cases h
 rename_i d
 split at h
 ·cases h
 rename_i e
 split at h
 ·cases h
 rename_i n i
 split at h
 ·cases h
 rename_i h3
 split at h
 ·cases h
 rename_i c
 refine⟨by cases f:UB s;simp[f]at d;rfl,e,n,i,by cases ok;simp at h3;rfl,fun g=>?_⟩
 rw[g]at c
 simp at c
 exact c
theorem sT{za:List zc}(T:zr za){n:zc}(a:n∈za)(d:n.zj=true):xt za n.zb=n.n0/\xr za n.zb=n.n1:=by
 have e:under za n.zb=[n]:=by
  have hp:(under za n.zb).Perm [n]:=by
   refine fJ (T.nd.filter _) s_ (fun x=>?_)
   simp only[under,Vu,List.mem_singleton,WK]
   constructor
   ·rintro⟨b,c⟩
    exact(T.inj n a x b (iV T a d _ x b rfl c)).symm
   ·rintro rfl
    exact⟨a,List.prefix_rfl⟩
  exact List.perm_singleton.1 hp
 unfold xt xr;rw[e]
 simp[xw,xv]
theorem pK{za:List zc}(T:zr za){n:zc}(e:n∈za)(a b c d:Int):(n.U9 a b c d).U9 (xt za n.zb) (xr za n.zb) n.b0 n.b1=n:=by
 obtain⟨ze,zb,zj,n0,n1,b0,b1,up,sl,zv⟩:=n
 cases zj
 ·simp[zc.U9]
 ·have:=sT T e rfl
  simp only at this
  simp[zc.U9,this.1,this.2]
theorem j3{za:List zc}(j:zr za){w:World}{bt:Nat}{r:zc}{zw vw va:Value}{ws zh:List Pw}(h:yt w za bt r zw vw va ws zh)(o:r∈za)(l:r.zb=[])(s:ByteArray)(p:s.size<=2000000)(a b c d:Int)(i:kv za (bl s) (UX [(a,b),(c,d)]) a b=er)(m:er≠0):
  Calls prog 56 #[vP bt,vG s,.agg #[vI a,vI b],.agg #[vI c,vI d]] w fun e w'=>e=vR (vI er)/\Bw w w':=by
 have g:=fun W (n:Bw w W)=>fm j (h.below n) o l s p a b c d
 rw[i]at g;have b0:zg ((w.alloc (.cells #[vI a,vI b] 35)).alloc (.cells #[vI c,vI d] 35)) w.heap.size 35 #[vI a,vI b]:=(zg.new w 35 _).alloc _;have b1:zg ((w.alloc (.cells #[vI a,vI b] 35)).alloc (.cells #[vI c,vI d] 35)) (w.heap.size+1) 35 #[vI c,vI d]:=zg.new' s_;have q:(er != 0)=true:=by simpa using m
 clear h i
 go_enter func56,ntmps56
 go_wp2_with (go_at_call 84;refine(g _ cl).mono ?_;rintro e f ⟨rfl,k⟩)
 refine Us (v:=vI er) (by simp[results,results56,go_sem]) rfl ⟨rfl,?_⟩
 exact s5 cl k
theorem j4{za:List zc}(x:zr za)(la:U_ za){w:World}{bt:Nat}{r:zc}{zw vw va:Value}{ws zh:List Pw}(h:yt w za bt r zw vw va ws zh)(V:r∈za)(P:r.zb=[])(s:ByteArray)(ma:s.size<=2000000)(a b c d:Int)(U:kv za (bl s) (UX [(a,b),(c,d)]) a b=0){n:zc}(L:zp za (s4 (bl s))=some n):
  Calls prog 56 #[vP bt,vG s,.agg #[vI a,vI b],.agg #[vI c,vI d]] w fun e w'=>e=vR (vI (WV (yz za n.zb a b c d) zh))/\(WV (yz za n.zb a b c d) zh=0->QM w (n.U9 a b c d) w')/\(WV (yz za n.zb a b c d) zh≠0->QM w n w'):=by
 obtain⟨na,Ka,Kb,ja,ia,Pa⟩:=cX U;rw[L]at ja;cases ja;obtain⟨q,La⟩:=VZ L;have ha:Uu a b=true/\Uu c d=true:=by simpa [UX] using ia
 have Ma:n.zb≠[]:=by rw[La];intro e;exact Ka (YC e)
 have ea:=x.yz Ma ha.1 ha.2;have S:=fun W (i:Bw w W)=>fm x (h.below i) V P s ma a b c d
 rw[U]at S;have I:=fun W (i:Bw w W) v na=>XA x V P s ma W (h.below i).yj v na
 rw[L]at I;have T:=fun W (i:Bw w W)=>Zo x q W (h.below i).yj
 have ba:=fun W (i:Bw w W)=>tn n.ze n.b0 n.b1 W (((h.below i).yj n q).cell rfl) (((h.below i).yj n q).cell rfl)
 have Na:n.sl.ownBlock≠some n.ze:=UY (h.yj n q).row (show zg w n.ze 136 n.cells from(h.yj n q).zl) d_;have Q:=fun W (i:Bw w W) g0 g1 g2 g3 g4 b0 b1 b2 b3 Ia=>mH (w:=W) (bt:=bt) (n:=n) (a:=a) (b:=b) (c:=c) (d:=d) (m0:=xt za n.zb) (m1:=xr za n.zb) (er:=WV (yz za n.zb a b c d) zh) ((h.below i).yj n q) Na ((h.below i).bk.zl.lt) (g0:=g0) (g1:=g1) (g2:=g2) (g3:=g3) (g4:=g4) b0 b1 b2 b3 Ia (pK x q a b c d)
  (fun Fb o=>cI ea (la.yz _ _ _ _ _) ((h.below i).yz la x q o.2 o.1) (VF V) ((XK n.zb a b c d r).zb.trans P))
 have ga:∀W m w',m.ze=n.ze->Bw w W->QM W m w'->QM w m w':=fun W m w' Ib i o=>⟨o.1,(zd.new i).trans o.2⟩
 generalize WV (yz za n.zb a b c d) zh=er at Q ⊢;have R:∀W,Bw w W->W.cell? (vA bt 0)=some (zi r.ze):=fun W (i:Bw w W)=>(h.below i).bk.zl.cell 0
 have Gb:=h.bk.zl.lt;simp only[zi]at R I T;generalize xt za n.zb=m0 at *;generalize xr za n.zb=m1 at *;have b0:zg ((w.alloc (.cells #[vI a,vI b] 35)).alloc (.cells #[vI c,vI d] 35)) w.heap.size 35 #[vI a,vI b]:=(zg.new w 35 _).alloc _;have b1:zg ((w.alloc (.cells #[vI a,vI b] 35)).alloc (.cells #[vI c,vI d] 35)) (w.heap.size+1) 35 #[vI c,vI d]:=zg.new' s_;have Lb:∀(fn:Fn) (first cap:Array Value) (w:World),(Instr.makeFunc fn first cap).run prog w=.ok (.func fn first cap) w:=fun _ _ _ _=>rfl
 clear h U L ia Pa ea
 go_enter func56,ntmps56
 go_upto_region 5 with (first
  |(go_at_call 84;refine(S _ cl).mono ?_;rintro e f ⟨rfl,G⟩;have J:Bw w f:=s5 cl G;have Ra:=R f J;have c0:=b0.below G u_;have c1:=b1.below G u_)
  |(go_at_call 63;refine(I _ J (vP n.ze) rfl).mono ?_;rintro e u ⟨rfl,H⟩;have O:Bw w u:=s5 J H;have d0:=c0.below H c0.lt;have d1:=c1.below H c1.lt))
 have F:Bw w (u.alloc (.cells #[vP n.ze] 97)):=O.alloc O.size _;have bq:zg (u.alloc (.cells #[vP n.ze] 97)) u.heap.size 97 #[vP n.ze]:=zg.new u 97 _;have X:=d0.alloc (.cells #[vP n.ze] 97);have Y:=d1.alloc (.cells #[vP n.ze] 97);generalize u.alloc (.cells #[vP n.ze] 97)=g at F bq X Y ⊢;generalize u.heap.size=j at bq ⊢;clear d0 d1 c0 c1 b0 b1 G H J O Ra S I R;have Ja:=bq.cell 0;have Jb:=bq.lt;simp only[s7]at Ja;have Hb:=F.size;have nq:¬(j=g.heap.size):=o_;have vb:¬(j=g.heap.size+1):=o_
 go_cut [11,12] from 27 to 30 (fun Sa q2 M=>∃g1 g2,Sa=vP g1/\q2=vP g2/\Bw w M/\zg M g1 35 #[vI m0,vI m1]/\zg M g2 35 #[vI n.b0,vI n.b1]/\Bw g M)
 case first =>
  go_region_held3 (fun w'=>w'.cell? (vA j 0)=some (vP n.ze)) (first|go_keep|exact zg.cell (vs:=#[vP n.ze]) (t:=97) oZ 0)
   (first
   |(go_at_call 85;refine(T _ cl).mono ?_;rintro e k ⟨rfl,K⟩;have ka:Bw g k:=s5 cl K;have Qa:Bw w k:=s5 F ka;have Nb:=ka.size;have Za:=Qa.size;have aa:zg k j 97 #[vP n.ze]:=zg.below s6 K g_;have Aa:=aa.cell 0;have qb:=aa.lt;have Va:¬(j=k.heap.size):=o_;have Wa:¬(j=k.heap.size+1):=o_;simp only[s7]at Aa;(try (refine XH (p:=zg k g.heap.size 35 #[vI 0,vI 0]) ?_ ?_;(focus (refine zg.below ?_ K ?_;(focus ((repeat (first|(with_reducible assumption)|((with_reducible refine zg.new' ?_);simp;done)|(with_reducible refine zg.alloc ?_ _)|(with_reducible refine zg.drew ?_)|(with_reducible refine zg.drewN ?_ _)));done));(focus (first|omega|(simp;done)|(simp;omega)))));intro D;have ta:=D.cell 0;have Ga:=D.cell 1;have mb:=D.frozen 0;have Db:=D.frozen 1;have nb:=D.lt;simp only[s7]at ta Ga));(try (refine XH (p:=zg k (g.heap.size+1) 35 #[vI 0,vI 0]) ?_ ?_;(focus (refine zg.below ?_ K ?_;(focus ((repeat (first|(with_reducible assumption)|((with_reducible refine zg.new' ?_);simp;done)|(with_reducible refine zg.alloc ?_ _)|(with_reducible refine zg.drew ?_)|(with_reducible refine zg.drewN ?_ _)));done));(focus (first|omega|(simp;done)|(simp;omega)))));intro E;have ua:=E.cell 0;have Ha:=E.cell 1;have ob:=E.frozen 0;have Eb:=E.frozen 1;have pb:=E.lt;simp only[s7]at ua Ha)))
   |(go_at_call 86;refine(ba _ cl).mono ?_;rintro e l ⟨rfl,y⟩;have da:Bw g l:=s5 cl y;have Oa:Bw w l:=s5 F da;have Mb:=da.size;have ab:=Oa.size;have ca:zg l j 97 #[vP n.ze]:=zg.below s6 y g_;have Ba:=ca.cell 0;have rb:=ca.lt;have Xa:¬(j=l.heap.size):=o_;have Ya:¬(j=l.heap.size+1):=o_;simp only[s7]at Ba;(try (refine XH (p:=zg l g.heap.size 35 #[vI 0,vI 0]) ?_ ?_;(focus (refine zg.below ?_ y ?_;(focus ((repeat (first|(with_reducible assumption)|((with_reducible refine zg.new' ?_);simp;done)|(with_reducible refine zg.alloc ?_ _)|(with_reducible refine zg.drew ?_)|(with_reducible refine zg.drewN ?_ _)));done));(focus (first|omega|(simp;done)|(simp;omega)))));intro z;have pa:=z.cell 0;have Ca:=z.cell 1;have bb:=z.frozen 0;have yb:=z.frozen 1;have cb:=z.lt;simp only[s7]at pa Ca));(try (refine XH (p:=zg l (g.heap.size+1) 35 #[vI 0,vI 0]) ?_ ?_;(focus (refine zg.below ?_ y ?_;(focus ((repeat (first|(with_reducible assumption)|((with_reducible refine zg.new' ?_);simp;done)|(with_reducible refine zg.alloc ?_ _)|(with_reducible refine zg.drew ?_)|(with_reducible refine zg.drewN ?_ _)));done));(focus (first|omega|(simp;done)|(simp;omega)))));intro A;have qa:=A.cell 0;have Da:=A.cell 1;have db:=A.frozen 0;have Ab:=A.frozen 1;have eb:=A.lt;simp only[s7]at qa Da));(try (refine XH (p:=zg l k.heap.size 35 #[vI 0,vI 0]) ?_ ?_;(focus (refine zg.below ?_ y ?_;(focus ((repeat (first|(with_reducible assumption)|((with_reducible refine zg.new' ?_);simp;done)|(with_reducible refine zg.alloc ?_ _)|(with_reducible refine zg.drew ?_)|(with_reducible refine zg.drewN ?_ _)));done));(focus (first|omega|(simp;done)|(simp;omega)))));intro B;have ra:=B.cell 0;have Ea:=B.cell 1;have gb:=B.frozen 0;have Bb:=B.frozen 1;have ib:=B.lt;simp only[s7]at ra Ea));(try (refine XH (p:=zg l (k.heap.size+1) 35 #[vI 0,vI 0]) ?_ ?_;(focus (refine zg.below ?_ y ?_;(focus ((repeat (first|(with_reducible assumption)|((with_reducible refine zg.new' ?_);simp;done)|(with_reducible refine zg.alloc ?_ _)|(with_reducible refine zg.drew ?_)|(with_reducible refine zg.drewN ?_ _)));done));(focus (first|omega|(simp;done)|(simp;omega)))));intro C;have sa:=C.cell 0;have Fa:=C.cell 1;have jb:=C.frozen 0;have Cb:=C.frozen 1;have kb:=C.lt;simp only[s7]at sa Fa))))
  all_goals go_wp2_with fail
  all_goals go_meet
  all_goals refine⟨_,_,rfl,rfl,cl,?_,?_,cl⟩
  all_goals (repeat (first|(with_reducible assumption)|(with_reducible refine kH ?_ _ _)|((with_reducible refine zg.new' ?_);first|(simp;done)|(simp;omega))|(with_reducible refine zg.alloc ?_ _)|((with_reducible refine zg.other ?_ _ _ ?_);rotate_left;(focus (first|omega|(simp;done)|(simp;omega))))))
 case rest =>
  obtain⟨g1,g2,rfl,rfl,Z,Ta,Ua,N⟩:=hcut;have oa:=Q _ Z j w.heap.size (w.heap.size+1) g1 g2 (bq.below N bq.lt) (X.below N X.lt) (Y.below N Y.lt) Ta Ua;clear Q T ba
  go_wp2_with (go_at_call 87;refine oa.mono ?_;rintro e Ob ⟨rfl,o⟩)
  refine Us (v:=vI er) (by simp[results,results56,go_sem]) rfl ⟨rfl,fun e=>ga _ _ _ rfl Z (o.1 e),fun e=>ga _ _ _ rfl Z (o.2 e)⟩
def yw (τ : Nat->yd)(t:Nat)(W:World)(bt:Nat)(za:List zc)(zn:Int)(vw va:Value)(ws zh:List Pw)(w':World):Prop :=
 ∃τ',(∀b,b<W.heap.size -> τ' b = τ b)/\(∀b,W.heap.size<=b -> τ' b=.free\/(τ' b).prog t)/\UJ τ' t w' bt za zn vw va ws zh/\zd (fun b=>b<W.heap.size/\(τ b).prog t) W w'
section
variable {τ : Nat->yd}{t:Nat}{W:World}{bt:Nat}{za:List zc}{zn:Int}{vw va:Value}{ws zh:List Pw}
theorem yw.from(hb:Bw W g)(h:yw (Vq τ W.heap.size) t g bt za zn vw va ws zh w'):yw τ t W bt za zn vw va ws zh w':=by
 obtain⟨τ',m1,f,i,j⟩:=h;have k:=hb.size
 refine⟨τ',fun b a=>by rw[m1 b o_,VK a],fun b d=>?_,i,(zd.new hb).step j (fun b a e=>by have:=e.2;rw[VK a]at this;exact⟨a,this⟩)⟩
 by_cases c:b<g.heap.size
 ·left;rw[m1 b c,XJ d]
 ·exact f b o_
theorem dg(h:yw τ t W bt za zn vw va ws zh f)(R:yl za Ws ws zh)(I:ye ⟨Ws,st,[]⟩)(n:ue za Ws zn)(o:0<=zn):
  Calls prog 51 #[vP bt,vI 0] f fun e w'=>∃ev,e=vT #[ev,vI 0]/\vm τ t W bt (Wg (za.map zc.zq) zn (UH (za.map zc.zq) ⟨Ws,st,[]⟩)) ev w':=by
 obtain⟨τ1,g1,g2,g3,c⟩:=h;obtain⟨r,d,J⟩:=g3.bk;obtain⟨m,k⟩:=Ww g3.pr.tree d
 refine(ZT g3.pr.tree g3.pr.WY J m k (s0:=⟨Ws,st,[]⟩) R I rfl).mono ?_
 rintro e w' ⟨s,l,a,u,q,rfl,m1,B,C,D,E,F,G⟩
 obtain⟨τ2,K,L,A,H,g,v,w,x,y,i,z⟩:=g3.set d (last':=zn) (ev:=a) ⟨s,l,u,q,m1,B,C,D,E,F,fun p hp=>.inl (G p hp)⟩;have M:=c.size
 refine⟨a,rfl,τ2,za,K,L,A,H,fun b hb=>(g b o_).trans (g1 b hb),fun b hb=>?_,w,rfl,ud.settled g3.pr.tree I n o x,y,fun b hb=>⟨by have:=(i b hb).1;omega,(i b hb).2⟩,c.Vf z (fun b hb e=>⟨hb,by have:=e.2;rw[g1 b hb]at this;exact this⟩)⟩
 by_cases j:b<f.heap.size
 ·rw[g b j];exact g2 b hb
 ·exact v b o_
theorem yw.same(h:UJ τ t W bt za zn vw va ws zh)(hb:Bw W w'):yw τ t W bt za zn vw va ws zh w' :=
 ⟨Vq τ W.heap.size,fun b hb=>VK hb,fun b hb=>.inl (XJ hb),h.zf (T:=fun _=>False) (zd.new hb) (fun _ _ h=>h.elim) (fun b hb=>VK hb),zd.new hb⟩
theorem yw.yz(h:UJ τ t W bt za zn vw va ws zh){n:zc}(j:n∈za)(o:n.zb≠[]){b c:Int}(p:Uu a b=true)(q:Uu c d=true)(u:QM W (n.U9 a b c d) w'):yw τ t W bt (yz za n.zb a b c d) zn vw va ws zh w':=by
 have T:=h.pr.tree;have s:=h.pr.WY;obtain⟨l,w⟩:=u;have g:zd (fun x=>x=n.ze) W w':=w;obtain⟨i,v⟩:=Vh j;have z:=(h.pr.tags i n v).1;obtain⟨r,B,A⟩:=h.bk;have k:=A.yz s T j g l
 refine⟨Vq τ W.heap.size,fun b hb=>VK hb,fun b hb=>.inl (XJ hb),?_,g.X4 (fun x f e=>⟨f,by rw[e,z];rfl⟩)⟩
 exact h.mapN (fun m _=>XK n.zb a b c d m) (T.yz o p q) g (fun x f e=>⟨n,j,e.symm⟩) (fun m y=>k.yj _ (VF y)) (fun x f=>VK f)
theorem yw.back(h:UJ τ t W bt za zn vw va ws zh){n:zc}(a:n∈za)(q:QM W n w'):yw τ t W bt za zn vw va ws zh w':=by
 have T:=h.pr.tree;have p:=h.pr.WY;obtain⟨k,d⟩:=q;obtain⟨i,s⟩:=Vh a;have u:=(h.pr.tags i n s).1;have l:zg W n.ze 136 n.cells:=(h.pr.yj n a).zl
 refine⟨Vq τ W.heap.size,fun b hb=>VK hb,fun b hb=>.inl (XJ hb),?_,d.X4 (fun x c e=>⟨c,by rw[e,u];rfl⟩)⟩
 have:=h.mapN (τ':=Vq τ W.heap.size) (f:=id) (fun m _=>⟨rfl,rfl,rfl,rfl,rfl,rfl⟩) (j_ T) d (fun x c e=>⟨n,a,e.symm⟩) (fun m j=>?_) (fun x c=>VK c)
 ·simpa using this
 ·by_cases e:m.ze=n.ze
  ·rw[p m j n a e];exact k
  ·exact(h.pr.yj m j).zf d e (fun g r o=>UY (h.pr.yj m j).row l d_ (by rw[r,o]))
end
def X5 (x:Tw)(s:Bs)(a b c d:Int):Out :=
 match zp x.za (s4 s) with
 |none=>x.same (kv x.za s (UX [(a,b),(c,d)]) a b)
 |some n=>if kv x.za s (UX [(a,b),(c,d)]) a b≠0 then x.same (kv x.za s (UX [(a,b),(c,d)]) a b) else if WV (yz x.za n.zb a b c d) x.zh≠0 then x.same (WV (yz x.za n.zb a b c d) x.zh)
  else Wg ((yz x.za n.zb a b c d).map zc.zq) x.zo (UH ((yz x.za n.zb a b c d).map zc.zq) ⟨x.Ws,x.st,[]⟩)
theorem ue.mapN{za:List zc}(h:ue za Ws zo){f:zc->zc}(b:∀n∈za,aw n (f n)):ue (za.map f) Ws zo :=
 ⟨fun y e=>by
  obtain⟨n,a,c,d⟩:=h.zj y e
  exact⟨f n,VF a,(b n a).zb.trans c,(b n a).zj.trans d⟩,h.zm⟩
theorem yl.mapN{za:List zc}{ws zh:List Pw}(R:yl za Ws ws zh){f:zc->zc}(b:∀n∈za,aw n (f n)):yl (za.map f) Ws ws zh :=
 R.b8 (fun n a=>⟨f n,VF a,(b n a).ze,(b n a).zb⟩)
theorem c7{W:World}{bt:Nat}(s:ByteArray)(a b c d:Int){M:World->Prop}{F:Value->World->Prop}
  (h:∀g,Bw W g->Calls prog 56 #[vP bt,vG s,.agg #[vI a,vI b],.agg #[vI c,vI d]] g fun e w'=>e=vR (vI er)/\M w')
  (i:∀g,M g->Calls prog 51 #[vP bt,vI er] g fun e w'=>∃ev,e=vT #[ev,vI er]/\F ev w') :
  Calls prog 29 #[vP bt,vG s,.agg #[vI a,vI b],.agg #[vI c,vI d]] W fun e w'=>∃ev,e=vT #[ev,vI er]/\F ev w':=by
 have b0:zg ((W.alloc (.cells #[vI a,vI b] 35)).alloc (.cells #[vI c,vI d] 35)) W.heap.size 35 #[vI a,vI b]:=(zg.new W 35 _).alloc _;have b1:zg ((W.alloc (.cells #[vI a,vI b] 35)).alloc (.cells #[vI c,vI d] 35)) (W.heap.size+1) 35 #[vI c,vI d]:=zg.new' s_
 go_enter func29,ntmps29
 go_wp2_with (first
  |(go_at_call 56;refine(h _ cl).mono ?_;rintro e f ⟨rfl,k⟩)
  |(go_at_call 51;refine(i _ k).mono ?_;rintro e l ⟨ev,rfl,j⟩))
 exact Us (v:=.tuple #[ev,vI er]) (by simp[results,results29,go_sem]) rfl ⟨ev,rfl,j⟩
theorem lO{τ : Nat->yd}{t K:Nat}{W:World}{x:Tw}(j:UJ τ t W x.bt x.za x.zn x.vw x.va x.ws x.zh)(A:US K x)(s:ByteArray)(D:s.size<=2000000)(a b c d:Int):
  Calls prog 29 #[vP x.bt,vG s,.agg #[vI a,vI b],.agg #[vI c,vI d]] W fun e w'=>∃ev,e=vR (.tuple #[ev,vI (X5 x (bl s) a b c d).err])/\vm τ t W x.bt (X5 x (bl s) a b c d) ev w':=by
 obtain⟨r,E,hb⟩:=j.bk;obtain⟨B,y⟩:=Ww j.pr.tree E;have T:=j.pr.tree;have J:=j.pr.WY;have v:=fun f (g:Bw W f)=>j.zf (τ':=Vq τ W.heap.size) (T:=fun _=>False) (zd.new g) (fun _ _ h=>h.elim) (fun b hb=>VK hb)
 by_cases k:kv x.za (bl s) (UX [(a,b),(c,d)]) a b=0
 ·obtain⟨R,F,n,q,H,Q⟩:=cX k;obtain⟨C,G⟩:=VZ q;have z:Uu a b=true/\Uu c d=true:=by simpa [UX] using H
  have I:n.zb≠[]:=by rw[G];intro e;exact F (YC e)
  have u:=fun f (g:Bw W f)=>j4 T J (hb.below g) B y s D a b c d k q
  have l:X5 x (bl s) a b c d=if WV (yz x.za n.zb a b c d) x.zh≠0 then x.same (WV (yz x.za n.zb a b c d) x.zh) else Wg ((yz x.za n.zb a b c d).map zc.zq) x.zo (UH ((yz x.za n.zb a b c d).map zc.zq) ⟨x.Ws,x.st,[]⟩):=by
   unfold X5;simp only[q];rw[if_neg (j_ k)]
  by_cases i:WV (yz x.za n.zb a b c d) x.zh=0
  ·rw[if_neg (j_ i)]at l;rw[l]
   refine c7 (M:=yw τ t W x.bt (yz x.za n.zb a b c d) x.zn x.vw x.va x.ws x.zh) s a b c d (fun f g=>(u f g).mono fun e w' h=>?_) (fun f o=>?_)
   ·obtain⟨h3,p,_⟩:=h;rw[i]at h3
    exact⟨h3,yw.from g (yw.yz (v f g) C I z.1 z.2 (p i))⟩
   ·have:=dg o (A.com.rel.mapN (fun m _=>XK n.zb a b c d m)) A.inv (by rw[<-A.zo];exact A.com.wkl.mapN (fun m _=>XK n.zb a b c d m)) (by rw[<-A.zo];exact A.com.cnt0)
    rw[<-A.zo]at this
    exact this
  ·rw[if_pos i]at l;rw[l]
   refine c7 (M:=yw τ t W x.bt x.za x.zn x.vw x.va x.ws x.zh) s a b c d (fun f g=>(u f g).mono fun e w' h=>?_) (fun f o=>?_)
   ·obtain⟨h3,_,p⟩:=h
    exact⟨h3,yw.from g (yw.back (v f g) C (p i))⟩
   ·refine(XX (w:=f) (bt:=x.bt) i).mono ?_
    rintro e w' ⟨rfl,rfl⟩
    obtain⟨τ',m1,N,O,P⟩:=o
    refine⟨_,rfl,τ',x.za,x.vw,x.va,x.ws,x.zh,m1,N,?_,A.L.symm,A.com,Vx _ _ _ _,(fun b hb=>by cases hb),P⟩
    show UJ τ' t _ x.bt x.za x.zo x.vw x.va x.ws x.zh
    rw[A.zo];exact O
 ·have l:X5 x (bl s) a b c d=x.same (kv x.za (bl s) (UX [(a,b),(c,d)]) a b):=by
   unfold X5
   cases zp x.za (s4 (bl s)) with
   |none=>rfl
   |some n=>simp only[ne_eq,k,not_false_eq_true,if_true]
  rw[l]
  refine c7 (M:=fun w'=>Bw W w') s a b c d (fun f g=>(j3 T (hb.below g) B y s D a b c d rfl k).mono fun e w' h=>⟨h.1,s5 g h.2⟩) (fun f o=>?_)
  refine(XX (w:=f) (bt:=x.bt) k).mono ?_
  rintro e w' ⟨rfl,rfl⟩
  exact⟨_,rfl,Zw j A o _⟩
theorem c6{za:List zc}(T:zr za){ws zh:List Pw}(R:yl za Ws ws zh)(c:xm Ws):WV za zh=if VU (za.map zc.zq) Ws=true then 11 else 0:=by
 have zb:∀n∈za,okQ za zh n=!X_ (za.map zc.zq) Ws n.zq:=fun n a=>by
  have b:=(T.ok n a).1;obtain⟨d,f⟩:=R.use c b;obtain⟨g,i⟩:=Xz T b;unfold okQ X_ sh0 sh1 xe;rw[d,f,g,i,Bool.eq_iff_iff]
  show(_&&_)=true↔(!(decide (yf (Ut Ws (kN n.zb))+0>xj (Uz (za.map zc.zq) (kN n.zb))+n.b0)||decide (yg (Ut Ws (kN n.zb))+0>xi (Uz (za.map zc.zq) (kN n.zb))+n.b1)))=true
  simp
  omega
 have e:za.all (okQ za zh)=!VU (za.map zc.zq) Ws:=by
  unfold VU;rw[List.any_map,List.not_any_eq_all_not];rw[Bool.eq_iff_iff,List.all_eq_true,List.all_eq_true]
  exact⟨fun h n a=>by have:=h n a;rw[zb n a]at this;simpa [Function.comp] using this,fun h n a=>by have:=h n a;rw[zb n a];simpa [Function.comp] using this⟩
 unfold WV;rw[e]
 cases VU (za.map zc.zq) Ws<;>rfl
theorem rn(za:List zc)(k:List Bs)(a b c d:Int)(h:∀n∈za,n.zb=k->n.zj=false->n.n0=a/\n.n1=b):vv (za.map zc.zq) k a b c d=(yz za k a b c d).map zc.zq:=by
 unfold vv yz;rw[List.map_map,List.map_map]
 exact List.map_congr_left fun n j=>by
  simp only[Function.comp]
  by_cases e:n.zb=k
  ·rw[if_pos (show n.zq.zb=k from e),if_pos e]
   have:=h n j e
   cases f:n.zj
   ·obtain⟨g,i⟩:=this f
    simp[zx.U9,zc.U9,zc.zq,f,g,i]
   ·simp[zx.U9,zc.U9,zc.zq,f]
  ·rw[if_neg (show ¬n.zq.zb=k from e),if_neg e]
theorem n7(za:List zc)(s:Bs)(ok:Bool)(a b:Int):ZN (za.map zc.zq) s ok a b=kv za s ok a b:=by
 unfold ZN kv yv;rw[WN]
 by_cases c:UB s=false
 ·simp[c]
 ·by_cases d:s=[]
  ·rw[if_neg c,if_pos d,if_neg c,if_pos d];rfl
  ·cases h3:zp za (s4 s) with
   |none=>simp[c,d]
   |some n=>simp[c,d,zc.zq]
section
variable {n₀ : Nat}{τ : Nat->yd}{W:World}{bw:Nat}{av:List Tw}{K t:Nat}{x:Tw}
theorem US.nodup(A:US K x):(x.L.map (·.zb)).Nodup:=by
 rw[A.L,List.map_map];exact A.com.tree.nodup
theorem oC(D:K<=2000000)(h:St n₀ τ W bw av (200*K))(v:∀y∈av,US K y)(z:av[t]?=some x)(s:ByteArray)(F:s.size<=2000000)(a b c d:Int):
  Yp n₀ τ W bw av.length K 29 #[vP x.bt,vG s,.agg #[vI a,vI b],.agg #[vI c,vI d]] 74 #[vP x.br,vG s,.agg #[vI a,vI b],.agg #[vI c,vI d]] xn:=by
 have A:=v x (Uq z);have N:x.st<=900000000:=by have:=A.stK;omega
 have Y:UX [(a,b),(c,d)]=(Uu a b&&Uu c d):=by simp[UX]
 have X:ZN x.L (bl s) (Uu a b&&Uu c d) a b=kv x.za (bl s) (UX [(a,b),(c,d)]) a b:=by rw[Y,A.L];exact n7 _ _ _ _ _
 have hp:=fun τ1 f (R:UJ τ1 t f x.bt x.za x.zn x.vw x.va x.ws x.zh)=>lO R A s F a b c d
 have T:=A.com.tree
 by_cases w:kv x.za (bl s) (UX [(a,b),(c,d)]) a b=0
 ·obtain⟨V,G,n,l,O,H⟩:=cX w;obtain⟨U,B⟩:=VZ l;have r:Uu a b=true/\Uu c d=true:=by simpa [UX] using O
  have Q:yv x.L (bl s)=0:=by unfold yv;rw[A.L,WN,l];simp[V,G]
  have Z:UW x.L (s4 (bl s))=some n.zq:=by rw[A.L,WN,l];rfl
  have p:=fun f (i:zy f x.br x.g x.cap x.L x.ao x.cW x.Ws x.zo x.st)=>nJ i A.ents A.bors A.nodup A.uj A.inv N s F a b c d Q Z r.1 r.2 H
  have M:vv x.L (s4 (bl s)) a b c d=(yz x.za n.zb a b c d).map zc.zq:=by
   rw[A.L,B]
   refine rn _ _ _ _ _ _ (fun m J S I=>?_)
   have:m=n:=T.inj m J n U (S.trans B.symm)
   subst this;obtain⟨ba,ca⟩:=H I
   have:=(T.zm m J).2.2.2.2 I
   omega
  have P:n.zb≠[]:=by rw[B];intro e;exact G (YC e)
  have T':=T.yz P r.1 r.2;have aa:=c6 T' (A.com.rel.mapN (fun m _=>XK n.zb a b c d m)) A.inv.yh.yh;have E:X5 x (bl s) a b c d=if VU ((yz x.za n.zb a b c d).map zc.zq) x.Ws=true then x.same 11 else Wg ((yz x.za n.zb a b c d).map zc.zq) x.zo (UH ((yz x.za n.zb a b c d).map zc.zq) ⟨x.Ws,x.st,[]⟩):=by
   unfold X5;simp only[l];rw[if_neg (j_ w),aa]
   cases VU ((yz x.za n.zb a b c d).map zc.zq) x.Ws<;>simp
  rw[M]at p;rw[E]at hp;generalize (yz x.za n.zb a b c d).map zc.zq=L' at *
  cases u:VU L' x.Ws
  ·rw[u]at hp;simp only[Bool.false_eq_true,if_false]at hp;obtain⟨l1,l2,q⟩:=YG A L' A.inv (zo:=x.zo) (h_ A.cntK)
   refine WM D h v z (o:=Wg L' x.zo (UH L' ⟨x.Ws,x.st,[]⟩)) l1 l2 q xn 0 hp (fun f i=>(p f i).mono fun e w' k=>?_)
   rcases k with ⟨j,_⟩|⟨_,sl,j,C⟩
   ·rw[u]at j;cases j
   ·exact⟨sl,j,C⟩
  ·rw[u]at hp;simp only[if_true]at hp;obtain⟨l1,l2,q⟩:=XO A 11
   refine WM D h v z (o:=x.same 11) l1 l2 q xn 0 hp (fun f i=>(p f i).mono fun e w' k=>?_)
   rcases k with ⟨_,j,C⟩|⟨j,_⟩
   ·exact⟨_,j,C⟩
   ·rw[u]at j;cases j
 ·have E:X5 x (bl s) a b c d=x.same (kv x.za (bl s) (UX [(a,b),(c,d)]) a b):=by
   unfold X5
   cases l:zp x.za (s4 (bl s)) with
   |none=>rfl
   |some n=>simp only;rw[if_pos w]
  rw[E]at hp;have p:=fun f (i:zy f x.br x.g x.cap x.L x.ao x.cW x.Ws x.zo x.st)=>nI i A.ents A.uj s F a b c d X w
  generalize kv x.za (bl s) (UX [(a,b),(c,d)]) a b=err at *;obtain⟨l1,l2,q⟩:=XO A err
  exact WM D h v z (o:=x.same err) l1 l2 q xn 0 hp (fun f i=>(p f i).mono fun e w' k=>⟨_,k.1,YE i k.2 err⟩)
end
theorem hC{W:World}(h:W.ownsRow 0 e size v n xs):∃a c,v=.slice a n c:=by
 rcases h.2 with ⟨b,d⟩|⟨g,cap,f,b,_⟩
 ·rw[d];exact⟨none,0,b⟩
 ·exact⟨_,_,b⟩
theorem has1{w:World}{x:Pw}(d:zg w x.ze 105 x.cells){m:zc}(g:UA w m){n:zc}(h:UA w n)(hq:n.ze=x.q)(hb:w.cell? (vA b 0)=some (zi m.ze)):
  Calls prog 193 #[zi x.ze,vP b] w fun e w'=>e=vR (.bool (x.q == m.ze))/\Bw w w':=by
 have a:=fun W (c:Bw w W)=>eB (h.below c) (g.below c)
 rw[hq]at a;have f:w.cell? (vA x.ze 1)=some (zi x.q):=d.cell 1;unfold zi at hb f ⊢;clear d;generalize (x.q == m.ze)=k at *
 go_enter func193,ntmps193
 go_wp2_with fail
 have i:=a w (Below.refl _ _);have j:=a w.drew (Below.refl _ _).drew
 go_region
 all_goals go_wp2
 all_goals go_ret
 all_goals exact⟨rfl,cl⟩
theorem rh{w:World}(h:wh w v l)(V:l.length<=100){m:zc}(X:UA w m)(O:∀p∈l,∃n,UA w n/\n.ze=p.q)(hb:w.cell? (vA b 0)=some (zi m.ze)):
  Calls prog 222 #[v,.func (.func 193) #[] #[vP b]] w fun e w'=>(∃r:Int,e=vR (vI r)/\decide (r >= 0)=l.any (fun p=>p.q == m.ze))/\Bw w w':=by
 have B:=VE w _ hb
 simp only at B
 obtain⟨a0,aa,D,J,da⟩:=h.form;have t:=fun W (a:Bw w W) i q (U:l[i]?=some q)=>(show ∃g cap,v=vS g l.length cap/\g<W.heap.size/\l.length<=cap/\cap<=maxLen/\W.cell? (vA g i)=some (zi q.ze) from by
  obtain⟨g,cap,u,P,h3,Q,R⟩:=h.zl U
  exact⟨g,cap,u,by have:=a.size;omega,h3,Q,(a.cell (p:=vA g i) P).trans R⟩)
 have E:=fun W (a:Bw w W) q (hq:q∈l)=>(show Calls prog 193 #[zi q.ze,vP b] W fun e w'=>e=vR (.bool (q.q == m.ze))/\Bw W w' from by
  obtain⟨n,d,e⟩:=O q hq
  exact has1 ((h.zu q hq).below a (h.zu q hq).lt) (X.below a) (d.below a) e ((a.cell (p:=vA b 0) B).trans hb))
 obtain⟨n,d⟩:∃n,n=l.length:=⟨_,rfl⟩;rw[<-d]at D t V J;have z:Hid (n=l.length):=d;clear d;subst D
 go_enter func222,ntmps222
 go_wp2
 go_loopw [8] (fun i wr=>∃k:Nat,k<=n/\i=vI k/\Bw w wr/\(l.take k).any (fun p=>p.q == m.ze)=false) (fun i _=>n-(intOf i).toNat)
 case atStart=>exact⟨0,Nat.zero_le _,rfl,Below.refl _ _,s_⟩
 case round =>
  obtain⟨k,ca,rfl,c,A⟩:=hrel;have F:Hid ((l.take k).any (fun p=>p.q == m.ze)=false):=A;clear A
  by_cases H:k<n
  ·have j:k<l.length:=by rw[<-z.out];exact H
   obtain⟨q,hq⟩:∃q,l[k]?=some q:=⟨_,Ur j⟩;obtain⟨g,cap,T,Y,Z,ea,S⟩:=t _ c k q hq;injection T with L _ M;subst L M;have y:=Uq hq;have x:=E _ c q y;have C:l.take (k+1)=l.take k++[q]:=by
    rw[VT j];rw[Ur j]at hq;cases hq;rfl
   have N:Hid ((l.take (k+1)).any (fun p=>p.q == m.ze)=(q.q == m.ze)):=by
    show _=_
    rw[C,List.any_append,F.out];simp
   have G:Hid ((q.q == m.ze)=true->l.any (fun p=>p.q == m.ze)=true):=fun ht=>by
    show _=true
    rw[W7]
    exact⟨q,y,ht⟩
   have ga:(k:Int)<n:=o_;have ba:(0:Int)<=k:=o_;unfold zi at S x;clear hq t E y C;generalize (q.q == m.ze)=I at *
   cases I
   ·go_wp2_with (go_at_call 193;refine x.mono ?_;rintro e f ⟨rfl,o⟩;have s:Bw w f:=s5 c o)
    exact⟨⟨k+1,o_,by go_num,s,N.out⟩,by simp[intOf];omega⟩
   ·go_wp2_with (go_at_call 193;refine x.mono ?_;rintro e f ⟨rfl,o⟩;have s:Bw w f:=s5 c o)
    go_ret
    exact⟨⟨(k:Int),rfl,by rw[G.out s_];simp⟩,s⟩
  ·have K:l.take k=l:=Vl (h_ z.out);have u:Hid (l.any (fun p=>p.q == m.ze)=false):=by have:=F.out;rw[K]at this;exact this
   go_wp2
   go_ret
   exact⟨⟨-1,rfl,by rw[u.out];rfl⟩,c⟩
theorem fS{w:World}(h:wh w v l)(g:l.length<=100){m:zc}(i:UA w m)(a:∀p∈l,∃n,UA w n/\n.ze=p.q)(hb:w.cell? (vA b 0)=some (zi m.ze)):
  Calls prog 194 #[v,.func (.func 193) #[] #[vP b]] w fun e w'=>e=vR (.bool (l.any (fun p=>p.q == m.ze)))/\Bw w w':=by
 have d:=rh h g i a hb;obtain⟨a0,s,rfl,o,t⟩:=h.form;generalize l.any (fun p=>p.q == m.ze)=k at *;clear h a
 go_enter func194,ntmps194
 go_wp2_with (go_at_call 222;refine d.mono ?_;rintro e f ⟨⟨r,rfl,j⟩,c⟩)
 go_ret
 exact⟨by rw[<-j];rfl,c⟩
theorem sL{za:List zc}{w:World}{bt:Nat}{r:zc}{zw vw va:Value}{ws zh:List Pw}(h:yt w za bt r zw vw va ws zh){m:zc}(s:m∈za):
  Calls prog 145 #[.pointer (some (vA bt 1)),vP m.ze] w fun e w'=>e=vR (.bool ((ws++zh).any (fun p=>p.q == m.ze)))/\Bw w w':=by
 have y:=h.bk.zl.lt;have C:=h.bk.len;have c:=fun W (a:Bw w W) b (hb:W.cell? (vA b 0)=some (zi m.ze))=>fS (w:=W) (v:=vw) (l:=ws) ⟨s8 (T:=fun _=>False) h.bk.yc (zd.new a) (fun _ _ e=>e),fun p hp=>(h.bk.zu p (UM _ hp)).below a (h.bk.zu p (UM _ hp)).lt⟩ o_ ((h.yj m s).below a) (fun p hp=>by
  obtain⟨n,i,e,_⟩:=h.lf p (UM _ hp)
  exact⟨n,(h.yj n i).below a,e⟩) hb
 have j:=fun W (a:Bw w W) b (hb:W.cell? (vA b 0)=some (zi m.ze))=>fS (w:=W) (v:=va) (l:=zh) ⟨s8 (T:=fun _=>False) h.bk.yr (zd.new a) (fun _ _ e=>e),fun p hp=>(h.bk.zu p (U8 _ hp)).below a (h.bk.zu p (U8 _ hp)).lt⟩ o_ ((h.yj m s).below a) (fun p hp=>by
  obtain⟨n,i,e,_⟩:=h.lf p (U8 _ hp)
  exact⟨n,(h.yj n i).below a,e⟩) hb
 have c2:w.cell? (vA bt 2)=some vw:=h.bk.zl.cell 2;have o:w.cell? (vA bt 3)=some va:=h.bk.zl.cell 3;obtain⟨a1,F,t⟩:=hC h.bk.yc;obtain⟨a2,q2,k⟩:=hC h.bk.yr;rw[List.any_append];rw[t]at c2 c;rw[k]at o j;generalize ws.any (fun p=>p.q == m.ze)=B at *;generalize zh.any (fun p=>p.q == m.ze)=G at *;generalize ws.length=n1 at *;generalize zh.length=n2 at *;have b3:zg (w.alloc (.cells #[vP m.ze] 97)) w.heap.size 97 #[vP m.ze]:=zg.new w 97 _;unfold zi at c j;generalize m.ze=E at *;clear h t k
 cases B
 ·go_enter func145,ntmps145
  go_wp2_with (first
   |(go_at_call 194;refine(c _ cl w.heap.size (zg.cell s6 0)).mono ?_;clear c;rintro e f ⟨rfl,g⟩;have d:Bw w f:=s5 cl g;have D:=(d.cell (p:=vA bt 3) y).trans o;have z:=b3.below g b3.lt)
   |(go_at_call 194;refine(j _ d w.heap.size (z.cell 0)).mono ?_;rintro e A ⟨rfl,u⟩;have x:Bw w A:=s5 d u))
  go_ret
  exact⟨rfl,x⟩
 ·go_enter func145,ntmps145
  go_wp2_with (first
   |(go_at_call 194;refine(c _ cl w.heap.size (zg.cell s6 0)).mono ?_;clear c;rintro e f ⟨rfl,g⟩;have d:Bw w f:=s5 cl g))
  go_ret
  exact⟨rfl,d⟩
def hZ (za:List zc)(l:List Pw)(s:Bs):Int :=
 if UB s=false then 1 else if s=[] then 2 else match zp za (s4 s) with
 |none=>3
 |some n=>if (!(n.zv.length == 0)||l.any (fun p=>p.q == n.ze))=true then 9 else 0
theorem dM{za:List zc}(T:zr za){p:zc}(hp:p∈za):p.zv.length<=1000:=by
 obtain⟨c,l,m,o⟩:=T.zv p hp;have d:(c.map (·.zb)).Nodup:=by
  have:(c.map fun k=>mN k.zb).Nodup:=o.imp (fun {a b} h e=>by subst e;rw[show yn a a=0 from XL a]at h;omega)
  rw[show(c.map fun k=>mN k.zb)=(c.map (·.zb)).map mN by simp]at this
  exact Yz this
 have i:∀x∈c.map (·.zb),x∈za.map (·.zb):=by
  intro k f;obtain⟨n,g,rfl⟩:=UC.1 f
  exact UC.2 ⟨n,((m n).1 g).1,rfl⟩
 have j:=YD d i;have h3:=T.len;rw[l]
 simp at j ⊢;omega
theorem fp{za:List zc}(E:zr za){w:World}{bt:Nat}{r:zc}{zw vw va:Value}{ws zh:List Pw}(h:yt w za bt r zw vw va ws zh)(I:r∈za)(H:r.zb=[])(s:ByteArray)(F:s.size<=2000000):
  Calls prog 96 #[vP bt,vG s] w fun e w'=>e=vR (vI (hZ za (ws++zh) (bl s)))/\Bw w w':=by
 have b:=fun W=>cJ s F W
 rw[dJ]at b;have M:=h.bk.zl.lt;have l:∀W,Bw w W->W.cell? (vA bt 0)=some (zi r.ze):=fun W (m:Bw w W)=>(h.below m).bk.zl.cell 0
 have g:=fun W (m:Bw w W) v y=>XA E I H s F W (h.below m).yj v y
 have j:=fun n (o:n∈za) W (m:Bw w W)=>po ((h.below m).yj n o) (dM E o)
 have i:=fun n (o:n∈za) W (m:Bw w W)=>sL (h.below m) o
 unfold zi at l;unfold hZ
 cases y:UB (bl s)
 ·rw[y]at b;simp only[if_true]at b ⊢;clear g l j i
  go_enter func96,ntmps96
  go_wp2_with (go_at_call 132;refine(b _).mono ?_;rintro e f ⟨rfl,d⟩)
  refine Us (v:=vI 1) (by simp[results,results96,go_sem]) rfl ⟨rfl,?_⟩
  exact s5 cl d
 rw[y]at b;simp only[Bool.true_eq_false,if_false]at b ⊢
 by_cases B:bl s=[]
 ·have J:s=⟨#[]⟩:=Wy (B.trans XP.symm);simp only[B,if_true]at b ⊢;clear g l j i;subst J
  go_enter func96,ntmps96
  go_wp2_with (go_at_call 132;refine(b _).mono ?_;rintro e f ⟨rfl,d⟩)
  refine Us (v:=vI 2) (by simp[results,results96,go_sem]) rfl ⟨rfl,?_⟩
  exact s5 cl d
 simp only[B,if_false]at b ⊢
 cases u:zp za (s4 (bl s)) with
 |none =>
  rw[u]at g;clear u j i;unfold zi at g
  go_enter func96,ntmps96
  go_wp2_with (first
   |(go_at_call 132;refine(b _).mono ?_;rintro e f ⟨rfl,d⟩;have a:Bw w f:=s5 cl d;have C:=l f a)
   |(go_at_call 63;refine(g _ a (.pointer none) rfl).mono ?_;rintro e t ⟨rfl,k⟩;have c:Bw w t:=s5 a k))
  refine Us (v:=vI 3) (by simp[results,results96,go_sem]) rfl ⟨rfl,?_⟩
  exact c
 |some n =>
  obtain⟨o,N⟩:=VZ u;rw[u]at g
  replace j:=j n o
  replace i:=i n o
  clear u;simp only[zi]at g
  dsimp only
  generalize (n.zv.length == 0)=K at *;generalize (ws++zh).any (fun p=>p.q == n.ze)=L at *;clear h
  cases K
  ·simp only[Bool.not_false,Bool.true_or,if_true];clear i
   go_enter func96,ntmps96
   go_wp2_with (first
    |(go_at_call 132;refine(b _).mono ?_;rintro e f ⟨rfl,d⟩;have a:Bw w f:=s5 cl d;have C:=l f a)
    |(go_at_call 63;refine(g _ a (vP n.ze) rfl).mono ?_;rintro e t ⟨rfl,k⟩;have c:Bw w t:=s5 a k)
    |(go_at_call 144;refine(j _ c).mono ?_;rintro e G ⟨rfl,x⟩;subst x))
   refine Us (v:=vI 9) (by simp[results,results96,go_sem]) rfl ⟨rfl,?_⟩
   exact c
  ·simp only[Bool.not_true,Bool.false_or]
   cases L
   ·simp only[Bool.false_eq_true,if_false]
    go_enter func96,ntmps96
    go_wp2_with (first
     |(go_at_call 132;refine(b _).mono ?_;rintro e f ⟨rfl,d⟩;have a:Bw w f:=s5 cl d;have C:=l f a)
     |(go_at_call 63;refine(g _ a (vP n.ze) rfl).mono ?_;rintro e t ⟨rfl,k⟩;have c:Bw w t:=s5 a k)
     |(go_at_call 144;refine(j _ c).mono ?_;rintro e G ⟨rfl,x⟩;subst x)
     |(go_at_call 145;refine(i _ c).mono ?_;rintro e D ⟨rfl,z⟩;have A:Bw w D:=s5 c z))
    refine Us (v:=vI 0) (by simp[results,results96,go_sem]) rfl ⟨rfl,?_⟩
    exact A
   ·simp only[if_true]
    go_enter func96,ntmps96
    go_wp2_with (first
     |(go_at_call 132;refine(b _).mono ?_;rintro e f ⟨rfl,d⟩;have a:Bw w f:=s5 cl d;have C:=l f a)
     |(go_at_call 63;refine(g _ a (vP n.ze) rfl).mono ?_;rintro e t ⟨rfl,k⟩;have c:Bw w t:=s5 a k)
     |(go_at_call 144;refine(j _ c).mono ?_;rintro e G ⟨rfl,x⟩;subst x)
     |(go_at_call 145;refine(i _ c).mono ?_;rintro e D ⟨rfl,z⟩;have A:Bw w D:=s5 c z))
    refine Us (v:=vI 9) (by simp[results,results96,go_sem]) rfl ⟨rfl,?_⟩
    exact A
theorem rV{a b:Bs}(h:yn a b<0):¬yn b a<0:=fun c=>by
 have:yn a b = - yn b a:=bY a b
 omega
theorem q3{ns:List Bs}(l:ns.Pairwise fun a b=>yn a b<0){x:Bs}(j:ns[i]?=some x){zl:Nat}(h:wm (ns.take i++ns.drop (i+1)) x zl th):zl=i:=by
 obtain⟨p,n,h3,_⟩:=h;have g:=(Uy.1 j).1;have m:ns[i]=x:=by rw[Ur g]at j;injection j
 have o:(ns.take i++ns.drop (i+1)).length=ns.length-1:=by simp;omega
 rcases Nat.lt_trichotomy zl i with c|c|c
 ·have d:zl<ns.length:=o_;have e:(ns.take i++ns.drop (i+1))[zl]?=some ns[zl]:=by
   rw[Wu t_,List.getElem?_take_of_lt c,Ur d]
  have k:=h3 zl _ (Nat.le_refl _) e;have f:=List.pairwise_iff_getElem.1 l zl i d g c;rw[m]at f
  omega
 ·exact c
 ·have d:i+1<ns.length:=o_;have e:(ns.take i++ns.drop (i+1))[i]?=some ns[i+1]:=by
   rw[Wp t_,List.getElem?_drop];rw[show i+1+(i-(ns.take i).length)=i+1 by simp;omega];rw[Ur d]
  have k:=n i _ c e;have f:=List.pairwise_iff_getElem.1 l i (i+1) g d o_;rw[m]at f
  exact absurd k (rV f)
theorem js{za:List zc}(T:zr za){p:zc}(hp:p∈za)(q:zc)(i:Nat)(sl:Value):(xu za q p i sl).map zc.zq=xa (za.map zc.zq) q.zb:=by
 unfold xu xa;rw[List.map_map,List.filter_map]
 refine List.map_congr_left fun n a=>?_
 simp only[Function.comp]
 by_cases h:n.zb=p.zb
 ·rw[if_pos h]
  have:n=p:=T.inj n (Vu.1 a).1 p hp h
  rw[this];rfl
 ·rw[if_neg h]
def xo (L:List zx)(Ws:List Wk):Int:=if VU L Ws=true then 11 else 0
theorem lS{w:World}{nm:ByteArray}{P:World->Prop}(b1:zg w gp 97 #[vP bp])(b2:zg w c 9 #[vG nm])(b3:zg w j 97 #[vP bq])
  (d:Calls prog 82 #[vP bp,vG nm,vP bq] w fun e w'=>e=vT #[]/\P w') :
  Calls prog 98 #[vP gp,vP c,vP j] w fun e w'=>e=vT #[]/\P w':=by
 have c1:=b1.cell 0;have c2:=b2.cell 0;have a:=b3.cell 0;simp only[List.getElem?_toArray,List.getElem?_cons_zero]at c1 c2 a
 go_enter func98,ntmps98
 go_wp2_with (go_at_call 82;refine d.mono ?_;rintro e f ⟨rfl,b⟩)
 go_end0
 exact⟨rfl,b⟩
section
variable {τ : Nat->yd}{t:Nat}{w:World}{bt:Nat}{za:List zc}{zn:Int}{vw va:Value}{ws zh:List Pw}
theorem mA(h:UJ τ t w bt za zn vw va ws zh)(R:yl za Ws ws zh)(Fa:xm Ws){q p:zc}(hq:q∈za)(hp:p∈za){x:Bs}(o:q.zb=p.zb++[x])(O:q.up=some p.ze)(Ka:q.zv=[])
  (ia:∀y∈ws++zh,y.q≠q.ze) (b1:zg w gp 97 #[vP p.ze]) (b2:zg w c 9 #[vG (sb x)]) (b3:zg w j 97 #[vP q.ze]) (d1:¬uc p q gp) (ma:¬uc p q c) (na:¬uc p q j) :
  Calls prog 87 #[vP bt,.func (.func 97) #[vP q.ze] #[],.func (.func 98) #[] #[vP gp,vP c,vP j]] w
   fun e w'=>e=vR (vI (xo (xa (za.map zc.zq) q.zb) Ws))/\(xo (xa (za.map zc.zq) q.zb) Ws=0->∃i sl,UJ (Vq τ w.heap.size) t w' bt (xu za q p i sl) zn vw va ws zh/\zd (uc p q) w w')/\(xo (xa (za.map zc.zq) q.zb) Ws≠0->∃sl,BkM w p q sl w'):=by
 have T:=h.pr.tree;obtain⟨m,A,B,C⟩:=T.zv p hp;obtain⟨i,s⟩:=Vh ((B q).2 ⟨hq,x,o⟩);have E:q≠p:=fun e=>by rw[e]at o;have:=congrArg List.length o;simp at this
 have Y:mN q.zb=x:=by rw[o];exact Wm _ _
 have Z:m.length<=1000:=by have:=dM T hp;rw[A]at this;simpa using this
 have Ea:∀W,Bw w W->X1 W p m:=fun W ka=>⟨A,fun k v=>(h.pr.yj k ((B k).1 v).1).below ka,C,Z⟩
 have u:=h.apart hp hq;have G:=h.apart hq hp;have H:=h.apart hp hp;have I:=h.apart hq hq;have Ca:=(h.pr.yj p hp).lt;have Ja:=(h.pr.yj q hq).lt;have L:∀g,p.sl.ownBlock=some g->g<w.heap.size:=fun g f=>((h.pr.yj p hp).row.lt g f).2
 have ha:∀g,q.sl.ownBlock=some g->g<w.heap.size:=fun g f=>((h.pr.yj q hq).row.lt g f).2
 have U:∀b,uc p q b->b<w.heap.size:=fun b hb=>by
  rcases hb with rfl|rfl|e
  ·exact Ca
  ·exact Ja
  ·exact L b e
 have aa:∀sl d,LvM w p q i sl d->UJ (Vq τ w.heap.size) t d bt (xu za q p i sl) zn vw va ws zh:=fun sl d M=>h.left hq hp o Ka A B C s ia M
 have X:∀sl d l,LvM w p q i sl d->zd (fun b=>w.heap.size<=b) d l->LvM w p q i sl l:=fun sl d l M n=>by
  refine⟨M.own,M.par.zf n (fun e=>by have oa:w.heap.size<=p.ze:=e;omega) (fun g f e=>?_),M.kid.zf n (fun e=>by have oa:w.heap.size<=q.ze:=e;omega) (fun g f e=>?_),M.zf.Vf n (fun b hb e=>by omega)⟩
  ·have f:sl.ownBlock=some g:=f;rw[M.own]at f
   have:=L g f;omega
  ·have:=ha g f;omega
 refine tH (M1:=fun d=>∃sl,LvM w p q i sl d) (M2:=fun w'=>∃i sl,UJ (Vq τ w.heap.size) t w' bt (xu za q p i sl) zn vw va ws zh/\zd (uc p q) w w') (M3:=fun w'=>∃sl,BkM w p q sl w') h.lts.1 (fun d hb=>?_) (fun d z=>?_) (fun _ d l z Ha n=>?_) (fun _ d l z Ha n=>?_)
 ·refine(hS ((h.pr.yj p hp).below hb) ((h.pr.yj q hq).below hb) (Ea d hb) s O (u.2.1 (fun e=>E e.symm)) H.1 u.1 I.1 G.1 (u.2.2 (fun e=>E e.symm))).mono ?_
  rintro e w' ⟨rfl,sl,pa,qa,ra,N⟩
  exact⟨rfl,N.mono U,sl,⟨pa,qa,ra,(zd.new hb).trans N⟩⟩
 ·obtain⟨sl,M⟩:=z;have P:=aa sl d M;obtain⟨r,Ga,hb⟩:=P.bk;obtain⟨Da,ja⟩:=Ww P.pr.tree Ga
  have:=cI P.pr.tree P.pr.WY hb Da ja
  rw[c6 P.pr.tree (Ws:=Ws) (ws:=ws) ⟨R.w,R.a,hb.lf⟩ Fa,js T hp]at this
  exact this
 ·obtain⟨sl,M⟩:=z;have M2:=X sl d l M n
  exact⟨i,sl,aa sl l M2,M2.zf⟩
 ·obtain⟨sl,M⟩:=z;have M2:=X sl d l M n;have V:=dN C;have K:(m.take i++m.drop (i+1)).Sublist m:=by
   conv=>rhs;rw[<-List.take_append_drop i m]
   exact List.Sublist.append (List.Sublist.refl _) (List.drop_sublist_drop_left m (Nat.le_succ i))
  have ca:X1 l (p.Vw i sl) (m.take i++m.drop (i+1)):=by
   refine⟨?_,fun k v=>?_,C.sublist (K.map _),Nat.le_trans K.length_le Z⟩
   ·show p.zv.take i++p.zv.drop (i+1)=_
    rw[A,List.map_append,List.map_take,List.map_drop]
   ·obtain⟨g1,g2⟩:=(Zm V s k).1 v;obtain⟨g3,y,g4⟩:=(B k).1 g1
    exact h.other hq hp g3 (fun e=>by rw[e]at g4;have:=congrArg List.length g4;simp at this) g2 M2.zf
  have sa:Vs x=true:=WO (T.ok q hq).1 (by rw[o];simp);have ba:∀k∈m.take i++m.drop (i+1),mN k.zb≠x:=fun k v e=>by
   obtain⟨g1,g2⟩:=(Zm V s k).1 v;obtain⟨g3,y,g4⟩:=(B k).1 g1;rw[g4,Wm]at e
   exact g2 (T.inj k g3 q hq (by rw[g4,o,e]))
  have Ia:=iG M2.par M2.kid ca x sa ba (k':=q.zb) Y (fun e=>G.2.1 E e) (by
   intro e;have e:sl.ownBlock=some q.ze:=e;rw[M2.own]at e;exact u.1 e) (by
   intro e;have e:sl.ownBlock=some p.ze:=e;rw[M2.own]at e;exact H.1 e) I.1 G.1 (by
   intro g f;have f:sl.ownBlock=some g:=f;rw[M2.own]at f;exact u.2.2 (fun e=>E e.symm) g f)
  have da:=(b1.zf M.zf d1).zf n (h_ b1.lt);have ea:=(b2.zf M.zf ma).zf n (h_ b2.lt);have ga:=(b3.zf M.zf na).zf n (h_ b3.lt)
  refine lS (P:=fun w'=>zd (fun b=>b<w.heap.size) l w'/\∃sl,BkM w p q sl w') da ea ga (Ia.mono ?_)
  rintro e w' ⟨rfl,zl,F,Q,ta,ua,Aa,Ba⟩
  have la:zl=i:=by
   rw[List.map_append,List.map_take,List.map_drop]at Q
   exact q3 C (by rw[VB,s,<- Y];rfl) Q
  subst la;have J:zd (uc p q) l w':=Aa.mono (fun b e=>by
   rcases e with e|e|e
   ·exact .inl e
   ·exact .inr (.inl e)
   ·have e:sl.ownBlock=some b:=e;rw[M2.own]at e;exact .inr (.inr e))
  refine⟨rfl,J.mono U,F,⟨?_,?_,M2.zf.trans J,?_⟩⟩
  ·have e:(p.Vw zl sl).Wl zl q.loose.ze F={p with sl:=F}:=by
    have D:p.zv[zl]?=some q.ze:=by rw[A,VB,s];rfl
    have S:=(Uy.1 D).1;unfold zc.Wl zc.Vw zc.loose;simp only[zc.mk.injEq,true_and];rw[List.take_append_of_le_length t_,List.take_take,Nat.min_self,List.drop_append_of_le_length t_,List.drop_take,Nat.sub_self,List.take_zero,List.nil_append];rw[Ur S]at D;injection D with D;rw[<-D,<- List.drop_eq_getElem_cons S,List.take_append_drop]
   rw[<-e];exact ta
  ·have e:({q.loose with zb:=q.zb,up:=some (p.Vw zl sl).ze}:zc)=q:=by
    unfold zc.loose zc.Vw;rw[<-O]
   rw[<-e];exact ua
  ·rcases Ba with e|⟨g,e,f⟩
   ·left
    have e:F.ownBlock=sl.ownBlock:=e;rw[e,M2.own]
   ·exact .inr ⟨g,e,by have:=M2.zf.size;omega⟩
end
theorem cY{za:List zc}{s:Bs}(h:hZ za l s=0):UB s=true/\s≠[]/\∃n,zp za (s4 s)=some n/\n.zv=[]/\∀y∈l,y.q≠n.ze:=by
 unfold hZ at h
 by_cases b:UB s=false
 ·rw[if_pos b]at h;cases h
 ·rw[if_neg b]at h
  by_cases c:s=[]
  ·rw[if_pos c]at h;cases h
  ·rw[if_neg c]at h
   cases h3:zp za (s4 s) with
   |none=>rw[h3]at h;cases h
   |some n =>
    rw[h3]at h
    simp only at h
    by_cases a:(!(n.zv.length == 0)||l.any (fun p=>p.q == n.ze))=true
    ·rw[if_pos a]at h;cases h
    ·refine⟨by simpa using b,c,n,rfl,?_,fun y d e=>a ?_⟩
     ·simp only[Bool.or_eq_true,Bool.not_eq_true',beq_eq_false_iff_ne,ne_eq,not_or,Decidable.not_not]at a
      exact List.eq_nil_of_length_eq_zero a.1
     ·rw[Bool.or_eq_true,W7]
      exact .inr ⟨y,d,by simpa using e⟩
section
variable {τ : Nat->yd}{t:Nat}{w:World}{bt:Nat}{za:List zc}{zn:Int}{vw va:Value}{ws zh:List Pw}
theorem rK(h:UJ τ t w bt za zn vw va ws zh)(s:ByteArray)(k:s.size<=2000000)(b:hZ za (ws++zh) (bl s)=er)(i:er≠0):
  Calls prog 58 #[vP bt,vG s] w fun e w'=>e=vR (vI er)/\Bw w w':=by
 obtain⟨r,g,hb⟩:=h.bk;obtain⟨j,d⟩:=Ww h.pr.tree g;have a:=fp h.pr.tree hb j d s k;rw[b]at a;have l:(er != 0)=true:=by simpa using i
 clear h b hb
 go_enter func58,ntmps58
 go_wp2_with (go_at_call 96;refine a.mono ?_;rintro e f ⟨rfl,c⟩)
 exact Us (v:=vI er) (by simp[results,results58,go_sem]) rfl ⟨rfl,c⟩
theorem yw.gone(h:UJ τ t w bt za zn vw va ws zh){q p:zc}(hq:q∈za)(hp:p∈za){sl:Value}(a:UJ (Vq τ w.heap.size) t w' bt (xu za q p i sl) zn vw va ws zh)(c:zd (uc p q) w w'):yw τ t w bt (xu za q p i sl) zn vw va ws zh w' :=
 ⟨_,fun b hb=>VK hb,fun b hb=>.inl (XJ hb),a,c.X4 (fun b hb e=>⟨hb,(h.tch hq hp b e).2⟩)⟩
theorem yw.lC(h:UJ τ t w bt za zn vw va ws zh){q p:zc}(hq:q∈za)(hp:p∈za)(a:q≠p){sl:Value}(M:BkM w p q sl w'):yw τ t w bt (vl za p sl) zn vw va ws zh w':=by
 obtain⟨τ',m1,c,d⟩:=h.back hq hp a M
 exact⟨τ',m1,c,d,M.zf.X4 (fun b hb e=>⟨hb,(h.tch hq hp b e).2⟩)⟩
theorem rL(h:UJ τ t w bt za zn vw va ws zh)(R:yl za Ws ws zh)(d:xm Ws)(s:ByteArray)(I:s.size<=2000000)(H:hZ za (ws++zh) (bl s)=0){q:zc}(o:zp za (s4 (bl s))=some q):
  Calls prog 58 #[vP bt,vG s] w fun e w'=>e=vR (vI (xo (xa (za.map zc.zq) q.zb) Ws))/\(xo (xa (za.map zc.zq) q.zb) Ws=0->∃p∈za,∃i sl,yw τ t w bt (xu za q p i sl) zn vw va ws zh w')/\(xo (xa (za.map zc.zq) q.zb) Ws≠0->∃p∈za,∃sl,yw τ t w bt (vl za p sl) zn vw va ws zh w'):=by
 have T:=h.pr.tree;obtain⟨r,ma,hb⟩:=h.bk;obtain⟨ba,U⟩:=Ww T ma;obtain⟨J,Y,Na,da,oa,S⟩:=cY H;rw[o]at da;cases da;obtain⟨hq,D⟩:=VZ o;have X:=fp T hb ba U s I;rw[H]at X;have z:=fun W (d:Bw w W) v J=>XA T ba U s I W (hb.below d).yj v J
 rw[o]at z;have ea:q.zb≠[]:=by rw[D];intro e;exact Y (YC e)
 obtain⟨k,x,u⟩:∃k x,q.zb=k++[x]:=⟨q.zb.dropLast,q.zb.getLast ea,(List.dropLast_concat_getLast ea).symm⟩;obtain⟨p,hp,ca,La,C⟩:=T.par q hq k x u;have n:q.zb=p.zb++[x]:=by rw[ca];exact u
 have ja:q≠p:=fun e=>by rw[e]at n;have:=congrArg List.length n;simp at this
 have E:=fun W (d:Bw w W)=>gQ ((h.pr.yj q hq).below d)
 rw[C]at E;have ua:∀W,Calls prog 81 #[vG s] W fun e w'=>(∃a:ByteArray,e=vT #[vG a,vG (sb x)])/\Bw W w':=fun W=>(aQ s I J Y W).mono fun e w' Aa=>by
  obtain⟨⟨a,b,rfl,Z,_⟩,qa⟩:=Aa
  refine⟨⟨a,?_⟩,qa⟩
  rw[<-D,u]at Z;have na:x=bl b:=(XM Z).2
  have:b=sb x:=Wy (by rw[UO];exact na.symm)
  rw[this]
 have K:∀b,uc p q b->b<w.heap.size:=fun b ia=>by
  rcases ia with rfl|rfl|e
  ·exact(h.pr.yj p hp).lt
  ·exact(h.pr.yj q hq).lt
  ·exact((h.pr.yj p hp).row.lt b e).2
 have m:∀W,Bw w W->∀gp c j,zg W gp 97 #[vP p.ze]->zg W c 9 #[vG (sb x)]->zg W j 97 #[vP q.ze]->w.heap.size<=gp->w.heap.size<=c->w.heap.size<=j ->
   Calls prog 87 #[vP bt,.func (.func 97) #[vP q.ze] #[],.func (.func 98) #[] #[vP gp,vP c,vP j]] W
   fun e w'=>e=vR (vI (xo (xa (za.map zc.zq) q.zb) Ws))/\(xo (xa (za.map zc.zq) q.zb) Ws=0->∃p∈za,∃i sl,yw τ t w bt (xu za q p i sl) zn vw va ws zh w')/\(xo (xa (za.map zc.zq) q.zb) Ws≠0->∃p∈za,∃sl,yw τ t w bt (vl za p sl) zn vw va ws zh w'):=fun W B gp c j b1 b2 b3 Ia Ja Ka=>by
  have F:=h.zf (τ':=Vq τ w.heap.size) (T:=fun _=>False) (zd.new B) (fun _ _ h=>h.elim) (fun b hb=>VK hb)
  refine(mA F R d hq hp n C oa S b1 b2 b3 (fun e=>by have:=K _ e;omega) (fun e=>by have:=K _ e;omega) (fun e=>by have:=K _ e;omega)).mono ?_
  rintro e w' ⟨rfl,g1,g2⟩
  refine⟨rfl,fun e=>?_,fun e=>?_⟩
  ·obtain⟨i,sl,g3,g4⟩:=g1 e
   exact⟨p,hp,i,sl,yw.from B (yw.gone F hq hp g3 g4)⟩
  ·obtain⟨sl,g3⟩:=g2 e
   exact⟨p,hp,sl,yw.from B (yw.lC F hq hp ja g3)⟩
 have V:∀W,Bw w W->W.cell? (vA bt 0)=some (zi r.ze):=fun W (d:Bw w W)=>(hb.below d).bk.zl.cell 0
 generalize xo (xa (za.map zc.zq) q.zb) Ws=er at m ⊢;have ga:∃Q:World->Prop,Q=fun w'=>(er=0->∃p∈za,∃i sl,yw τ t w bt (xu za q p i sl) zn vw va ws zh w')/\(er≠0->∃p∈za,∃sl,yw τ t w bt (vl za p sl) zn vw va ws zh w'):=⟨_,rfl⟩
 obtain⟨Q,G⟩:=ga;have m:∀W,Bw w W->∀gp c j,zg W gp 97 #[vP p.ze]->zg W c 9 #[vG (sb x)]->zg W j 97 #[vP q.ze]->w.heap.size<=gp->w.heap.size<=c->w.heap.size<=j ->
   Calls prog 87 #[vP bt,.func (.func 97) #[vP q.ze] #[],.func (.func 98) #[] #[vP gp,vP c,vP j]] W fun e w'=>e=vR (vI er)/\Q w':=by rw[G];exact m
 suffices aa:Calls prog 58 #[vP bt,vG s] w fun e w'=>e=vR (vI er)/\Q w' by rw[G]at aa;exact aa
 have Oa:∀(fn:Fn) (first cap:Array Value) (w:World),(Instr.makeFunc fn first cap).run prog w=.ok (.func fn first cap) w:=fun _ _ _ _=>rfl
 have Ha:=hb.bk.zl.lt;simp only[zi,vd,Option.map_some]at V z E;clear G h H o R hb u C ca n D S hq hp;generalize p.ze=bp at *;generalize q.ze=bq at *;generalize r.ze=br at *
 go_enter func58,ntmps58
 go_upto_region 7 with (first
  |(go_at_call 96;refine X.mono ?_;rintro e f ⟨rfl,A⟩;have Ma:=V f A)
  |(go_at_call 63;refine(z _ A (vP bq) rfl).mono ?_;rintro e l ⟨rfl,ka⟩;have la:Bw w l:=s5 A ka;have Ga:=la.size;have Ca:zg (l.alloc (.cells #[vP bq] 97)) l.heap.size 97 #[vP bq]:=zg.new l 97 _)
  |(go_at_call 92;refine(E _ cl).mono ?_;rintro e Qa ⟨rfl,ta⟩;subst ta)
  |(go_at_call 81;refine(ua _).mono ?_;rintro e g ⟨⟨Pa,rfl⟩,y⟩;have pa:Bw w g:=s5 cl y;have P:zg g l.heap.size 97 #[vP bq]:=zg.below s6 y t_;have N:zg g (l.heap.size+1) 97 #[vP bp]:=zg.below s6 y s_;have Da:=pa.size;have Ea:=P.lt;have Fa:=N.lt))
 have sa:Bw w (g.alloc (.cells #[vG (sb x)] 9)):=cl;have L:=P.alloc (.cells #[vG (sb x)] 9);have O:=N.alloc (.cells #[vG (sb x)] 9);have M:zg (g.alloc (.cells #[vG (sb x)] 9)) g.heap.size 9 #[vG (sb x)]:=zg.new g 9 _;have Ba:=m _ sa _ _ _ O M L o_ o_ o_;have ha:=L.cell 0;simp only[List.getElem?_toArray,List.getElem?_cons_zero]at ha;clear m L O M
 go_wp2_with (first
  |(go_at_call 87;refine Ba.mono ?_;rintro e Ra ⟨rfl,ra⟩))
 exact Us (v:=vI er) (by simp[results,results58,go_sem]) rfl ⟨rfl,ra⟩
end
end
section
open Go.RowKit Go.Shelf
attribute [local go_sem] Oper.semAt_some
theorem qZ{za:List zc}(T:zr za){r:zc}(V:r∈za)(s:ByteArray)(a:s.size<=2000000)(w:World)(U:∀n∈za,UA w n):
  Calls prog 63 #[zi r.ze,vG s] w fun e w'=>iI za (r.zb++s4 (bl s)) e/\Bw w w':=by
 have E:∀k:Nat,Fence.wide.depth.isSome=true->1<=k:=fun k h=>by simp[Fence.wide]at h
 refine(UK (n:=3)).1 ?_
 refine callsIn_of_wp_marks func63 rfl trivial ?_ rfl
 unfold zi;simp only[ntmps63,zC,Nat.reduceAdd,Nat.reduceSub]
 gi_wp2_with ((first|refine⟨trivial,E _,?_⟩|refine⟨trivial,?_⟩);gi_at_call 102;refine(UK.2 (dB s a _)).mono ?_;rintro e W ⟨gf,lb,rfl,Q,hb,C⟩)
 have ga:w.heap.size+2<=W.heap.size:=by have:=hb.size;simp at this;omega
 obtain⟨S,G,hq⟩:=C (fun b=>(b=w.heap.size\/b=w.heap.size+1)\/W.heap.size<=b) (fun b m F h=>by simp at m;omega);have aa:zz W w.heap.size 97 (.pointer none):=((zz.new w 97 _).alloc _).below hb u_;have ba:zz W (w.heap.size+1) 97 (vP r.ze):=by
  have:=zz.new (w.alloc (.cells #[.pointer none] 97)) 97 (vP r.ze)
  rw[Vv]at this
  exact this.below hb s_
 have O:Bw w W:=s5 (((Below.refl _ _).alloc (Nat.le_refl _) _).alloc s_ _) hb;clear C hb;have q:∀b,b<=w.heap.size+1->¬(S b\/W.heap.size<=b):=fun b D h=>by
  rcases h with h|h
  ·have m:=(G _ h).1;simp at m;omega
  ·omega
 refine XQ (T:=fun b=>b=w.heap.size\/b=w.heap.size+1) rfl Q hq (Below.refl _ _) rfl (fun b h=>(G b h).2) (fun b h=>by omega)
  (fun pre A=>(∃n∈za,n.zb=r.zb++pre/\zz A (w.heap.size+1) 97 (vP n.ze))/\zz A w.heap.size 97 (.pointer none)/\Bw w A)
  (fun c pre A=>c=.ret/\(∀n∈za,n.zb≠r.zb++s4 (bl s))/\zz A w.heap.size 97 (.pointer none)/\Bw w A)
  (fun pre A B a j=>⟨by obtain⟨n,m,F,h3⟩:=a.1;exact⟨n,m,F,h3.zf j (q _ (Nat.le_refl _))⟩,a.2.1.zf j (q _ o_),a.2.2.trans (j.ya a.2.2.size (fun b D=>q b o_))⟩)
  (fun c pre A B a j=>⟨a.1,a.2.1,a.2.2.1.zf j (q _ o_),a.2.2.2.trans (j.ya a.2.2.2.size (fun b D=>q b o_))⟩)
  ⟨⟨r,V,s_,ba⟩,aa,O⟩
  (fun x=>{tmps:=#[vP r.ze,vG s,undef,undef,vP w.heap.size,vP (w.heap.size+1),vG (sb x),undef,undef,
   vP r.ze,vG s,.func (.func gf) #[] lb,vG (sb x),undef,undef,undef,undef,undef,undef,undef,undef,undef,undef,undef,undef,undef,undef,undef,undef],defers:=[]}) ?assign ?body ?done ?stop
 case assign =>
  intro l x W K R
  gi_wp2
  exact R
 case body =>
  rintro l pre x y ⟨⟨n,o,t,i⟩,d,f⟩ da z
  have H:∀n∈za,UA y n:=fun n o=>(U n o).below f
  have ca:=jI T o x y H;have Z:=d.cell;have J:=d.frozen;have I:=i.cell;have L:=i.frozen
  gi_wp2_with ((first|refine⟨trivial,E _,?_⟩|refine⟨trivial,?_⟩);gi_at_call 104;refine(CallsIn.inRound l (UK.2 ca)).mono ?_;rintro e w' ⟨(⟨zl,k,g,cap,rfl,P,N,ea,ia,ha⟩|⟨zl,rfl,M⟩),rfl⟩)
  ·refine⟨(zd.refl (fun b=>b=w.heap.size\/b=w.heap.size+1) _).setCell (p:=vA (w.heap.size+1) 0) (.inr rfl) _,⟨k,P,by rw[N,t,List.append_assoc],i.set _⟩,d.other _ _ s_,f.setCell s_ _⟩
  ·refine⟨(zd.refl (fun b=>b=w.heap.size\/b=w.heap.size+1) _).setCell (p:=vA w.heap.size 0) (.inl rfl) _,rfl,M _ (by rw[t,List.append_assoc];exact(List.prefix_append_right_inj _).2 z),d.set _,f.setCell (Nat.le_refl _) _⟩
 case done =>
  rintro A ⟨⟨n,o,t,i⟩,d,f⟩ v
  have Z:=d.cell;have J:=d.frozen;have I:=i.cell;have L:=i.frozen
  gi_wp2
  have Y:(A.setCell (vA w.heap.size 0) (vP n.ze)).heap[W.heap.size]?=some (.deferred (some [])):=(Below.heap_setCell _ _ _ _ t_).trans v;have u:=((d.set (vP n.ze)).put W.heap.size (.deferred none) o_).cell
  refine⟨s_,.inl ⟨_,_,rfl,run_takeDeferred Y,?_⟩⟩
  refine⟨vP n.ze,by simp[results,results127,go_sem,u],.inl ⟨n,o,t,rfl⟩,Wn (f.setCell (Nat.le_refl _) _) _ _ o_⟩
 case stop =>
  rintro c pre A z ⟨rfl,X,d,f⟩ v
  gi_wp2
  have u:=(d.put W.heap.size (.deferred none) o_).cell
  refine⟨s_,.inl ⟨_,_,rfl,run_takeDeferred v,?_⟩⟩
  refine⟨.pointer none,by simp[results,results127,go_sem,u],.inr ⟨X,rfl⟩,Wn f _ _ o_⟩
end
section
open Go.RowKit
variable {B bq br bt bt2 c n:Nat}{W w d:World}{b f v3 va vw:Value}{l1 l2 l4:Bool}{er:Int}{s2:Bs}{ws zh:List Pw}
theorem b_(a:B<=w.heap.size)(h:Below B w W)(hb:Bw W d):Below B w d:=h.trans (hb.mono (Nat.le_trans a h.size))
theorem mr(first:ByteArray)(v:Value)(l:List ByteArray)(J:∀s∈l,s.size<=2000000)(K:l.length<=100)(w:World)(r:B<=w.heap.size)
  (C:∃F w',(∀N,(Builtin.append_ #[46,46] N #[v,vS w.heap.size 1 1]).run prog (w.alloc (.cells #[vG first] 9))=.ok F w')/\∃g cap,F=vS g l.length cap/\l.length<=cap/\cap<=maxLen/\g<w'.heap.size/\Below B w w'/\∀(k:Nat) s,l[k]?=some s->w'.cell? (vA g k)=some (vG s)) :
  Calls prog 132 #[vG first,v] w fun e w'=>e=vR (vI (xg (l.map bl) (bl first)))/\Below B w w':=by
 have u:=fun s (a:s∈l) W=>bH s (J s a) W
 obtain⟨n,D⟩:∃n,n=l.length:=⟨_,rfl⟩;rw[<-D]at C K;have E:Hid (n=l.length):=D;clear D
 go_enter func132,ntmps132
 go_wp2_with (at_builtin;refine Vk r_ _ _ _ _ rfl _ _ rfl r_ C ?_;rintro b d ⟨g1,V,rfl,S,T,M,A,x⟩)
 clear C
 go_loopw [12] (fun i wr=>∃k:Nat,k<=n/\i=vI k/\((l.map bl).take k).all UB=true/\Bw d wr) (fun i _=>n-(intOf i).toNat)
 case atStart=>exact⟨0,Nat.zero_le _,rfl,rfl,Below.refl _ _⟩
 case round =>
  obtain⟨k,R,rfl,h,j⟩:=hrel;have t:Hid (((l.map bl).take k).all UB=true):=h;clear h
  by_cases I:k<n
  ·have y:k<l.length:=by rw[<-E.out];exact I
   obtain⟨s,a⟩:∃s,l[k]?=some s:=⟨_,Ur y⟩;have Q:=(j.cell (p:=vA g1 k) M).trans (x k s a);have q:=u s (Uq a);have H:Hid ((l.map bl).take (k+1)=(l.map bl).take k++[bl s]):=by
    show _=_
    rw[VT (j_ y)];rw[Ur y]at a;cases a;simp
   have G:Hid (bl s∈l.map bl):=UC.2 ⟨s,Uq a,rfl⟩;clear a x u;have U:(k:Int)<n:=o_;have P:(0:Int)<=k:=o_
   cases o:UB (bl s)
   ·rw[o]at q
    go_wp2_with (go_at_call 62;refine(q _).mono ?_;rintro e O ⟨rfl,z⟩)
    go_ret
    have c:xg (l.map bl) (bl first)=1:=by
     unfold xg
     exact if_pos (List.all_eq_false.2 ⟨_,G.out,by simp[o]⟩)
    exact⟨by rw[c];rfl,b_ r (b_ r A j) z⟩
   ·rw[o]at q
    go_wp2_with (go_at_call 62;refine(q _).mono ?_;rintro e O ⟨rfl,z⟩)
    refine⟨⟨k+1,o_,by go_num,?_,s5 j z⟩,by simp[intOf];omega⟩
    rw[H.out,List.all_append,t.out]
    simp[o]
  ·have h:(l.map bl).all UB=true:=by
    have:=t.out
    rwa[Vl (by simp;have:=E.out;omega)]at this
   have m:Hid (xg (l.map bl) (bl first)=if bl first=[] then 2 else 0):=by
    show _=_
    unfold xg;rw[h];simp
   clear h t x u
   by_cases f:bl first=[]
   ·have L:first=⟨#[]⟩:=Wy (f.trans XP.symm);have c:xg (l.map bl) (bl first)=2:=by rw[m.out,if_pos f]
    subst L;have H1:Hid (xg (l.map bl) (bl ⟨#[]⟩)=2):=c;clear c m f
    go_wp2
    go_ret
    exact⟨by rw[H1.out];rfl,b_ r A j⟩
   ·have hq:(first.toList.isEmpty)=false:=by rw[V4];simpa using f
    have c:xg (l.map bl) (bl first)=0:=by rw[m.out,if_neg f]
    have H1:Hid (xg (l.map bl) (bl first)=0):=c;clear c m f
    go_wp2
    go_ret
    exact⟨by rw[H1.out];rfl,b_ r A j⟩
theorem mv(first other:ByteArray)(q:first.size<=2000000)(n:other.size<=2000000)(p:B<=c)(b:zg w c 9 #[vG other]):
  Calls prog 132 #[vG first,vS c 1 1] w fun e w'=>e=vR (vI (xg [bl other,bl first] (bl first)))/\Below B w w':=by
 have m:=b.lt
 refine mr first (vS c 1 1) [other,first] (fun s h=>by simp at h;rcases h with rfl|rfl<;>assumption) s_ w o_ ?_
 have hb:zg (w.alloc (.cells #[vG first] 9)) w.heap.size 9 #[vG first]:=zg.new w 9 _;have f:zg (w.alloc (.cells #[vG first] 9)) c 9 #[vG other]:=b.alloc _;have i:(w.alloc (.cells #[vG first] 9)).ownsRow 0 9 1 (vS c 1 1) 1 [vG other] :=
  ⟨rfl,.inr ⟨c,1,_,rfl,Nat.zero_le _,f,Nat.le_refl _,by unfold maxLen;omega,rfl,rfl⟩⟩
 obtain⟨r,w',l,g,cap,rfl,R⟩:=Wv cE inf9 o_ (w.alloc (.cells #[vG first] 9)) (vS c 1 1) 1 [vG other] i w.heap.size 1 1 o_ [vG first] rfl hb (fun u d=>by simp at d;subst d;rfl) (by unfold maxLen;omega) o_
 refine⟨_,w',l,g,cap,rfl,R.le,R.mx,UI R.own rfl,?_,fun k s a=>?_⟩
 ·have a:=R.zf;have j:Below B w (w.alloc (.cells #[vG first] 9)):=((Below.refl _ _).alloc o_ _)
  exact j.trans ⟨a.os,a.tape,a.output,a.size,fun k o=>a.block k t_ (by simp[Value.ownBlock];omega)⟩
 ·have:=R.own.cells (g:=g) rfl k (vG s) (by
   cases k with
   |zero=>simp at a;subst a;rfl
   |succ k =>
    cases k with
    |zero=>simp at a;subst a;rfl
    |succ k=>simp at a)
  rwa[Addr.add_lit,Nat.zero_add]at this
theorem pj{za:List zc}(T:zr za){n:zc}(a:n∈za)(w:World)(g:∀n∈za,UA w n):
  Calls prog 192 #[vP n.ze] w fun e w'=>e=vR (vI n.zb.length)/\Bw w w':=by
 have hp:=Z7 T _ n a rfl w g;have b:=(T.ok n a).1;have i:=XY _ b;have h:=(T.ok n a).2;have hd:=fun W=>hX (sb (kN n.zb)) W (by rw[Wq];omega)
 have e:WR (bl (sb (kN n.zb)))=n.zb.length:=by unfold WR;rw[UO,Zn b]
 rw[e]at hd;unfold zi at hp
 go_enter func192,ntmps192
 go_wp2_with (first
  |(go_at_call 47;refine hp.mono ?_;rintro e d ⟨rfl,c⟩)
  |(go_at_call 134;refine(hd _).mono ?_;rintro e j ⟨rfl,f⟩;subst f))
 go_ret
 exact⟨rfl,c⟩
def okD (a:Int)(m:zc):Bool:=!decide ((m.zb.length:Int)+a>4)
theorem nP{za:List zc}(T:zr za)(G:∀n∈za,UA w n){q s:zc}(hq:q∈za)(ht:s∈za):
  Calls prog 143 #[vP q.ze,vP s.ze] w fun e w'=>e=vR (.bool (!(za.filter fun m=>q.zb.isPrefixOf m.zb).all (okD ((s.zb.length:Int)+1-q.zb.length))))/\Bw w w':=by
 obtain⟨ch,K⟩:=T.ch;have Ma:∀k:Nat,Fence.wide.depth.isSome=true->1<=k:=fun k h=>by simp[Fence.wide]at h
 have P:∀W,(∀n∈za,UA W n)->_:=fun W f=>ZG T K hq W f
 have U:=ZH K 4 q hq;have ka:=Y2 T K T.nd hq;have I:=fun W (f:Bw w W) m (pa:m∈za)=>pj T pa W (fun n qa=>(G n qa).below f)
 have Ya:=I;have N:=fun m (pa:m∈za)=>(T.ok m pa).2
 have ea:=N q hq;have ja:=N s ht;rw[<-iJ ka];generalize dfs ch 4 q=X at P U ka ⊢;clear ka;generalize Z:((s.zb.length:Int)+1-q.zb.length)=a;have Aa : -4<=a/\a<=5:=o_;have ga:=fun W f=>I W f s ht
 have ta:=fun W f=>I W f q hq
 obtain⟨lt,M⟩:∃l:Nat,l=s.zb.length:=⟨_,rfl⟩;obtain⟨Ha,Ba⟩:∃l:Nat,l=q.zb.length:=⟨_,rfl⟩;rw[<-M]at Z ja ga;rw[<-Ba]at Z ea ta;generalize heo:(!X.all (okD a))=Fa;have da:Hid ((X.all (okD a)=true->Fa=false)/\(X.all (okD a)=false->Fa=true)):=⟨fun h=>by rw[<-heo,h];rfl,fun h=>by rw[<-heo,h];rfl⟩;clear heo M Ba Ya;have d:IntKind.i64.wrap ((lt:Int)+1)=(lt:Int)+1:=by rw[IntKind.wrap_i64];omega
 have Ia:IntKind.i64.wrap ((lt:Int)+1-Ha)=a:=by rw[IntKind.wrap_i64];omega
 refine(UK (n:=3)).1 ?_
 refine callsIn_of_wp_marks func143 rfl trivial ?_ rfl
 unfold zi at P;simp only[ntmps143,zC,Nat.reduceAdd,Nat.reduceSub];have ma:zz (w.alloc (.cells #[.bool false] 4)) w.heap.size 4 (.bool false):=zz.new w 4 _
 gi_wp2_with ((first|refine⟨trivial,Ma _,?_⟩|refine⟨trivial,?_⟩);first
  |(gi_at_call 192;refine(UK.2 (ga _ cl)).mono ?_;clear ga;rintro e ab ⟨rfl,V⟩;have na:=ma.below V ma.lt;have E:Bw w ab:=s5 cl V;have mb:=E.size;have bb:=V.size)
  |(gi_at_call 192;refine(UK.2 (ta _ E)).mono ?_;rintro e t ⟨rfl,R⟩;have ha:=na.below R na.lt;have Pa:Bw w t:=s5 E R;have kb:=Pa.size;have cb:=R.size)
  |(gi_at_call 101;refine(UK.2 (P _ (fun n qa=>(G n qa).below cl))).mono ?_;rintro e W ⟨rfl,rfl,Q⟩))
 obtain⟨W,f⟩:∃W,W=(t.alloc (.cells #[vI a] 3)).alloc (.cells #[vP q.ze] 97):=⟨_,rfl⟩;have eb:W.heap.size=t.heap.size+2:=by rw[f];simp
 have Ea:(t.alloc (.cells #[vI a] 3)).heap.size=t.heap.size+1:=s_;have db:w.heap.size<t.heap.size:=ha.lt;have D:zz W t.heap.size 3 (vI a):=by rw[f];exact(zz.new t 3 _).alloc _
 have j:zz W w.heap.size 4 (.bool false):=by rw[f];exact(ha.alloc _).alloc _
 have la:Bw w W:=by rw[f];exact cl
 rw[Ea]at Q;simp only[<-f]at Q ⊢;have ra:=Q (fun b=>b=w.heap.size\/W.heap.size<=b) (fun k r=>⟨fun h=>by have:=(G k r).lt;omega,fun g Sa h=>by have:=((G k r).row.lt g Sa).2;omega⟩);clear Q P Ea f ma na ha ta V R;have C:∀b,b<W.heap.size->¬(False\/W.heap.size<=b):=fun b hb e=>by rcases e with e|e;exact e;omega
 generalize t.heap.size=J at *
 refine XQ (T:=fun b=>b=w.heap.size) (S:=fun _=>False) rfl (enters_of func149 k_ rfl) ra (Below.refl _ _) rfl (fun b h=>h.elim) (fun b h=>by omega)
  (fun pre A=>pre.all (okD a)=true/\zz A J 3 (vI a)/\zz A w.heap.size 4 (.bool false)/\Bw w A)
  (fun c pre A=>c=.ret/\pre.all (okD a)=false/\zz A w.heap.size 4 (.bool true)/\Bw w A)
  (fun pre A B o r=>⟨o.1,o.2.1.zf r (C _ o_),o.2.2.1.zf r (C _ o_),o.2.2.2.trans (r.ya o.2.2.2.size (fun b La=>C b o_))⟩)
  (fun c pre A B o r=>⟨o.1,o.2.1,o.2.2.1.zf r (C _ o_),o.2.2.2.trans (r.ya o.2.2.2.size (fun b La=>C b o_))⟩)
  ⟨rfl,D,j,la⟩
  (fun x=>{tmps:=#[vP q.ze,vP s.ze,undef,undef,vP w.heap.size,vP J,vP x.ze,vP s.ze,vI lt,vI ((lt:Int)+1),vP q.ze,vI Ha,vI a,vP q.ze,
   .func (.func 149) #[] #[vP (J+1)],vP x.ze,undef,undef,undef,undef,undef],defers:=[]}) ?assign ?body ?done ?stop
 case assign =>
  intro l x W K aa;clear I N U ra C D j la G Z Aa d Ia ea ja da
  gi_wp2
  simp[go_sem,Oper.uponIn,Oper.semAt]
  gi_wp2
  exact aa
 case body =>
  rintro l2 pre x z ⟨Y,ba,u,F⟩ gb ia
  have Da:x∈za:=U x (ia.subset s_);have c2:=ba.cell;have Ja:=N x Da;have hd:=fun W f=>I W f x Da
  have ua:Hid (pre.all (okD a)=true):=Y;have sa:Hid (okD a x=!decide ((x.zb.length:Int)+a>4)):=rfl;clear Y I ra N U G Z d Ia ea ja C D j la;generalize x.zb.length=O at *;have Ka:IntKind.i64.wrap ((O:Int)+a)=(O:Int)+a:=by rw[IntKind.wrap_i64];omega
  gi_upto_region 4 with fail
  refine YA (fun W'=>W'.cell? (vA J 0)=some (vI a)/\Bw z W') k_ k_ ⟨c2,cl⟩ (fun H=>?_)
  refine wpAnyH_take (i:=0) (v:=vP x.ze) rfl k_ k_ k_ (fun _ _ _ h=>absurd h.1 e_) (Or.inl ⟨r_,?_⟩) H ?_
  ·intro w' L;obtain⟨s2,_⟩:=L
   go_simp
  simp only[Ux,Uv,Uw,Act.put,UF,UE,UD]
  refine wpAnyH_take (i:=2) (v:=vI a) rfl k_ k_ k_ (fun _ _ _ h=>absurd h.1 e_) (Or.inl ⟨r_,?_⟩) H ?_
  ·intro w' L;obtain⟨s2,_⟩:=L
   go_simp
  simp only[Ux,Uv,Uw,Act.put,UF,UE,UD]
  refine wpAnyH_ready (rs:=[1]) k_ s_ ?_
  refine AllReadyH.cons rfl (fun K aa=>?_) AllReadyH.nil
  rw[if_pos r_]
  try simp only[Ux,Uv,Uw]
  go_simp
  refine(hd _ (s5 F cl)).mono ?_
  rintro e Ca ⟨rfl,Oa⟩
  have j:Bw z Ca:=s5 (show Bw z z.drew by exact cl) Oa;have M:=ba.lt
  refine aa.out _ _ ⟨(j.cell (p:=vA J 0) M).trans c2,j⟩ (fun H=>?_)
  clear aa
  try simp only[Ux,Uv,Uw,Act.put,UF,UE,UD]
  refine wpAnyH_take (i:=3) (v:=vI ((O:Int)+a)) rfl k_ k_ k_ (fun _ _ _ h=>absurd h.1 e_) (Or.inl ⟨r_,?_⟩) H ?_
  ·intro w' L
   go_simp
  try simp only[Ux,Uv,Uw,Act.put,UF,UE,UD]
  refine wpAnyH_take (i:=4) (v:=.bool (decide ((O:Int)+a>4))) rfl k_ k_ k_ (fun _ _ _ h=>absurd h.1 e_) (Or.inl ⟨r_,?_⟩) H ?_
  ·intro w' L
   go_simp
  try simp only[Ux,Uv,Uw,Act.put,UF,UE,UD]
  refine wpAnyH_done k_ ⟨rfl,?_⟩ _
  have E:Bw w Ca:=s5 F j;have Va:=ba.below j M;have ca:=u.below j u.lt;have Za:=ca.cell;have Qa:=ca.frozen;generalize Wa:decide ((O:Int)+a>4)=Na at sa ⊢;clear Wa;clear Aa Ja Ka hd H
  cases Na
  ·gi_wp2
   refine⟨zd.new j,?_,Va,ca,E⟩
   rw[List.all_append,ua.out]
   simp[sa.out]
  ·gi_wp2
   simp[go_sem,Oper.uponIn,Oper.semAt,Za,Qa]
   gi_wp2
   refine⟨(zd.new (T:=fun b=>b=w.heap.size) j).setCell (p:=vA w.heap.size 0) rfl _,rfl,?_,ca.set _,E.setCell s_ _⟩
   rw[List.all_append,ua.out]
   simp[sa.out]
 case done =>
  rintro A ⟨Y,ba,u,F⟩ oa
  have ib:=u.cell;have jb:=u.frozen
  gi_wp2
  have Ua:(A.setCell (vA w.heap.size 0) (.bool false)).heap[W.heap.size]?=some (.deferred (some [])):=(Below.heap_setCell _ _ _ _ t_).trans oa;have D:=((u.set (.bool false)).put W.heap.size (.deferred none) o_).cell
  refine⟨s_,.inl ⟨_,_,rfl,run_takeDeferred Ua,?_⟩⟩
  exact⟨.bool false,by simp[results,results143,go_sem,D],by rw[da.out.1 Y],Wn (F.setCell s_ _) _ _ o_⟩
 case stop =>
  rintro c pre A ia ⟨rfl,Ga,u,F⟩ oa
  gi_wp2
  have D:=(u.put W.heap.size (.deferred none) o_).cell
  refine⟨s_,.inl ⟨_,_,rfl,run_takeDeferred oa,?_⟩⟩
  have Ra:X.all (okD a)=false:=by
   rw[List.all_eq_false]at Ga ⊢;obtain⟨y,Ta,Xa⟩:=Ga
   exact⟨y,ia.subset Ta,Xa⟩
  exact⟨.bool true,by simp[results,results143,go_sem,D],by rw[da.out.2 Ra],Wn F _ _ o_⟩
theorem jC(h:Bw w W)(hb:Below n W d)(hn:w.heap.size<=n:=by omega):Bw w d:=h.trans (hb.mono hn)
theorem eg(s s2:ByteArray)(k:∀W,Bw w W->W.cell? (vA bt 0)=some (vP br))
  (m:∀W c,zg W c 9 #[vG s2]->w.heap.size<=c->Calls prog 132 #[vG s,vS c 1 1] W fun e w'=>e=vR (vI 0)/\Below w.heap.size W w')
  {fv:ByteArray->Value} (q:∀W i,Bw w W->i=s\/i=s2->Calls prog 63 #[vP br,vG i] W fun e w'=>e=vR (fv i)/\Bw W w') (n:fv s=b) (p:fv s2=f)
  {x:Bs} (t:∀W,Calls prog 81 #[vG s] W fun e w'=>(∃a:ByteArray,e=vT #[vG a,vG (sb x)])/\Bw W w')
  (h:b=vP bq->f=vP bt2->(∀W,Bw w W->Calls prog 105 #[vP bt2] W fun e w'=>e=vR (.bool l1)/\w'=W)/\(∀W,Bw w W->Calls prog 142 #[vP bt2,vP bq] W fun e w'=>e=vR (.bool l2)/\Bw W w')/\(∀W,Bw w W->Calls prog 63 #[vP bt2,vG (sb x)] W fun e w'=>e=vR v3/\Bw W w')/\(∀W,Bw w W->Calls prog 143 #[vP bq,vP bt2] W fun e w'=>e=vR (.bool l4)/\Bw W w'))
  (H:(b=.pointer none/\er=3)\/(b=vP bq/\f=.pointer none/\er=3)\/(b=vP bq/\f=vP bt2/\((l1=true/\er=5)\/(l1=false/\l2=true/\er=10)\/(l1=false/\l2=false/\(∃r,v3=vP r)/\er=4)\/(l1=false/\l2=false/\v3=.pointer none/\l4=true/\er=8)\/(l1=false/\l2=false/\v3=.pointer none/\l4=false/\er=0)))) :
  Calls prog 91 #[vP bt,vG s,vG s2] w fun e w'=>e=vR (vI er)/\Bw w w':=by
 go_enter func91,ntmps91
 go_upto_region 4 with (first
    |(go_at_call 132;refine(m _ _ s6 (Nat.le_refl _)).mono ?_;rintro e d ⟨rfl,E⟩;have G:Bw w d:=jC cl E;have V:=k d G))
 go_cut [8,9] from 19 to 30 (fun S T R=>S=b/\T=f/\Bw w R)
 case first =>
  clear h H
  go_region_held3 (fun w'=>w'.cell? (vA bt 0)=some (vP br)) (first|go_keep|exact k _ cl)
   (first
   |(go_at_call 63;refine(q _ _ cl (by first|exact .inl rfl|exact .inr rfl)).mono ?_;rintro e z ⟨rfl,F⟩;have I:Bw w z:=s5 cl F;have U:=k z I))
  all_goals go_wp2_with fail
  all_goals go_meet
  all_goals exact⟨by first|rfl|exact n,by first|rfl|exact p,cl⟩
 case rest =>
  obtain⟨rfl,rfl,o⟩:=hcut;clear n p q m
  rcases H with ⟨rfl,rfl⟩|⟨rfl,rfl,rfl⟩|⟨rfl,rfl,H⟩
  rotate_left 2
  ·obtain⟨J,K,B,M⟩:=h rfl rfl;clear h
   rcases H with ⟨rfl,rfl⟩|⟨rfl,rfl,rfl⟩|⟨rfl,rfl,⟨r,rfl⟩,rfl⟩|⟨rfl,rfl,rfl,rfl,rfl⟩|⟨rfl,rfl,rfl,rfl,rfl⟩
   all_goals
    go_wp2_with (first
     |(go_at_call 81;refine(t _).mono ?_;rintro e l ⟨⟨N,rfl⟩,j⟩;have g:Bw w l:=s5 o j)
     |(go_at_call 105;refine(J _ g).mono ?_;rintro e Y ⟨rfl,A⟩;subst A)
     |(go_at_call 142;refine(K _ g).mono ?_;rintro e O ⟨rfl,L⟩;have u:Bw w O:=s5 g L)
     |(go_at_call 63;refine(B _ u).mono ?_;rintro e P ⟨rfl,D⟩;have y:Bw w P:=s5 u D)
     |(go_at_call 143;refine(M _ y).mono ?_;rintro e Q ⟨rfl,C⟩;have X:Bw w Q:=s5 y C))
    exact Us (by simp[results,results91,go_sem]) rfl ⟨rfl,by assumption⟩
  all_goals
   clear h
   go_wp2_with (go_at_call 81;refine(t _).mono ?_;rintro e l ⟨⟨N,rfl⟩,j⟩;have g:Bw w l:=s5 o j)
   exact Us (v:=vI 3) (by simp[results,results91,go_sem]) rfl ⟨rfl,by assumption⟩
def YR (za:List zc)(q a:zc):Bool:=!(za.filter fun m=>q.zb.isPrefixOf m.zb).all (okD ((a.zb.length:Int)+1-q.zb.length))
def tj (za:List zc)(s s2:Bs):Int :=
 if xg [s2,s] s≠0 then xg [s2,s] s else match zp za (s4 s) with
 |none=>3
 |some q=>match zp za (s4 s2) with
  |none=>3
  |some a=>if a.zj=true then 5 else if q.zb.isPrefixOf a.zb=true then 10 else if (zp za (a.zb++[mN q.zb])).isSome=true then 4 else if YR za q a=true then 8 else 0
theorem k7(s s2:ByteArray)(g:er≠0)
  (a:∀W c,zg W c 9 #[vG s2]->w.heap.size<=c->Calls prog 132 #[vG s,vS c 1 1] W fun e w'=>e=vR (vI er)/\Below w.heap.size W w') :
  Calls prog 91 #[vP bt,vG s,vG s2] w fun e w'=>e=vR (vI er)/\Bw w w':=by
 have h:(er != 0)=true:=by simpa using g
 go_enter func91,ntmps91
 go_wp2_with (first
   |(go_at_call 132;refine(a _ _ s6 (Nat.le_refl _)).mono ?_;rintro e d ⟨rfl,b⟩;have f:Bw w d:=jC cl b))
 exact Us (v:=vI er) (by simp[results,results91,go_sem]) rfl ⟨rfl,f⟩
theorem iB{s:Bs}(h:xg [s2,s] s=0):UB s=true/\UB s2=true/\s≠[]:=by
 unfold xg at h
 by_cases a:([s2,s].all UB)=false
 ·rw[if_pos a]at h;cases h
 ·rw[if_neg a]at h
  by_cases b:s=[]
  ·rw[if_pos b]at h;cases h
  ·simp at a
   exact⟨a.2,a.1,b⟩
theorem fw{za:List zc}(j:zr za)(Y:U_ za){r:zc}{zw:Value}(h:yt w za bt r zw vw va ws zh)(ba:r∈za)(S:r.zb=[])(s s2:ByteArray)(N:s.size<=2000000)(T:s2.size<=2000000):
  Calls prog 91 #[vP bt,vG s,vG s2] w fun e w'=>e=vR (vI (tj za (bl s) (bl s2)))/\Bw w w':=by
 have o:=fun W c (hb:zg W c 9 #[vG s2]) (Z:w.heap.size<=c)=>mv s s2 N T Z hb
 unfold tj
 by_cases t:xg [bl s2,bl s] (bl s)=0
 ·rw[if_neg (j_ t)];rw[t]at o;obtain⟨y,ga,M⟩:=iB t;have B:∀W,Bw w W->W.cell? (vA bt 0)=some (vP r.ze):=fun W (d:Bw w W)=>(h.below d).bk.zl.cell 0
  let fv:ByteArray->Value:=fun g=>match zp za (s4 (bl g)) with|none=>.pointer none|some p=>zi p.ze
  have D:∀W g,Bw w W->g=s\/g=s2->Calls prog 63 #[vP r.ze,vG g] W fun e w'=>e=vR (fv g)/\Bw W w':=fun W g d P=>XA j ba S g (by rcases P with rfl|rfl<;>assumption) W (h.below d).yj _ rfl
  have F:∀W,Calls prog 81 #[vG s] W fun e w'=>(∃a:ByteArray,e=vR (.tuple #[vG a,vG (sb (mN (s4 (bl s))))]))/\Bw W w':=fun W=>(aQ s N y M W).mono fun e w' da=>by
   obtain⟨⟨a,b,rfl,V,_⟩,X⟩:=da
   refine⟨⟨a,?_⟩,X⟩
   have:b=sb (mN (s4 (bl s))):=Wy (by rw[UO,V,Wm])
   rw[this]
  cases hq:zp za (s4 (bl s)) with
  |none=>exact eg (bq:=0) (bt2:=0) (v3:=.pointer none) (l1:=true) (l2:=true) (l4:=true) s s2 B o D (show fv s=.pointer none by simp only[fv];rw[hq]) rfl F (fun e=>by cases e) (.inl ⟨rfl,rfl⟩)
  |some q =>
   have L:fv s=vP q.ze:=by simp only[fv];rw[hq];rfl
   obtain⟨G,C⟩:=VZ hq
   simp only
   cases ht:zp za (s4 (bl s2)) with
   |none=>exact eg (bt2:=0) (v3:=.pointer none) (l1:=true) (l2:=true) (l4:=true) s s2 B o D L (show fv s2=.pointer none by simp only[fv];rw[ht]) F (fun _ e=>by cases e) (.inr (.inl ⟨rfl,rfl,rfl⟩))
   |some f =>
    have Q:fv s2=vP f.ze:=by simp only[fv];rw[ht];rfl
    obtain⟨u,ha⟩:=VZ ht
    simp only
    have K:=fun W (d:Bw w W)=>Z3 f.ze f.zj W (((h.below d).yj f u).cell rfl)
    have A:=fun W (d:Bw w W)=>dY j Y u G W (h.below d).yj
    have O:=fun W (d:Bw w W)=>nP j (h.below d).yj G u
    have J:Vs (mN q.zb)=true:=by
     have I:q.zb≠[]:=by rw[C];intro e;exact M (YC e)
     have:q.zb=q.zb.dropLast++[q.zb.getLast I]:=(List.dropLast_concat_getLast I).symm
     rw[this,Wm]
     exact WO (j.ok q G).1 (List.getLast_mem I)
    have ea:s4 (bl (sb (mN (s4 (bl s)))))=[mN q.zb]:=by
     rw[UO,<- C]
     have:=Zn (k:=[mN q.zb]) (by unfold UL;simp[J])
     exact this
    have z:∀v,(v=match zp za (f.zb++[mN q.zb]) with|none=>Value.pointer none|some p=>zi p.ze)->∀W,Bw w W->Calls prog 63 #[vP f.ze,vG (sb (mN (s4 (bl s))))] W fun e w'=>e=vR v/\Bw W w':=fun v y W d=>by
     have i:(sb (mN (s4 (bl s)))).size<=2000000:=by rw[Wq,<- C];have:=(Yw J).2;omega
     refine(qZ j u (sb (mN (s4 (bl s)))) i W (h.below d).yj).mono ?_
     rintro e w' ⟨hp,hb⟩
     rw[ea]at hp
     refine⟨?_,hb⟩
     rcases hp with ⟨n,aa,U,rfl⟩|⟨R,rfl⟩
     ·rw[y,Zl j aa U]
     ·rw[y,fU R]
    simp only[zi]at A z;have l:=fun er H=>eg (er:=er) s s2 B o D L Q F (fun _ _=>⟨K,A,z _ rfl,O⟩) (.inr (.inr ⟨rfl,rfl,H⟩))
    clear K A z O;unfold YR
    cases i:f.zj
    ·simp only[Bool.false_eq_true,if_false]
     cases x:q.zb.isPrefixOf f.zb
     ·simp only[Bool.false_eq_true,if_false]
      cases E:zp za (f.zb++[mN q.zb]) with
      |some ca =>
       simp only[Option.isSome_some,if_true]
       exact l _ (.inr (.inr (.inl ⟨i,x,⟨ca.ze,by rw[E]⟩,rfl⟩)))
      |none =>
       simp only[Option.isSome_none,Bool.false_eq_true,if_false]
       cases hd:(!(za.filter fun m=>q.zb.isPrefixOf m.zb).all (okD ((f.zb.length:Int)+1-q.zb.length)))
       ·simp only[Bool.false_eq_true,if_false]
        exact l _ (.inr (.inr (.inr (.inr ⟨i,x,by rw[E],hd,rfl⟩))))
       ·simp only[if_true]
        exact l _ (.inr (.inr (.inr (.inl ⟨i,x,by rw[E],hd,rfl⟩))))
     ·simp only[if_true]
      exact l _ (.inr (.inl ⟨i,x,rfl⟩))
    ·simp only[if_true]
     exact l _ (.inl ⟨i,rfl⟩)
 ·rw[if_pos (j_ t)]
  exact k7 s s2 t o
end
end Go.Proofs.YtphclnolomgjoaaGreatDoor
