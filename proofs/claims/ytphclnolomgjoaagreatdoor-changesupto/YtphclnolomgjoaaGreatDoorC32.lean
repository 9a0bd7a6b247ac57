import Derived.Test.YtphclnolomgjoaaGreatDoorC31
set_option linter.unusedVariables false
set_option linter.unusedSimpArgs false
set_option maxRecDepth 100000
set_option maxHeartbeats 4000000
namespace Go.Proofs.YtphclnolomgjoaaGreatDoor
open Tryz
open Go.RowKit
variable {W' W0 w w' w1:World}{n r:Node}{K br bu c cW cap eD g0 g1 g2 g3 g4 jH size:Nat}{BW E0 a cnt d er m0 m1 st:Int}{ok:Bool}{Ws Ws':List Wk}{L L':List Ent}{ao jG:Option Addr}{v1 v2 v3:Value}{e:TypeId}{xs:List Value}
theorem q0m(hn:qan w n)(eK:n.sl.ownBlock≠some n.blk){b c:Int}(b0:Blk w g0 97 #[vP n.blk])(b1:Blk w g1 35 #[vI a,vI b])(b2:Blk w g2 35 #[vI c,vI d]):
  Cl 88 #[vP g0,vP g1,vP g2] w fun e w'=>e=.returned (.tuple #[])/\qan w' (n.qxh a b c d)/\Keep (fun x=>x=n.blk) w w':=by
 have cX:=qx8 hn eK a b c d;have c0:=b0.cell 0;have x0:=b1.cell 0;have x1:=b1.cell 1;have y0:=b2.cell 0;have y1:=b2.cell 1;simp only[xq0,xq1,xq2]at c0 x0 x1 y0 y1
 go_enter func88,ntmps88
 go_wp2_with (go_at_call 89;refine cX.mono ?_;rintro e w1 ⟨rfl,hM⟩)
 go_end0
 exact⟨rfl,hM⟩
theorem q0n(hn:qan w n)(eK:n.sl.ownBlock≠some n.blk){b c:Int}(b0:Blk w g0 97 #[vP n.blk])(b1:Blk w g1 35 #[vI a,vI b])(b2:Blk w g2 35 #[vI c,vI d]):
  Cl 90 #[vP g0,vP g1,vP g2] w fun e w'=>e=.returned (.tuple #[])/\qan w' (n.qxh a b c d)/\Keep (fun x=>x=n.blk) w w':=by
 have cX:=qx8 hn eK a b c d;have c0:=b0.cell 0;have x0:=b1.cell 0;have x1:=b1.cell 1;have y0:=b2.cell 0;have y1:=b2.cell 1;simp only[xq0,xq1,xq2]at c0 x0 x1 y0 y1
 go_enter func90,ntmps90
 go_wp2_with (go_at_call 89;refine cX.mono ?_;rintro e w1 ⟨rfl,hM⟩)
 go_end0
 exact⟨rfl,hM⟩
def QM (w:World)(n:Node)(w':World):Prop:=qan w' n/\Keep (fun x=>x=n.blk) w w'
theorem qy0{bt:Nat}{b c:Int}(hn:qan w n)(eK:n.sl.ownBlock≠some n.blk)(dx:bt<w.heap.size) 
  (b0:Blk w g0 97 #[vP n.blk]) (b1:Blk w g1 35 #[vI a,vI b]) (b2:Blk w g2 35 #[vI c,vI d]) (b3:Blk w g3 35 #[vI m0,vI m1]) (b4:Blk w g4 35 #[vI n.b0,vI n.b1])
  (hd:(n.qxh a b c d).qxh m0 m1 n.b0 n.b1=n)
  (hO:∀W1,QM w (n.qxh a b c d) W1->Cl 141 #[vP bt] W1 fun e w'=>e=.returned (vI er)/\Bw W1 w') :
  Cl 87 #[vP bt,.func (.func 88) #[] #[vP g0,vP g1,vP g2],.func (.func 90) #[] #[vP g0,vP g3,vP g4]] w
   fun e w'=>e=.returned (vI er)/\(er=0->QM w (n.qxh a b c d) w')/\(er≠0->QM w n w'):=by
 have ak:=hn.lt;have ct:∀g,n.sl.ownBlock=some g->g<w.heap.size:=fun g hg=>(hn.row.lt g hg).2
 have aW:∀ {g t vs},Blk w g t vs->t≠136->g≠n.blk:=fun {g t vs} hb ht e=>by
  subst e;have h2:Blk w n.blk 136 n.cells:=hn.at_
  have:=hb.symm.trans h2
  injection this with this;injection this with _ h3 _
  exact ht h3
 have q0:=aW b0 (by decide);have q3:=aW b3 (by decide);have q4:=aW b4 (by decide)
 refine q0v (M1:=QM w (n.qxh a b c d)) (M2:=QM w (n.qxh a b c d)) (M3:=QM w n) dx (fun W1 hb=>?_) hO (fun _ W1 W2 hM hz hk=>?_) (fun _ W1 W2 hM hz hk=>?_)
 ·refine(q0m (hn.below hb) eK (b0.below hb b0.lt) (b1.below hb b1.lt) (b2.below hb b2.lt)).mono ?_
  rintro e w' ⟨rfl,h1,h2⟩
  exact⟨rfl,h2.mono (fun x e=>by rw[e];exact ak),h1,(Keep.new hb).trans h2⟩
 ·exact⟨hM.1.keep hk (fun e=>by have e':w.heap.size<=n.blk:=e;omega) (fun g hg e=>by have:=ct g hg;omega),hM.2.qbo hk (fun x hx e=>by omega)⟩
 ·have da:qan W2 (n.qxh a b c d):=hM.1.keep hk (fun e=>by have e':w.heap.size<=n.blk:=e;omega) (fun g hg e=>by have:=ct g hg;omega);have hK:Keep (fun x=>x=n.blk) w W2:=hM.2.qbo hk (fun x hx e=>by omega)
  refine(q0n da eK (b0.keep hK q0) (b3.keep hK q3) (b4.keep hK q4)).mono ?_
  rintro e w' ⟨rfl,h1,h2⟩
  rw[hd]at h1;have Fu:Keep (fun x=>x=n.blk) W2 w':=h2
  exact⟨rfl,Fu.mono (fun x e=>by rw[e];exact ak),h1,hK.trans Fu⟩
theorem TwAt.setQ{W:World}{nodes:List Node}{bt:Nat}{lst vw va:Value}{ws as_:List Pw}(h:TwAt W nodes bt r lst vw va ws as_)(hB:qa7 nodes)(T:Tree nodes)(hn:n∈nodes)(hk:Keep (fun x=>x=n.blk) W W'){b c:Int}(cH:qan W' (n.qxh a b c d)):
  TwAt W' (setQ nodes n.key a b c d) bt (if r.key=n.key then r.qxh a b c d else r) lst vw va ws as_:=by
 have cU:Blk W n.blk 136 n.cells:=(h.ins n hn).at_;have gC:(if r.key=n.key then r.qxh a b c d else r).blk=r.blk:=(qxk n.key a b c d r).blk
 refine⟨fun m hm=>?_,?_,fun p hp=>?_,h.nm⟩
 ·obtain⟨x,hx,rfl⟩:=xrq.1 hm
  by_cases e:x.key=n.key
  ·obtain rfl:=T.inj x hx n hn e;simp only[if_pos];exact cH
  ·simp only[if_neg e]
   refine(h.ins x hx).keep hk (fun e2=>e ?_) (fun g hg e2=>qag (h.ins x hx).row cU (by decide) (by rw[hg,e2]))
   rw[hB x hx n hn e2]
 ·rw[gC];have hb:=h.bk
  exact⟨hb.at_.keep hk (qax hb.at_ cU (by decide)),qab hb.wrow hk (fun g hg e=>qag hb.wrow cU (by decide) (by rw[hg,e])),qab hb.arow hk (fun g hg e=>qag hb.arow cU (by decide) (by rw[hg,e])),fun p hp=>(hb.works p hp).keep hk (qax (hb.works p hp) cU (by decide)),hb.sep,hb.nd,hb.inj,hb.len⟩
 ·obtain⟨m,hm,e1,e2⟩:=h.lf p hp
  exact⟨_,xrj hm,(qxk n.key a b c d m).blk.trans e1,(qxk n.key a b c d m).key.trans e2⟩
theorem qa7.setQ{nodes:List Node}(hB:qa7 nodes)(k:List Bs)(a b c d:Int):qa7 (setQ nodes k a b c d):=fun x hx y hy e=>by
 obtain⟨x',lK,rfl⟩:=xrq.1 hx;obtain⟨y',wW,rfl⟩:=xrq.1 hy;rw[(qxk k a b c d x').blk,(qxk k a b c d y').blk]at e;rw[hB x' lK y' wW e]
theorem q2n{g:Nat}{t:TypeId}(h:Blk w g t #[vI 0,vI 0])(a b:Value):Blk ((w.setCell (vA g 0) a).setCell (vA g 1) b) g t #[a,b]:=by
 have:=(h.set 0 a).set 1 b
 simpa using this
theorem qyg{p q:Prop}(h:p)(k:p->q):q:=k h
theorem qxp{s:Bs}(h:qaa s=[]):s=[]:=by
 by_cases e:s=[]
 ·exact e
 ·unfold qaa at h;rw[if_neg e]at h
  have:=qj9 s
  rw[h]at this
  simp at this
theorem qx4{nodes:List Node}{s:Bs}{b:Int}(h:errQuo nodes s ok a b=0):qar s=true/\s≠[]/\∃n,findKey nodes (qaa s)=some n/\ok=true/\(n.leaf=false->a=0/\b=0):=by
 unfold errQuo at h
 split at h
 ·cases h
 rename_i h1
 split at h
 ·cases h
 rename_i h2
 split at h
 ·cases h
 rename_i n hn
 split at h
 ·cases h
 rename_i h3
 split at h
 ·cases h
 rename_i h4
 refine⟨by cases hh:qar s;simp[hh]at h1;rfl,h2,n,hn,by cases ok;simp at h3;rfl,fun hl=>?_⟩
 rw[hl]at h4
 simp at h4
 exact h4
theorem q1z{nodes:List Node}(T:Tree nodes)(hn:n∈nodes)(hl:n.leaf=true):pn0 nodes n.key=n.n0/\pn1 nodes n.key=n.n1:=by
 have hu:under nodes n.key=[n]:=by
  have hp:(under nodes n.key).Perm [n]:=by
   refine qkw (T.nd.filter _) (by simp) (fun x=>?_)
   simp only[under,xrr,List.mem_singleton,xrw]
   constructor
   ·rintro⟨h1,h2⟩
    exact(T.inj n hn x h1 (qua T hn hl _ x h1 rfl h2)).symm
   ·rintro rfl
    exact⟨hn,List.prefix_rfl⟩
  exact List.perm_singleton.1 hp
 unfold pn0 pn1;rw[hu]
 simp[sum0,sum1]
theorem q0o{nodes:List Node}(T:Tree nodes)(hn:n∈nodes)(a b c d:Int):(n.qxh a b c d).qxh (pn0 nodes n.key) (pn1 nodes n.key) n.b0 n.b1=n:=by
 obtain⟨blk,key,leaf,n0,n1,b0,b1,up,sl,kids⟩:=n
 cases leaf
 ·simp[Node.qxh]
 ·have:=q1z T hn rfl
  simp only at this
  simp[Node.qxh,this.1,this.2]
theorem q2d{nodes:List Node}(T0:Tree nodes){bt:Nat}{lst vw va:Value}{ws as_:List Pw}(h:TwAt w nodes bt r lst vw va ws as_)(hr:r∈nodes)(bK:r.key=[])(s:ByteArray)(hs:s.size<=2000000)(a b c d:Int)(he:errQuo nodes (bl s) (qb3 [(a,b),(c,d)]) a b=er)(h0:er≠0):
  Cl 56 #[vP bt,.string s,.agg #[vI a,vI b],.agg #[vI c,vI d]] w fun e w'=>e=.returned (vI er)/\Bw w w':=by
 have du:=fun W (hW:Bw w W)=>qxt T0 (h.below hW) hr bK s hs a b c d
 rw[he]at du;have b0:Blk ((w.alloc (.cells #[vI a,vI b] 35)).alloc (.cells #[vI c,vI d] 35)) w.heap.size 35 #[vI a,vI b]:=(Blk.new w 35 _).alloc _;have b1:Blk ((w.alloc (.cells #[vI a,vI b] 35)).alloc (.cells #[vI c,vI d] 35)) (w.heap.size+1) 35 #[vI c,vI d]:=Blk.new' (by simp);have aW:(er != 0)=true:=by simpa using h0
 clear h he
 go_enter func56,ntmps56
 go_wp2_with (go_at_call 84;refine(du _ (by exact bel2)).mono ?_;rintro e w1 ⟨rfl,aa⟩)
 refine xrn (v:=vI er) (by simp[results,results56,go_sem]) rfl ⟨rfl,?_⟩
 exact qac (by exact bel2) aa
theorem q2e{nodes:List Node}(T0:Tree nodes)(hB:qa7 nodes){bt:Nat}{lst vw va:Value}{ws as_:List Pw}(h:TwAt w nodes bt r lst vw va ws as_)(hr:r∈nodes)(bK:r.key=[])(s:ByteArray)(hs:s.size<=2000000)(a b c d:Int)(he:errQuo nodes (bl s) (qb3 [(a,b),(c,d)]) a b=0)(hf:findKey nodes (qaa (bl s))=some n):
  Cl 56 #[vP bt,.string s,.agg #[vI a,vI b],.agg #[vI c,vI d]] w fun e w'=>e=.returned (vI (qxl (setQ nodes n.key a b c d) as_))/\(qxl (setQ nodes n.key a b c d) as_=0->QM w (n.qxh a b c d) w')/\(qxl (setQ nodes n.key a b c d) as_≠0->QM w n w'):=by
 obtain⟨hv,cZ,n',ez,ec,fu⟩:=qx4 he;rw[hf]at ez;cases ez;obtain⟨hn,dh⟩:=qbw hf;have cV:qao a b=true/\qao c d=true:=by simpa [qb3] using ec
 have eE:n.key≠[]:=by rw[dh];intro e;exact cZ (qxp e)
 have T1:=T0.setQ eE cV.1 cV.2;have du:=fun W (hW:Bw w W)=>qxt T0 (h.below hW) hr bK s hs a b c d
 rw[he]at du;have ag:=fun W (hW:Bw w W) v hv=>qfh T0 hr bK s hs W (h.below hW).ins v hv
 rw[hf]at ag;have dS:=fun W (hW:Bw w W)=>qcz T0 hn W (h.below hW).ins
 have yi:=fun W (hW:Bw w W)=>qpw n.blk n.b0 n.b1 W (((h.below hW).ins n hn).cell rfl) (((h.below hW).ins n hn).cell rfl)
 have eK:n.sl.ownBlock≠some n.blk:=qag (h.ins n hn).row (show Blk w n.blk 136 n.cells from(h.ins n hn).at_) (by decide);have bh:=fun W (hW:Bw w W) g0 g1 g2 g3 g4 b0 b1 b2 b3 b4=>qy0 (w:=W) (bt:=bt) (n:=n) (a:=a) (b:=b) (c:=c) (d:=d) (m0:=pn0 nodes n.key) (m1:=pn1 nodes n.key) (er:=qxl (setQ nodes n.key a b c d) as_) ((h.below hW).ins n hn) eK ((h.below hW).bk.at_.lt) (g0:=g0) (g1:=g1) (g2:=g2) (g3:=g3) (g4:=g4) b0 b1 b2 b3 b4 (q0o T0 hn a b c d)
  (fun W1 hM=>qxq T1 (hB.setQ _ _ _ _ _) ((h.below hW).setQ hB T0 hn hM.2 hM.1) (xrj hr) ((qxk n.key a b c d r).key.trans bK))
 have aM:∀W m w',m.blk=n.blk->Bw w W->QM W m w'->QM w m w':=fun W m w' hm hW hM=>⟨hM.1,(Keep.new hW).trans hM.2⟩
 generalize qxl (setQ nodes n.key a b c d) as_=er at bh ⊢;have cI:∀W,Bw w W->W.cell? (vA bt 0)=some (nptr r.blk):=fun W (hW:Bw w W)=>(h.below hW).bk.at_.cell 0
 have dx:=h.bk.at_.lt;simp only[nptr]at cI ag dS;generalize pn0 nodes n.key=m0 at *;generalize pn1 nodes n.key=m1 at *;have b0:Blk ((w.alloc (.cells #[vI a,vI b] 35)).alloc (.cells #[vI c,vI d] 35)) w.heap.size 35 #[vI a,vI b]:=(Blk.new w 35 _).alloc _;have b1:Blk ((w.alloc (.cells #[vI a,vI b] 35)).alloc (.cells #[vI c,vI d] 35)) (w.heap.size+1) 35 #[vI c,vI d]:=Blk.new' (by simp);have nT:∀(fn:Fn) (first cap:Array Value) (w:World),(Instr.makeFunc fn first cap).run prog w=.ok (.func fn first cap) w:=fun _ _ _ _=>rfl
 clear h he hf ec fu T1
 go_enter func56,ntmps56
 go_upto_region 5 with (first
  |(go_at_call 84;refine(du _ (by exact bel2)).mono ?_;rintro e w1 ⟨rfl,aa⟩;have aj:Bw w w1:=qac (by exact bel2) aa;have j_:=cI w1 aj;have c0:=b0.below aa (by simp<;>omega);have c1:=b1.below aa (by simp<;>omega))
  |(go_at_call 63;refine(ag _ aj (vP n.blk) rfl).mono ?_;rintro e w2 ⟨rfl,af⟩;have aw:Bw w w2:=qac aj af;have d0:=c0.below af c0.lt;have d1:=c1.below af c1.lt))
 have aK:Bw w (w2.alloc (.cells #[vP n.blk] 97)):=aw.alloc aw.size _;have bq:Blk (w2.alloc (.cells #[vP n.blk] 97)) w2.heap.size 97 #[vP n.blk]:=Blk.new w2 97 _;have k0:=d0.alloc (.cells #[vP n.blk] 97);have k1:=d1.alloc (.cells #[vP n.blk] 97);generalize w2.alloc (.cells #[vP n.blk] 97)=W0 at aK bq k0 k1 ⊢;generalize w2.heap.size=gq at bq ⊢;clear d0 d1 c0 c1 b0 b1 aa af aj aw j_ du ag cI;have cq:=bq.cell 0;have lq:=bq.lt;simp only[xq0,xq1,xq2]at cq;have fE:=aK.size;have nq:¬(gq=W0.heap.size):=by omega
 have NM:¬(gq=W0.heap.size+1):=by omega
 go_cut [11,12] from 27 to 30 (fun q1 q2 wx=>∃g1 g2,q1=vP g1/\q2=vP g2/\Bw w wx/\Blk wx g1 35 #[vI m0,vI m1]/\Blk wx g2 35 #[vI n.b0,vI n.b1]/\Bw W0 wx)
 case first =>
  go_region_held3 (fun w'=>w'.cell? (vA gq 0)=some (vP n.blk)) (first|go_keep|exact Blk.cell (vs:=#[vP n.blk]) (t:=97) (by exact blk3) 0)
   (first
   |(go_at_call 85;refine(dS _ (by exact bel2)).mono ?_;rintro e w3 ⟨rfl,ax⟩;have fH:Bw W0 w3:=qac (by exact bel2) ax;have ig:Bw w w3:=qac aK fH;have nA:=fH.size;have Ka:=ig.size;have BQ:Blk w3 gq 97 #[vP n.blk]:=Blk.below (by exact blk2) ax (by first|omega|(simp<;>omega));have Hz:=BQ.cell 0;have Nu:=BQ.lt;have KH:¬(gq=w3.heap.size):=(by omega);have KI:¬(gq=w3.heap.size+1):=(by omega);simp only[xq0,xq1,xq2]at Hz;(try (refine qyg (p:=Blk w3 W0.heap.size 35 #[vI 0,vI 0]) ?_ ?_;(focus (refine Blk.below ?_ ax ?_;(focus ((repeat (first|(with_reducible assumption)|((with_reducible refine Blk.new' ?_);simp;done)|(with_reducible refine Blk.alloc ?_ _)|(with_reducible refine Blk.drew ?_)|(with_reducible refine Blk.drewN ?_ _)));done));(focus (first|omega|(simp;done)|(simp;omega)))));intro z1;have EA:=z1.cell 0;have LV:=z1.cell 1;have LW:=z1.frozen 0;have O5:=z1.frozen 1;have LX:=z1.lt;simp only[xq0,xq1,xq2]at EA LV));(try (refine qyg (p:=Blk w3 (W0.heap.size+1) 35 #[vI 0,vI 0]) ?_ ?_;(focus (refine Blk.below ?_ ax ?_;(focus ((repeat (first|(with_reducible assumption)|((with_reducible refine Blk.new' ?_);simp;done)|(with_reducible refine Blk.alloc ?_ _)|(with_reducible refine Blk.drew ?_)|(with_reducible refine Blk.drewN ?_ _)));done));(focus (first|omega|(simp;done)|(simp;omega)))));intro z2;have EC:=z2.cell 0;have LY:=z2.cell 1;have LZ:=z2.frozen 0;have O6:=z2.frozen 1;have L_:=z2.lt;simp only[xq0,xq1,xq2]at EC LY)))
   |(go_at_call 86;refine(yi _ (by exact bel2)).mono ?_;rintro e w4 ⟨rfl,a_⟩;have FJ:Bw W0 w4:=qac (by exact bel2) a_;have fQ:Bw w w4:=qac aK FJ;have vM:=FJ.size;have Kb:=fQ.size;have Fb:Blk w4 gq 97 #[vP n.blk]:=Blk.below (by exact blk2) a_ (by first|omega|(simp<;>omega));have H0:=Fb.cell 0;have Nv:=Fb.lt;have KJ:¬(gq=w4.heap.size):=(by omega);have KK:¬(gq=w4.heap.size+1):=(by omega);simp only[xq0,xq1,xq2]at H0;(try (refine qyg (p:=Blk w4 W0.heap.size 35 #[vI 0,vI 0]) ?_ ?_;(focus (refine Blk.below ?_ a_ ?_;(focus ((repeat (first|(with_reducible assumption)|((with_reducible refine Blk.new' ?_);simp;done)|(with_reducible refine Blk.alloc ?_ _)|(with_reducible refine Blk.drew ?_)|(with_reducible refine Blk.drewN ?_ _)));done));(focus (first|omega|(simp;done)|(simp;omega)))));intro y1;have E6:=y1.cell 0;have LG:=y1.cell 1;have LH:=y1.frozen 0;have Ot:=y1.frozen 1;have LI:=y1.lt;simp only[xq0,xq1,xq2]at E6 LG));(try (refine qyg (p:=Blk w4 (W0.heap.size+1) 35 #[vI 0,vI 0]) ?_ ?_;(focus (refine Blk.below ?_ a_ ?_;(focus ((repeat (first|(with_reducible assumption)|((with_reducible refine Blk.new' ?_);simp;done)|(with_reducible refine Blk.alloc ?_ _)|(with_reducible refine Blk.drew ?_)|(with_reducible refine Blk.drewN ?_ _)));done));(focus (first|omega|(simp;done)|(simp;omega)))));intro y2;have E7:=y2.cell 0;have LJ:=y2.cell 1;have LK:=y2.frozen 0;have Ou:=y2.frozen 1;have LL:=y2.lt;simp only[xq0,xq1,xq2]at E7 LJ));(try (refine qyg (p:=Blk w4 w3.heap.size 35 #[vI 0,vI 0]) ?_ ?_;(focus (refine Blk.below ?_ a_ ?_;(focus ((repeat (first|(with_reducible assumption)|((with_reducible refine Blk.new' ?_);simp;done)|(with_reducible refine Blk.alloc ?_ _)|(with_reducible refine Blk.drew ?_)|(with_reducible refine Blk.drewN ?_ _)));done));(focus (first|omega|(simp;done)|(simp;omega)))));intro y3;have E8:=y3.cell 0;have LM:=y3.cell 1;have LN:=y3.frozen 0;have Ov:=y3.frozen 1;have LO:=y3.lt;simp only[xq0,xq1,xq2]at E8 LM));(try (refine qyg (p:=Blk w4 (w3.heap.size+1) 35 #[vI 0,vI 0]) ?_ ?_;(focus (refine Blk.below ?_ a_ ?_;(focus ((repeat (first|(with_reducible assumption)|((with_reducible refine Blk.new' ?_);simp;done)|(with_reducible refine Blk.alloc ?_ _)|(with_reducible refine Blk.drew ?_)|(with_reducible refine Blk.drewN ?_ _)));done));(focus (first|omega|(simp;done)|(simp;omega)))));intro y4;have E9:=y4.cell 0;have LR:=y4.cell 1;have LS:=y4.frozen 0;have Oy:=y4.frozen 1;have LU:=y4.lt;simp only[xq0,xq1,xq2]at E9 LR))))
  all_goals go_wp2_with fail
  all_goals go_meet
  all_goals refine⟨_,_,rfl,rfl,(by exact bel2),?_,?_,(by exact bel2)⟩
  all_goals (repeat (first|(with_reducible assumption)|(with_reducible refine q2n ?_ _ _)|((with_reducible refine Blk.new' ?_);first|(simp;done)|(simp;omega))|(with_reducible refine Blk.alloc ?_ _)|((with_reducible refine Blk.other ?_ _ _ ?_);rotate_left;(focus (first|omega|(simp;done)|(simp;omega))))))
 case rest =>
  obtain⟨g1,g2,rfl,rfl,tO,x1,x2,C9⟩:=hcut;have CE:=bh _ tO gq w.heap.size (w.heap.size+1) g1 g2 (bq.below C9 bq.lt) (k0.below C9 k0.lt) (k1.below C9 k1.lt) x1 x2;clear bh dS yi
  go_wp2_with (go_at_call 87;refine CE.mono ?_;rintro e w5 ⟨rfl,hM⟩)
  refine xrn (v:=vI er) (by simp[results,results56,go_sem]) rfl ⟨rfl,fun e=>aM _ _ _ rfl tO (hM.1 e),fun e=>aM _ _ _ rfl tO (hM.2 e)⟩
def PMid (τ : Nat->Tag)(t:Nat)(W:World)(bt:Nat)(nodes:List Node)(last:Int)(vw va:Value)(ws as_:List Pw)(w':World):Prop :=
 ∃τ',(∀b,b<W.heap.size -> τ' b = τ b)/\(∀b,W.heap.size<=b -> τ' b=.free\/(τ' b).prog t)/\qb6 τ' t w' bt nodes last vw va ws as_/\Keep (fun b=>b<W.heap.size/\(τ b).prog t) W w'
section
variable {τ : Nat->Tag}{t:Nat}{W:World}{bt:Nat}{nodes:List Node}{last:Int}{vw va:Value}{ws as_:List Pw}
theorem PMid.from(hb:Bw W W0)(h:PMid (qde τ W.heap.size) t W0 bt nodes last vw va ws as_ w'):PMid τ t W bt nodes last vw va ws as_ w':=by
 obtain⟨τ',m1,m2,m3,m4⟩:=h;have hz:=hb.size
 refine⟨τ',fun b ak=>by rw[m1 b (by omega),qbx ak],fun b kF=>?_,m3,(Keep.new hb).step m4 (fun b ak e=>by have:=e.2;rw[qbx ak]at this;exact⟨ak,this⟩)⟩
 by_cases h1:b<W0.heap.size
 ·left;rw[m1 b h1,qe4 kF]
 ·exact m2 b (by omega)
theorem qx9(h:PMid τ t W bt nodes last vw va ws as_ w1)(R:Rel nodes Ws ws as_)(I:SInv ⟨Ws,st,[]⟩)(hL:WkL nodes Ws last)(hc:0<=last):
  Cl 51 #[vP bt,vI 0] w1 fun e w'=>∃ev,e=.returned (.tuple #[ev,vI 0])/\POut τ t W bt (qiu (nodes.map Node.ent) last (qaj (nodes.map Node.ent) ⟨Ws,st,[]⟩)) ev w':=by
 obtain⟨τ1,g1,g2,g3,g6⟩:=h;obtain⟨r,hr,oc⟩:=g3.bk;obtain⟨gd,bK⟩:=qeh g3.pr.tree hr
 refine(qf6 g3.pr.tree g3.pr.qlc oc gd bK (s0:=⟨Ws,st,[]⟩) R I rfl).mono ?_
 rintro e w' ⟨ik,gR,eV,il,jj,rfl,m1,m2,m3,m4,m5,m6,m7⟩
 obtain⟨τ2,oy,qJ,jF,mY,k1,k2,k3,k4,k5,k6,k7⟩:=g3.set hr (last':=last) (ev:=eV) ⟨ik,gR,il,jj,m1,m2,m3,m4,m5,m6,fun p hp=>.inl (m7 p hp)⟩;have hz:=g6.size
 refine⟨eV,rfl,τ2,nodes,oy,qJ,jF,mY,fun b hb=>(k1 b (by omega)).trans (g1 b hb),fun b hb=>?_,k3,rfl,Comm.settled g3.pr.tree I hL hc k4,k5,fun b hb=>⟨by have:=(k6 b hb).1;omega,(k6 b hb).2⟩,g6.qbo k7 (fun b hb e=>⟨hb,by have:=e.2;rw[g1 b hb]at this;exact this⟩)⟩
 by_cases aa:b<w1.heap.size
 ·rw[k1 b aa];exact g2 b hb
 ·exact k2 b (by omega)
theorem PMid.setQ(h:qb6 τ t W bt nodes last vw va ws as_)(hn:n∈nodes)(eE:n.key≠[]){b c:Int}(h1:qao a b=true)(h2:qao c d=true)(hM:QM W (n.qxh a b c d) w'):PMid τ t W bt (setQ nodes n.key a b c d) last vw va ws as_ w':=by
 have T:=h.pr.tree;have hB:=h.pr.qlc;obtain⟨cH,hk⟩:=hM;have dz:Keep (fun x=>x=n.blk) W w':=hk;obtain⟨i,hi⟩:=xre hn;have jx:=(h.pr.tags i n hi).1;obtain⟨r,hr,oc⟩:=h.bk;have DT:=oc.setQ hB T hn dz cH
 refine⟨qde τ W.heap.size,fun b hb=>qbx hb,fun b hb=>.inl (qe4 hb),?_,dz.qlj (fun x hx e=>⟨hx,by rw[e,jx];rfl⟩)⟩
 exact h.mapN (fun m _=>qxk n.key a b c d m) (T.setQ eE h1 h2) dz (fun x hx e=>⟨n,hn,e.symm⟩) (fun m hm=>DT.ins _ (xrj hm)) (fun x hx=>qbx hx)
theorem PMid.back(h:qb6 τ t W bt nodes last vw va ws as_)(hn:n∈nodes)(hM:QM W n w'):PMid τ t W bt nodes last vw va ws as_ w':=by
 have T:=h.pr.tree;have hB:=h.pr.qlc;obtain⟨cH,hk⟩:=hM;obtain⟨i,hi⟩:=xre hn;have jx:=(h.pr.tags i n hi).1;have cU:Blk W n.blk 136 n.cells:=(h.pr.ins n hn).at_
 refine⟨qde τ W.heap.size,fun b hb=>qbx hb,fun b hb=>.inl (qe4 hb),?_,hk.qlj (fun x hx e=>⟨hx,by rw[e,jx];rfl⟩)⟩
 have:=h.mapN (τ':=qde τ W.heap.size) (f:=id) (fun m _=>⟨rfl,rfl,rfl,rfl,rfl,rfl⟩) (by simpa using T) hk (fun x hx e=>⟨n,hn,e.symm⟩) (fun m hm=>?_) (fun x hx=>qbx hx)
 ·simpa using this
 ·by_cases e:m.blk=n.blk
  ·rw[hB m hm n hn e];exact cH
  ·exact(h.pr.ins m hm).keep hk e (fun g hg e2=>qag (h.pr.ins m hm).row cU (by decide) (by rw[hg,e2]))
end
def qx1 (x:Tw)(s:Bs)(a b c d:Int):Out :=
 match findKey x.nodes (qaa s) with
 |none=>x.same (errQuo x.nodes s (qb3 [(a,b),(c,d)]) a b)
 |some n=>if errQuo x.nodes s (qb3 [(a,b),(c,d)]) a b≠0 then x.same (errQuo x.nodes s (qb3 [(a,b),(c,d)]) a b) else if qxl (setQ x.nodes n.key a b c d) x.as_≠0 then x.same (qxl (setQ x.nodes n.key a b c d) x.as_)
  else qiu ((setQ x.nodes n.key a b c d).map Node.ent) x.cnt (qaj ((setQ x.nodes n.key a b c d).map Node.ent) ⟨x.Ws,x.st,[]⟩)
theorem WkL.mapN{nodes:List Node}(h:WkL nodes Ws cnt){f:Node->Node}(hf:∀n∈nodes,q0s n (f n)):WkL (nodes.map f) Ws cnt :=
 ⟨fun y hy=>by
  obtain⟨n,hn,e1,e2⟩:=h.leaf y hy
  exact⟨f n,xrj hn,(hf n hn).key.trans e1,(hf n hn).leaf.trans e2⟩,h.num⟩
theorem Rel.mapN{nodes:List Node}{ws as_:List Pw}(R:Rel nodes Ws ws as_){f:Node->Node}(hf:∀n∈nodes,q0s n (f n)):Rel (nodes.map f) Ws ws as_ :=
 R.qvh (fun n hn=>⟨f n,xrj hn,(hf n hn).blk,(hf n hn).key⟩)
theorem qyd{W:World}{bt:Nat}(s:ByteArray)(a b c d:Int){M:World->Prop}{F:Value->World->Prop}
  (wi:∀W1,Bw W W1->Cl 56 #[vP bt,.string s,.agg #[vI a,vI b],.agg #[vI c,vI d]] W1 fun e w'=>e=.returned (vI er)/\M w')
  (xH:∀W1,M W1->Cl 51 #[vP bt,vI er] W1 fun e w'=>∃ev,e=.returned (.tuple #[ev,vI er])/\F ev w') :
  Cl 29 #[vP bt,.string s,.agg #[vI a,vI b],.agg #[vI c,vI d]] W fun e w'=>∃ev,e=.returned (.tuple #[ev,vI er])/\F ev w':=by
 have b0:Blk ((W.alloc (.cells #[vI a,vI b] 35)).alloc (.cells #[vI c,vI d] 35)) W.heap.size 35 #[vI a,vI b]:=(Blk.new W 35 _).alloc _;have b1:Blk ((W.alloc (.cells #[vI a,vI b] 35)).alloc (.cells #[vI c,vI d] 35)) (W.heap.size+1) 35 #[vI c,vI d]:=Blk.new' (by simp)
 go_enter func29,ntmps29
 go_wp2_with (first
  |(go_at_call 56;refine(wi _ (by exact bel2)).mono ?_;rintro e w1 ⟨rfl,hM⟩)
  |(go_at_call 51;refine(xH _ hM).mono ?_;rintro e w2 ⟨ev,rfl,hF⟩))
 exact xrn (v:=.tuple #[ev,vI er]) (by simp[results,results29,go_sem]) rfl ⟨ev,rfl,hF⟩
theorem q20{τ : Nat->Tag}{t:Nat}{W:World}{x:Tw}(hP:qb6 τ t W x.bt x.nodes x.last x.vw x.va x.ws x.as_)(A:qbj K x)(s:ByteArray)(hs:s.size<=2000000)(a b c d:Int):
  Cl 29 #[vP x.bt,.string s,.agg #[vI a,vI b],.agg #[vI c,vI d]] W fun e w'=>∃ev,e=.returned (.tuple #[ev,vI (qx1 x (bl s) a b c d).err])/\POut τ t W x.bt (qx1 x (bl s) a b c d) ev w':=by
 obtain⟨r,dN,hb⟩:=hP.bk;obtain⟨gd,bK⟩:=qeh hP.pr.tree dN;have T:=hP.pr.tree;have hB:=hP.pr.qlc;have FC:=fun W1 (hW:Bw W W1)=>hP.keep (τ':=qde τ W.heap.size) (T:=fun _=>False) (Keep.new hW) (fun _ _ h=>h.elim) (fun b hb=>qbx hb)
 by_cases he:errQuo x.nodes (bl s) (qb3 [(a,b),(c,d)]) a b=0
 ·obtain⟨hv,cZ,n,hf,ec,fu⟩:=qx4 he;obtain⟨hn,dh⟩:=qbw hf;have cV:qao a b=true/\qao c d=true:=by simpa [qb3] using ec
  have eE:n.key≠[]:=by rw[dh];intro e;exact cZ (qxp e)
  have wi:=fun W1 (hW:Bw W W1)=>q2e T hB (hb.below hW) gd bK s hs a b c d he hf
  have ho:qx1 x (bl s) a b c d=if qxl (setQ x.nodes n.key a b c d) x.as_≠0 then x.same (qxl (setQ x.nodes n.key a b c d) x.as_) else qiu ((setQ x.nodes n.key a b c d).map Node.ent) x.cnt (qaj ((setQ x.nodes n.key a b c d).map Node.ent) ⟨x.Ws,x.st,[]⟩):=by
   unfold qx1;simp only[hf];rw[if_neg (by simpa using he)]
  by_cases h2:qxl (setQ x.nodes n.key a b c d) x.as_=0
  ·rw[if_neg (by simpa using h2)]at ho;rw[ho]
   refine qyd (M:=PMid τ t W x.bt (setQ x.nodes n.key a b c d) x.last x.vw x.va x.ws x.as_) s a b c d (fun W1 hW=>(wi W1 hW).mono fun e w' h=>?_) (fun W1 hM=>?_)
   ·obtain⟨h3,h4,_⟩:=h;rw[h2]at h3
    exact⟨h3,PMid.from hW (PMid.setQ (FC W1 hW) hn eE cV.1 cV.2 (h4 h2))⟩
   ·have:=qx9 hM (A.com.rel.mapN (fun m _=>qxk n.key a b c d m)) A.inv (by rw[<-A.cnt];exact A.com.wkl.mapN (fun m _=>qxk n.key a b c d m)) (by rw[<-A.cnt];exact A.com.cnt0)
    rw[<-A.cnt]at this
    exact this
  ·rw[if_pos h2]at ho;rw[ho]
   refine qyd (M:=PMid τ t W x.bt x.nodes x.last x.vw x.va x.ws x.as_) s a b c d (fun W1 hW=>(wi W1 hW).mono fun e w' h=>?_) (fun W1 hM=>?_)
   ·obtain⟨h3,_,h4⟩:=h
    exact⟨h3,PMid.from hW (PMid.back (FC W1 hW) hn (h4 h2))⟩
   ·refine(qgg (w:=W1) (bt:=x.bt) h2).mono ?_
    rintro e w' ⟨rfl,rfl⟩
    obtain⟨τ',m1,m2,m3,m4⟩:=hM
    refine⟨_,rfl,τ',x.nodes,x.vw,x.va,x.ws,x.as_,m1,m2,?_,A.L.symm,A.com,xrk _ _ _ _,(fun b hb=>by cases hb),m4⟩
    show qb6 τ' t _ x.bt x.nodes x.cnt x.vw x.va x.ws x.as_
    rw[A.cnt];exact m3
 ·have ho:qx1 x (bl s) a b c d=x.same (errQuo x.nodes (bl s) (qb3 [(a,b),(c,d)]) a b):=by
   unfold qx1
   cases findKey x.nodes (qaa (bl s)) with
   |none=>rfl
   |some n=>simp only[ne_eq,he,not_false_eq_true,if_true]
  rw[ho]
  refine qyd (M:=fun w'=>Bw W w') s a b c d (fun W1 hW=>(q2d T (hb.below hW) gd bK s hs a b c d rfl he).mono fun e w' h=>⟨h.1,qac hW h.2⟩) (fun W1 hM=>?_)
  refine(qgg (w:=W1) (bt:=x.bt) he).mono ?_
  rintro e w' ⟨rfl,rfl⟩
  exact⟨_,rfl,qht hP A hM _⟩
def qyt (L:List Ent)(Ws:List Wk)(e:Ent):Bool:=sh0 L Ws e 0||sh1 L Ws e 0
def qxf (L:List Ent)(Ws:List Wk):Bool:=L.any (qyt L Ws)
theorem q0d{g:Nat}(h:GRef w br g cap L ao cW Ws cnt st)(E:Ents L)(EB:Bors L)(EW:Wks Ws):
  Cl 163 #[vP br] w fun e w'=>e=.returned (.bool (qxf L Ws))/\Bw w w':=by
 have bR:=h.ref.at_.lt;have cP:=E.len;have cr:=h.ref.qjv;obtain⟨n,hn⟩:∃n,n=L.length:=⟨_,rfl⟩;have dL:w.cell? (vA br 0)=some (vS g n cap):=by have:=h.ref.at_.cell 0;rw[hn];simpa using this
 rw[<-hn]at cP cr;have HN:Hid (n=L.length):=hn;clear hn
 go_enter func163,ntmps163
 go_wp2
 go_loopw [3] (fun i wr=>∃k:Nat,k<=n/\i=vI k/\Bw w wr/\(L.take k).any (qyt L Ws)=false) (fun i _=>n-(intOf i).toNat)
 case atStart=>exact⟨0,Nat.zero_le _,rfl,by exact bel2,by simp⟩
 case round =>
  obtain⟨k,hk,rfl,ae,a8⟩:=hrel;have hc:=(ae.cell (p:=vA br 0) bR).trans dL;have cO:Hid ((L.take k).any (qyt L Ws)=false):=a8;clear a8
  by_cases ak:k<n
  ·have aV:k<L.length:=by rw[<-HN.out];exact ak
   obtain⟨y,hy⟩:∃y,L[k]?=some y:=⟨_,xr1 aV⟩;have HT:Hid (L.take (k+1)=L.take k++[y]):=by
    rw[xrf aV];rw[xr1 aV]at hy;cases hy;rfl
   have eU:=xr2 hy;have fO:=fun W (hW:Bw w W)=>qlt (h.below hW) E EW hy (EB y eU) 0 0 (by omega) (by omega)
   have lZ:Hid (qyt L Ws y=(sh0 L Ws y 0||sh1 L Ws y 0)):=rfl;have eX:Hid ((L.take (k+1)).any (qyt L Ws)=qyt L Ws y):=by
    show _=_
    rw[HT.out,List.any_append,cO.out];simp
   have a7:Hid (qyt L Ws y=true->qxf L Ws=true):=fun ht=>by
    show qxf L Ws=true
    unfold qxf;rw[xs0]
    exact⟨y,eU,ht⟩
   clear hy eU HT cO;generalize sh0 L Ws y 0=s0 at fO lZ;generalize sh1 L Ws y 0=s1 at fO lZ;generalize qyt L Ws y=tt at lZ eX a7;have ej:(k:Int)<n:=by omega
   go_wp2_with fail
   refine(fO _ ae).mono ?_
   rintro e w1 ⟨rfl,aa⟩
   have aj:Bw w w1:=qac ae aa;have cJ:=aj.size;clear fO aa hc
   cases s0<;>cases s1
   all_goals go_wp2
   all_goals first
    |exact⟨⟨k+1,by omega,by go_num,by exact bel2,by rw[eX.out,lZ.out];rfl⟩,by simp[intOf];omega⟩
    |(go_ret;exact⟨qa9 (a7.out (by rw[lZ.out];rfl)).symm,by exact bel2⟩)
  ·go_wp2
   go_ret
   have dz:L.take k=L:=xrd (by have:=HN.out;omega);have h1:=cO.out;rw[dz]at h1
   exact⟨qa9 (show false=qxf L Ws from h1.symm),ae⟩
def errF (L:List Ent)(s:Bs):Int:=if qar s=false then 1 else if s=[] then 2 else if (qcv L (qaa s)).isSome then 0 else 3
def qyy (L:List Ent)(s:Bs)(e:Ending):Prop :=
 (errF L s≠0/\e=.returned (.tuple #[vI 0,vI (errF L s)]))\/(errF L s=0/\∃(i:Nat) (x:Ent),L[i]?=some x/\x.key=qaa s/\e=.returned (.tuple #[vI i,vI 0]))
theorem qxw{g:Nat}(h:qc9 w br g cap L v1 v2 v3)(E:Ents L)(aH:∀a∈L,∀b∈L,a.key=b.key->a=b)(s:ByteArray)(hs:s.size<=2000000):
  Cl 117 #[vP br,.string s] w fun e w'=>qyy L (bl s) e/\Bw w w':=by
 have bh:=fun W (hW:Bw w W)=>qwn (h.below hW) (by have:=E.len;omega) s
 have bR:=h.at_.lt
 cases hv:qar (bl s)
 ·have hn:=fun W=>qh1 s hs hv W
  have HX:Hid (qyy L (bl s) (.returned (.tuple #[vI 0,vI 1]))):=by
   have:errF L (bl s)=1:=by unfold errF;rw[hv];rfl
   exact .inl ⟨by rw[this];decide,by rw[this]⟩
  generalize qyy L (bl s)=X at HX ⊢;have bT:∀W,Bw w W->Cl 114 #[vP br,.string s] W fun e w'=>(∃i,e=.returned (vI i))/\w'=W:=fun W hW=>(bh W hW).mono (fun e w' hp=>⟨by rcases hp.1 with ⟨i,x,h1,_⟩|⟨_,h1⟩<;>exact⟨_,h1⟩,hp.2⟩)
  clear bh h
  go_enter func117,ntmps117
  go_wp2_with (first
   |(go_at_call 113;refine(hn _).mono ?_;rintro e w1 ⟨rfl,aa⟩;have aj:Bw w w1:=qac (by exact bel2) aa)
   |(go_at_call 114;refine(bT _ aj).mono ?_;rintro e w2 ⟨⟨i,rfl⟩,en⟩;subst en))
  exact xrn (v:=.tuple #[vI 0,vI 1]) (by simp[results,results117,go_sem]) rfl ⟨HX.out,aj⟩
 ·have hn:=fun W=>qdd s hs hv W
  have gK:qbn (qaa (bl s))=true:=by rw[<-qba];exact hv
  by_cases h0:bl s=[]
  ·have hz:s=⟨#[]⟩:=qer (h0.trans qh4.symm);have HX:Hid (qyy L (bl s) (.returned (.tuple #[vI 0,vI 2]))):=by
    have:errF L (bl s)=2:=by unfold errF;rw[hv,h0];rfl
    exact .inl ⟨by rw[this];decide,by rw[this]⟩
   generalize qyy L (bl s)=X at HX ⊢;have bT:∀W,Bw w W->Cl 114 #[vP br,.string s] W fun e w'=>(∃i,e=.returned (vI i))/\w'=W:=fun W hW=>(bh W hW).mono (fun e w' hp=>⟨by rcases hp.1 with ⟨i,x,h1,_⟩|⟨_,h1⟩<;>exact⟨_,h1⟩,hp.2⟩)
   clear bh h hv gK h0;subst hz
   go_enter func117,ntmps117
   go_wp2_with (first
    |(go_at_call 113;refine(hn _).mono ?_;rintro e w1 ⟨⟨fy,cp,rfl,au⟩,aa⟩;have aj:Bw w w1:=qac (by exact bel2) aa)
    |(go_at_call 114;refine(bT _ aj).mono ?_;rintro e w2 ⟨⟨i,rfl⟩,en⟩;subst en))
   exact xrn (v:=.tuple #[vI 0,vI 2]) (by simp[results,results117,go_sem]) rfl ⟨HX.out,aj⟩
  ·have hq:(s.toList.isEmpty)=false:=by rw[qaz];simpa using h0
   cases hfi:qcv L (qaa (bl s)) with
   |none =>
    have bh:=fun W (hW:Bw w W)=>qgx (h.below hW) E aH s (qaa (bl s)) gK (qa6 (bl s)).symm hfi
    have HX:Hid (qyy L (bl s) (.returned (.tuple #[vI 0,vI 3]))):=by
     have:errF L (bl s)=3:=by unfold errF;rw[hv,hfi,if_neg h0];rfl
     exact .inl ⟨by rw[this];decide,by rw[this]⟩
    generalize qyy L (bl s)=X at HX ⊢;clear h hv gK h0 hfi
    go_enter func117,ntmps117
    go_wp2_with (first
     |(go_at_call 113;refine(hn _).mono ?_;rintro e w1 ⟨⟨fy,cp,rfl,au⟩,aa⟩;have aj:Bw w w1:=qac (by exact bel2) aa)
     |(go_at_call 114;refine(bh _ aj).mono ?_;rintro e w2 ⟨rfl,en⟩;subst en))
    exact xrn (v:=.tuple #[vI 0,vI 3]) (by simp[results,results117,go_sem]) rfl ⟨HX.out,aj⟩
   |some x =>
    have bh:=fun W (hW:Bw w W)=>qib (h.below hW) E aH s (qaa (bl s)) gK (qa6 (bl s)).symm hfi
    have ti:x.key=qaa (bl s):=by have:=List.find?_some hfi;simpa using this
    have HX:Hid (∀i:Nat,L[i]?=some x->qyy L (bl s) (.returned (.tuple #[vI i,vI 0]))):=fun i hi=>by
     have:errF L (bl s)=0:=by unfold errF;rw[hv,hfi,if_neg h0];rfl
     exact .inr ⟨this,i,x,hi,ti,rfl⟩
    generalize qyy L (bl s)=X at HX ⊢;clear h hv gK h0 hfi ti
    go_enter func117,ntmps117
    go_wp2_with (first
     |(go_at_call 113;refine(hn _).mono ?_;rintro e w1 ⟨⟨fy,cp,rfl,au⟩,aa⟩;have aj:Bw w w1:=qac (by exact bel2) aa)
     |(go_at_call 114;refine(bh _ aj).mono ?_;rintro e w2 ⟨⟨i,rfl,hi⟩,en⟩;subst en;have uI:¬((i:Int)<0):=(by omega)))
    exact xrn (v:=.tuple #[vI i,vI 0]) (by simp[results,results117,go_sem]) rfl ⟨HX.out i hi,aj⟩
theorem q28:(prog.info? 163).map (fun i=>(i.size,i.bytes))=some (6,56):=by kernel_rfl
theorem q29:(prog.info? 163).bind (fun i=>i.zero)=some (.agg #[.string ⟨#[]⟩,.bool false,vI 0,vI 0,vI 0,vI 0]):=by kernel_rfl
theorem qz8:qdf 163 6 56:=qep q28 q29 rfl
theorem qyh(l:List Ent):∀u∈qdi l,u.oneCell'=true:=by
 intro u hu;unfold qdi at hu;obtain⟨x,_,hx⟩:=List.mem_flatMap.1 hu
 simp[qbs]at hx
 rcases hx with rfl|rfl|rfl|rfl|rfl|rfl<;>rfl
theorem qy1{W:World}{n:Nat}{a:Option Addr}(h:W.ownsRow 0 e size (.slice a n c) n xs):n<=c/\c<=maxLen:=by
 rcases h.2 with ⟨h,h0⟩|⟨g,cap,aD,h,_,_,h2,h3,_⟩
 ·cases h;exact⟨Nat.le_refl _,Nat.zero_le _⟩
 ·cases h;exact⟨h2,h3⟩
theorem qyv{W:World}{n:Nat}{a:Option Addr}(h:AppO W none e size n xs a cap w'):Bw W w' :=
 h.keep.toBelow (Nat.le_refl _) (fun b _ hb=>by cases hb)
theorem qya{g:Nat}(h:GRef w br g cap L ao cW Ws cnt st)(hL:L.length<=20)(sE:0<L.length)(hW:Ws.length<=24):
  Cl 119 #[vP br] w fun e w'=>∃bu g' cap' fy hZ,e=.returned (vP bu)/\GRef w' bu g' cap' L fy hZ Ws cnt st/\Bw w w'/\w.heap.size<=bu/\w.heap.size<=g'/\(∀b,(Value.slice fy Ws.length hZ).ownBlock=some b->w.heap.size<=b):=by
 have bR:=h.ref.at_.lt;have cr:=h.ref.qjv;have nP:=qy1 h.wrow;obtain⟨n,hn⟩:∃n,n=L.length:=⟨_,rfl⟩;obtain⟨m,hm⟩:∃m,m=Ws.length:=⟨_,rfl⟩;have c0:w.cell? (vA br 0)=some (vS g n cap):=by have:=h.ref.at_.cell 0;rw[hn];simpa using this
 have c1:w.cell? (vA br 1)=some (.slice ao m cW):=by have:=h.ref.at_.cell 1;rw[hm];simpa using this
 have c2:w.cell? (vA br 2)=some (vI cnt):=by have:=h.ref.at_.cell 2;simpa using this
 have c3:w.cell? (vA br 3)=some (vI st):=by have:=h.ref.at_.cell 3;simpa using this
 have ct:g<w.heap.size:=(h.ref.row.lt g rfl).2;have HL:∀W,Bw w W->∃v' w',(∀ty,(Builtin.append_ #[164,164] ty #[v0_,vS g n cap]).run prog W=.ok v' w')/\∃g' cap',v'=vS g' n cap'/\AppR W none 163 6 n (qdi L) g' cap' w':=fun W hB=>by
  have:=qnf qvo qz8 (by omega) W v0_ 0 [] (xrk _ _ _ _) (vA g 0) n cap (by omega) (qdi L) (by have:=h.ref.row.1;rw[hn];exact this) (fun j u hu=>by
   have:=h.ref.row.cells (g:=g) rfl j u hu
   exact(hB.cell (p:=((vA g 0):Addr).add j) (by rw[Addr.add_lit];exact ct)).trans this) (qyh L) (by unfold maxLen;omega) (by omega)
  simpa [Value.ownBlock] using this
 have HW:∀W,Bw w W->∃v' w',(∀ty,(Builtin.append_ #[165,165] ty #[v0_,.slice ao m cW]).run prog W=.ok v' w')/\∃a' cap',v'=.slice a' m cap'/\AppO W none 178 5 m (qad Ws) a' cap' w':=fun W hB=>by
  have:=qrk un70 qr3 (by omega) W none 0 0 (Nat.le_refl _) (Nat.zero_le _) [] (xrk _ _ _ _) ao m cW (qad Ws) (by have:=h.wrow.1;rw[hm];exact this) (fun cM=>by
   obtain⟨b,c',hv,_,_⟩:=qat h.wrow (by omega);injection hv with e1 _ _;subst e1
   exact⟨_,rfl,fun j u hu=>(hB.cell (p:=((vA b 0):Addr).add j) (by rw[Addr.add_lit];exact qal h.wrow rfl)).trans (h.wrow.cells (g:=b) rfl j u hu)⟩) (qio Ws) (by unfold maxLen;omega) (by omega)
  simpa [Value.ownBlock] using this
 rw[<-hn]at cr;rw[<-hm]at nP;have HN:Hid (n=L.length/\m=Ws.length):=⟨hn,hm⟩;clear hn hm h
 go_enter func119,ntmps119
 go_wp2
 go_region
 have xq:Blk (w.alloc (.cells #[v0_,v0_,vI cnt,vI st] 167)).drew w.heap.size 167 #[v0_,v0_,vI cnt,vI st]:=(Blk.new w 167 _).drew;have aO:Bw w (w.alloc (.cells #[v0_,v0_,vI cnt,vI st] 167)).drew:=by exact bel2
 obtain⟨U0,FI⟩:∃U0,U0=(w.alloc (.cells #[v0_,v0_,vI cnt,vI st] 167)).drew:=⟨_,rfl⟩;rw[<-FI]at xq aO ⊢;clear FI;have u0:=xq.cell 0;have ul:=xq.lt;have uf:=xq.frozen 0;have v0:=(aO.cell (p:=vA br 0) bR).trans c0;simp only[xq0,xq1,xq2]at u0
 go_wp2
 go_region_law (refine qau rfl (.tmp 18) (.tmp 22) 164 164 rfl _ _ ?_ ?_ (HL _ ?_) ?_;(focus (simp[Act.eval,Act.put]));(focus ((try simp[Act.eval,Act.put]);(try rfl)));(focus exact bel2);rintro vA wA ⟨gA,kA,rfl,RA⟩;have bA:Blk wA w.heap.size 167 #[v0_,v0_,vI cnt,vI st]:=Blk.below (by exact blk2) RA.below ul;have gV:Bw w wA:=qac (by exact bel2) RA.below;have Ho:=bA.lt;have ES:=bA.cell 0;have Hn:=bA.frozen 0;simp only[xq0,xq1,xq2]at ES)
 all_goals
  have gU:U0.heap.size<=gA:=by rcases RA.new with e|e;(cases e);(simpa using e)
  have b1:Blk (wA.setCell (vA w.heap.size 0) (vS gA n kA)) w.heap.size 167 #[vS gA n kA,v0_,vI cnt,vI st]:=by simpa using bA.set 0 (vS gA n kA)
  have aj:Bw w (wA.setCell (vA w.heap.size 0) (vS gA n kA)):=gV.setCell (p:=vA w.heap.size 0) (Nat.le_refl _) _;have r1:(wA.setCell (vA w.heap.size 0) (vS gA n kA)).ownsRow 0 163 6 (vS gA n kA) n (qdi L):=xrl RA.own (fun e=>by simp[Value.ownBlock]at e;omega) _;have gl:=(r1.lt gA rfl).2;obtain⟨V,hV⟩:∃V,V=wA.setCell (vA w.heap.size 0) (vS gA n kA):=⟨_,rfl⟩;rw[<-hV]at b1 aj r1 gl ⊢;clear hV bA gV Ho ES Hn RA u0 uf v0 xq aO;have x1:=b1.cell 1;have xl:=b1.lt;have xf:=b1.frozen 1;have v1:=(aj.cell (p:=vA br 1) bR).trans c1;simp only[xq0,xq1,xq2]at x1
  go_wp2
  go_region_law (refine qau rfl (.tmp 30) (.tmp 34) 165 165 rfl _ _ ?_ ?_ (HW _ ?_) ?_;(focus (simp[Act.eval,Act.put]));(focus ((try simp[Act.eval,Act.put]);(try rfl)));(focus exact bel2);rintro vB wB ⟨aB,kB,rfl,RB⟩;have rk:=qyv RB;have bB:Blk wB w.heap.size 167 #[vS gA n kA,v0_,vI cnt,vI st]:=Blk.below (by exact blk2) rk (by simpa using xl);have tL:Bw w wB:=qac (by exact bel2) rk;have Mh:=bB.lt;have Hp:=bB.cell 1;have Mg:=bB.frozen 1;simp only[xq0,xq1,xq2]at Hp)
  all_goals
   have aU:∀b,(Value.slice aB m kB).ownBlock=some b->V.heap.size<=b:=fun b hb=>by rcases RB.new b hb with e|e;(cases e);(simpa using e)
   have b2:Blk (wB.setCell (vA w.heap.size 1) (.slice aB m kB)) w.heap.size 167 #[vS gA n kA,.slice aB m kB,vI cnt,vI st]:=by simpa using bB.set 1 (.slice aB m kB)
   have aw:Bw w (wB.setCell (vA w.heap.size 1) (.slice aB m kB)):=tL.setCell (p:=vA w.heap.size 1) (Nat.le_refl _) _;have r2:(wB.setCell (vA w.heap.size 1) (.slice aB m kB)).ownsRow 0 163 6 (vS gA n kA) n (qdi L):=xrl (qab (T:=fun _=>False) r1 (Keep.new (qac (Below.refl _ _).drew rk)) (fun _ _ h=>h)) (fun e=>by simp[Value.ownBlock]at e;omega) _;have r3:(wB.setCell (vA w.heap.size 1) (.slice aB m kB)).ownsRow 0 178 5 (.slice aB m kB) m (qad Ws):=xrl RB.own (fun e=>by have:=aU _ e;simp at this;omega) _
   go_wp2
   obtain⟨hn,hm⟩:=HN.out;subst hn hm
   exact xrn (v:=vP w.heap.size) (by simp[results,results119,go_sem]) rfl ⟨_,_,_,_,_,rfl,⟨⟨b2,r2⟩,r3,fun b hb=>by have:=aU b hb;omega⟩,aw,Nat.le_refl _,by omega,fun b hb=>by have:=aU b hb;omega⟩
theorem qy2{g:Nat}(h:GRef w br g cap L' ao cW Ws' cnt st)(E:Ents L')(EB:Bors L')(I:SInv ⟨Ws',st,[]⟩)(bW:st<=900000000)
  (h2:GRef w bu g2 eD L jG jH Ws BW E0) (d0:bu≠br) (d1:g2≠br) (d2:∀b,(Value.slice jG Ws.length jH).ownBlock=some b->b≠br) :
  Cl 120 #[vP br,vP bu] w fun e w' =>
   (qxf L' Ws'=true/\e=.returned (.tuple #[v0_,vI 11])/\GRef w' br g2 eD L jG jH Ws cnt st/\Keep (fun b=>b=br) w w') \/
   (qxf L' Ws'=false/\∃sl fy hZ,e=.returned (.tuple #[sl,vI 0])/\qck w br g cap L' (Value.slice ao Ws'.length cW).ownBlock cnt Ws'.length w' fy hZ (qaj L' ⟨Ws',st,[]⟩).Ws (qaj L' ⟨Ws',st,[]⟩).st sl (qaj L' ⟨Ws',st,[]⟩).evs):=by
 have eJ:=q0d h E EB I.wks.wks;have bR:=h.qii
 cases hv:qxf L' Ws'
 ·have cX:=fun W (hW:Bw w W)=>settle_ref (h.below hW) E EB I bW
  rw[hv]at eJ;have HP:∀w1 w' sl fy hZ,Bw w w1->qck w1 br g cap L' (Value.slice ao Ws'.length cW).ownBlock cnt Ws'.length w' fy hZ (qaj L' ⟨Ws',st,[]⟩).Ws (qaj L' ⟨Ws',st,[]⟩).st sl (qaj L' ⟨Ws',st,[]⟩).evs->qck w br g cap L' (Value.slice ao Ws'.length cW).ownBlock cnt Ws'.length w' fy hZ (qaj L' ⟨Ws',st,[]⟩).Ws (qaj L' ⟨Ws',st,[]⟩).st sl (qaj L' ⟨Ws',st,[]⟩).evs:=fun w1 w' sl fy hZ hb S =>
   ⟨S.ref,S.len,(Keep.new hb).step S.keep (fun b _ e=>e),fun b af ak=>S.old b af (xrg ak hb.size),S.row,fun b af=>Nat.le_trans hb.size (S.new b af),S.sep⟩
  generalize qck w br g cap L' (Value.slice ao Ws'.length cW).ownBlock cnt Ws'.length=SA at *;clear h2
  go_enter func120,ntmps120
  go_wp2_with fail
  refine eJ.mono ?_
  rintro e w1 ⟨rfl,aa⟩
  have oa:=cX w1 aa;clear cX eJ
  go_wp2_with fail
  refine oa.mono ?_
  rintro e w2 ⟨sl,a2,c2,rfl,hS⟩
  have HX:=HP _ _ _ _ _ aa hS;clear hS oa HP
  go_wp2_with fail
  exact xrn (v:=.tuple #[sl,vI 0]) (by simp[results,results120,go_sem]) rfl (.inr ⟨trivial,sl,a2,c2,rfl,HX⟩)
 ·rw[hv]at eJ;have sJ:=h2.qii;obtain⟨n,hn⟩:∃n,n=L.length:=⟨_,rfl⟩;obtain⟨m,hm⟩:∃m,m=Ws.length:=⟨_,rfl⟩;obtain⟨u0,wT⟩:∃u,u=vS g L'.length cap:=⟨_,rfl⟩;obtain⟨u1,AY⟩:∃u,u=Value.slice ao Ws'.length cW:=⟨_,rfl⟩;have bb:=h.ref.at_;rw[<-wT,<- AY]at bb;have cb:=h2.ref.at_;rw[<-hn,<- hm]at cb;have HX:∀w1,Bw w w1->GRef ((w1.setCell (vA br 0) (vS g2 n eD)).setCell (vA br 1) (.slice jG m jH)) br g2 eD L jG jH Ws cnt st/\Keep (fun b=>b=br) w ((w1.setCell (vA br 0) (vS g2 n eD)).setCell (vA br 1) (.slice jG m jH)):=fun w1 aa=>by
   have b1:=bb.below aa bR;have r1:=h2.below aa
   refine⟨⟨⟨?_,?_⟩,?_,?_⟩,?_⟩
   ·have:=(b1.set 0 (vS g2 n eD)).set 1 (.slice jG m jH)
    rw[<-hn,<- hm]
    simpa using this
   ·exact xrl (xrl r1.ref.row (fun e=>by simp[Value.ownBlock]at e;exact d1 e) _) (fun e=>by simp[Value.ownBlock]at e;exact d1 e) _
   ·exact xrl (xrl r1.wrow (fun e=>d2 _ e rfl) _) (fun e=>d2 _ e rfl) _
   ·exact fun b hb=>⟨d2 b hb,(h2.ne1 b hb).2⟩
   ·exact((Keep.new (T:=fun b=>b=br) aa).setCell (p:=vA br 0) rfl _).setCell (p:=vA br 1) rfl _
  clear h h2 d1 d2 hn hm wT AY
  go_enter func120,ntmps120
  go_wp2_with fail
  refine eJ.mono ?_
  rintro e w1 ⟨rfl,aa⟩
  have EJ:Hid _:=HX w1 aa;have b1:=bb.below aa bR;have Az:=cb.below aa sJ;have c0:=Az.cell 0;have c1:=Az.cell 1;have z0:=b1.cell 0;have z1:=b1.cell 1;have f0:=b1.frozen 0;have f1:=b1.frozen 1;have l1:=b1.lt;have l2:=Az.lt;simp only[xq0,xq1,xq2]at c0 c1 z0 z1;clear HX eJ bb cb b1 Az
  go_wp2_with fail
  exact xrn (v:=.tuple #[v0_,vI 11]) (by simp[results,results120,go_sem]) rfl (.inl ⟨trivial,rfl,EJ.out.1,EJ.out.2⟩)
end Go.Proofs.YtphclnolomgjoaaGreatDoor
