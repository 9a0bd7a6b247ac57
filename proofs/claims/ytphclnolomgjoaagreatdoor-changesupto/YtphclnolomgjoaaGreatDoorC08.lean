import Derived.Test.YtphclnolomgjoaaGreatDoorC07
set_option linter.unusedVariables false
set_option linter.unusedSimpArgs false
set_option maxRecDepth 100000
set_option maxHeartbeats 4000000
namespace Go.Proofs.YtphclnolomgjoaaGreatDoor
open Tryz
open Go.RowKit
variable {W w:World}{M br cW cap i:Nat}{L:List Ent}{v1 v2 v3:Value}{a cnt d st:Int}{ao:Option Addr}{Ws:List Wk}{x:Wk}{T:Nat->Prop}
theorem qib{g:Nat}(h:qc9 w br g cap L v1 v2 v3)(E:Ents L)(aH:∀a∈L,∀b∈L,a.key=b.key->a=b)(s:ByteArray)(k:List Bs)(hk:qbn k=true)(hs:bl s=joinB k){x:Ent}(hx:qcv L k=some x):
  Cl 114 #[vP br,.string s] w fun e w'=>(∃i:Nat,e=.returned (vI i)/\L[i]?=some x)/\w'=w:=by
 refine(qst h E aH s k hk hs).mono ?_
 rintro e w' ⟨(⟨h1,_⟩|⟨i,y,h1,h2,rfl⟩),rfl⟩
 ·rw[hx]at h1;cases h1
 ·rw[hx]at h1;cases h1;exact⟨⟨i,rfl,h2⟩,rfl⟩
theorem qgx{g:Nat}(h:qc9 w br g cap L v1 v2 v3)(E:Ents L)(aH:∀a∈L,∀b∈L,a.key=b.key->a=b)(s:ByteArray)(k:List Bs)(hk:qbn k=true)(hs:bl s=joinB k)(hx:qcv L k=none):
  Cl 114 #[vP br,.string s] w fun e w'=>e=.returned (vI (-1))/\w'=w:=by
 refine(qst h E aH s k hk hs).mono ?_
 rintro e w' ⟨(⟨_,rfl⟩|⟨i,y,h1,h2,rfl⟩),rfl⟩
 ·exact⟨rfl,rfl⟩
 ·rw[hx]at h1;cases h1
theorem qwc{g:Nat}(h:qc9 w br g cap L v1 v2 v3)(E:Ents L)(aH:∀a∈L,∀b∈L,a.key=b.key->a=b)(s:ByteArray)(k:List Bs)(hk:qbn k=true)(hs:bl s=joinB k):
  Cl 114 #[vP br,.string s] w fun e w'=>(∃z:Int,e=.returned (vI z))/\w'=w:=by
 refine(qst h E aH s k hk hs).mono ?_
 rintro e w' ⟨(⟨_,rfl⟩|⟨i,y,h1,h2,rfl⟩),rfl⟩
 ·exact⟨⟨_,rfl⟩,rfl⟩
 ·exact⟨⟨_,rfl⟩,rfl⟩
theorem qga(s:ByteArray)(hs:s.size<=2000000)(hv:qar (bl s)=true)(M:Nat)(hM:(qaa (bl s)).length=M+1)(w:World):
  Cl 113 #[.string s] w fun e w'=>(∃gg cap,e=.returned (.tuple #[vS gg (M+1) cap,.bool true])/\M+1<=cap/\cap<=maxLen/\NRow w' (qaa (bl s)) (some (vA gg 0)) cap)/\Bw w w':=by
 refine(qdd s hs hv w).mono ?_
 rintro e w' ⟨⟨ao,cap,rfl,au⟩,hb⟩
 obtain⟨x,hx⟩:∃x,(qaa (bl s))[0]?=some x:=⟨_,xr1 (by omega)⟩;obtain⟨gg,rfl,_,_⟩:=au.cell 0 x hx
 have:=au.le
 exact⟨⟨gg,cap,by rw[hM],by omega,au.mx,au⟩,hb⟩
theorem qc9.ne{g:Nat}(h:qc9 W br g cap L v1 v2 v3):br≠g:=fun e=>by
 obtain⟨hl,hr⟩:=h.row
 rcases hr with ⟨hv,_⟩|⟨g',cap',aD,hv,eO,hg,_⟩
 ·cases hv
 ·injection hv with e1 _ _;injection e1 with e1;injection e1 with e1;rw[<-e1,<- e]at hg;have h9:=hg.symm.trans h.at_;injection h9 with h9;injection h9 with _ h9 _
  exact absurd h9 (by decide)
structure Late (v1 v2 v3:Value) (w:World) (br g cap:Nat) (L:List Ent) (s:ByteArray) (a b c d:Int):Prop where
 ref:qc9 w br g cap L v1 v2 v3
 ents:Ents L
 inj:∀a∈L,∀b∈L,a.key=b.key->a=b
 small:s.size<=2000000
 valid:qar (bl s)=true
 ne:bl s≠[]
 fa:qao a b=true
 fb:qao c d=true
 deep:(qaa (bl s)).length<=4
theorem Late.nz{g:Nat}{s:ByteArray}{b c:Int}(h:Late v1 v2 v3 w br g cap L s a b c d):∃M,M<=3/\(qaa (bl s)).length=M+1:=by
 have aW:qaa (bl s)≠[]:=fun e=>h.ne (by rw[<-qa6 (bl s),e];rfl)
 have hd:=h.deep
 cases hh:qaa (bl s) with
 |nil=>exact absurd hh aW
 |cons x y=>rw[hh]at hd;exact⟨y.length,by simp at hd;omega,by simp⟩
theorem Late.kok{g:Nat}{s:ByteArray}{b c:Int}(h:Late v1 v2 v3 w br g cap L s a b c d):qbn (qaa (bl s))=true:=by rw[<-qba];exact h.valid
theorem Late.kod{g:Nat}{s:ByteArray}{b c:Int}(h:Late v1 v2 v3 w br g cap L s a b c d):qbn (qaa (bl s)).dropLast=true:=by
 have:=h.kok
 simp only[qbn,List.all_eq_true]at this ⊢
 exact fun x hx=>this x (List.dropLast_subset _ hx)
theorem Late.join{g:Nat}{s:ByteArray}{b c:Int}(h:Late v1 v2 v3 w br g cap L s a b c d)(hM:(qaa (bl s)).length=M+1)(W:World)(gg cp:Nat)(hr:NRow W (qaa (bl s)) (some (vA gg 0)) cp):
  Cl 122 #[vS gg M cp] W fun e w'=>e=.returned (.string (sb (joinB (qaa (bl s)).dropLast)))/\w'=W:=by
 have hd:=h.deep
 have:=quj (some (vA gg 0)) cp (qaa (bl s)).dropLast W (by simp;omega) (fun x hx=>by have:=(qea (qbz h.kod hx)).2;omega) (by simp;omega)
  (fun j x hx=>by
   have ke:(qaa (bl s))[j]?=some x:=by
    rw[List.dropLast_eq_take,List.getElem?_take]at hx
    split at hx
    ·exact hx
    ·cases hx
   obtain⟨g',h1,_,h3⟩:=hr.cell j x ke
   exact⟨g',h1,h3⟩)
 rw[List.length_dropLast,hM]at this
 exact this
theorem qpi{g:Nat}(s:ByteArray)(leaf:Bool)(a b c d:Int)(x y:Ent)(h:Late v1 v2 v3 w br g cap L s a b c d)(hx:qcv L (qaa (bl s))=some x):
  Cl 108 #[vP br,.agg #[.string s,.bool leaf,vI a,vI b,vI c,vI d]] w (qeg v1 v2 v3 br g L y 4 w):=by
 have dt:=fun W=>qcg a b W
 have dy:=fun W=>qcg c d W
 have b0:Blk (w.alloc (.cells #[.string s,.bool leaf,vI a,vI b,vI c,vI d] 163)) w.heap.size 163 _:=Blk.new w 163 _;have hq:(s.toList.isEmpty)=false:=by rw[qaz];simpa using h.ne
 rw[h.fa]at dt;rw[h.fb]at dy;obtain⟨M,rf,hM⟩:=h.nz;have hn:=fun W=>qga s h.small h.valid M hM W
 have iM:=fun W gg cp hr=>h.join hM W gg cp hr
 have cD:=fun W (hW:Bw w W)=>qib (h.ref.below hW) h.ents h.inj s (qaa (bl s)) h.kok (qa6 (bl s)).symm hx
 have bT:=fun W (hW:Bw w W)=>qwc (h.ref.below hW) h.ents h.inj (sb (joinB (qaa (bl s)).dropLast)) (qaa (bl s)).dropLast h.kod (qbi _)
 clear hM hx h
 go_enter func108,ntmps108
 go_wp2_with (first
  |(go_at_call 113;refine(hn _).mono ?_;rintro e w1 ⟨⟨gg,cp,rfl,eP,fr,au⟩,aa⟩;have aj:Bw w w1:=qac (by(repeat (first|(with_reducible exact Below.refl _ _)|(with_reducible assumption)|((with_reducible refine Below.setCell ?_ ?_ _);rotate_left;(focus (first|omega|(simp<;>omega))))|((with_reducible refine Below.alloc ?_ ?_ _);rotate_left;(focus (first|omega|(simp<;>omega))))|(with_reducible refine Below.drew ?_)|(with_reducible refine xrm ?_ _)|(refine qac ?_ (by with_reducible assumption))))) aa;have b1:=b0.below aa (by simp);have aY:=b1.cell;have gC:=au)
  |(go_at_call 115;refine(dt _).mono ?_;clear dt;rintro e w2 ⟨rfl,af⟩;have aw:Bw w w2:=qac aj af;have b2:=b1.below af (by have:=aa.size;simp at this;omega);have fq:=b2.cell;clear aY;have lE:=gC.below af)
  |(go_at_call 115;refine(dy _).mono ?_;clear dy;rintro e w3 ⟨rfl,ax⟩;have aK:Bw w w3:=qac aw ax;have b3:=b2.below ax (by have:=aa.size;have:=af.size;simp at *;omega);have mo:=b3.cell;clear fq;have gD:=lE.below ax)
  |(go_at_call 122;refine(iM _ _ _ gD).mono ?_;rintro e w9 ⟨rfl,vG⟩;subst vG)
  |(go_at_call 114;refine(cD _ aK).mono ?_;clear cD;rintro e w4 ⟨⟨i,rfl,hi⟩,fQ⟩;subst fQ)
  |(go_at_call 114;refine(bT _ aK).mono ?_;rintro e w5 ⟨⟨z,rfl⟩,lJ⟩;subst lJ))
 all_goals go_ret
 all_goals exact⟨rfl,.inl ⟨by decide,aK⟩⟩
theorem qsd{g:Nat}(s:ByteArray)(leaf:Bool)(a b c d:Int)(y:Ent)(h:Late v1 v2 v3 w br g cap L s a b c d)(hx:qcv L (qaa (bl s))=none)(hu:qcv L (qaa (bl s)).dropLast=none):
  Cl 108 #[vP br,.agg #[.string s,.bool leaf,vI a,vI b,vI c,vI d]] w (qeg v1 v2 v3 br g L y 3 w):=by
 have dt:=fun W=>qcg a b W
 have dy:=fun W=>qcg c d W
 have b0:Blk (w.alloc (.cells #[.string s,.bool leaf,vI a,vI b,vI c,vI d] 163)) w.heap.size 163 _:=Blk.new w 163 _;have hq:(s.toList.isEmpty)=false:=by rw[qaz];simpa using h.ne
 rw[h.fa]at dt;rw[h.fb]at dy;obtain⟨M,rf,hM⟩:=h.nz;have hn:=fun W=>qga s h.small h.valid M hM W
 have iM:=fun W gg cp hr=>h.join hM W gg cp hr
 have cD:=fun W (hW:Bw w W)=>qgx (h.ref.below hW) h.ents h.inj s (qaa (bl s)) h.kok (qa6 (bl s)).symm hx
 have bT:=fun W (hW:Bw w W)=>qgx (h.ref.below hW) h.ents h.inj (sb (joinB (qaa (bl s)).dropLast)) (qaa (bl s)).dropLast h.kod (qbi _) hu
 clear hM hx hu h
 go_enter func108,ntmps108
 go_wp2_with (first
  |(go_at_call 113;refine(hn _).mono ?_;rintro e w1 ⟨⟨gg,cp,rfl,eP,fr,au⟩,aa⟩;have aj:Bw w w1:=qac (by exact bel2) aa;have b1:=b0.below aa (by simp);have aY:=b1.cell;have gC:=au)
  |(go_at_call 115;refine(dt _).mono ?_;clear dt;rintro e w2 ⟨rfl,af⟩;have aw:Bw w w2:=qac aj af;have b2:=b1.below af (by have:=aa.size;simp at this;omega);have fq:=b2.cell;clear aY;have lE:=gC.below af)
  |(go_at_call 115;refine(dy _).mono ?_;clear dy;rintro e w3 ⟨rfl,ax⟩;have aK:Bw w w3:=qac aw ax;have b3:=b2.below ax (by have:=aa.size;have:=af.size;simp at *;omega);have mo:=b3.cell;clear fq;have gD:=lE.below ax)
  |(go_at_call 122;refine(iM _ _ _ gD).mono ?_;rintro e w9 ⟨rfl,vG⟩;subst vG)
  |(go_at_call 114;refine(cD _ aK).mono ?_;clear cD;rintro e w4 ⟨rfl,fQ⟩;subst fQ)
  |(go_at_call 114;refine(bT _ aK).mono ?_;rintro e w5 ⟨rfl,lJ⟩;subst lJ))
 all_goals go_ret
 all_goals exact⟨rfl,.inl ⟨by decide,aK⟩⟩
theorem qk8{g:Nat}(s:ByteArray)(leaf:Bool)(a b c d:Int)(y u:Ent)(h:Late v1 v2 v3 w br g cap L s a b c d)(hx:qcv L (qaa (bl s))=none)(hu:qcv L (qaa (bl s)).dropLast=some u)
  (err:Int) (hl:(u.leaf=true/\err=5)\/(u.leaf=false/\20<=L.length/\err=7)) :
  Cl 108 #[vP br,.agg #[.string s,.bool leaf,vI a,vI b,vI c,vI d]] w (qeg v1 v2 v3 br g L y err w):=by
 have dt:=fun W=>qcg a b W
 have dy:=fun W=>qcg c d W
 have b0:Blk (w.alloc (.cells #[.string s,.bool leaf,vI a,vI b,vI c,vI d] 163)) w.heap.size 163 _:=Blk.new w 163 _;have hq:(s.toList.isEmpty)=false:=by rw[qaz];simpa using h.ne
 rw[h.fa]at dt;rw[h.fb]at dy;obtain⟨M,rf,hM⟩:=h.nz;have hn:=fun W=>qga s h.small h.valid M hM W
 have iM:=fun W gg cp hr=>h.join hM W gg cp hr
 have cD:=fun W (hW:Bw w W)=>qgx (h.ref.below hW) h.ents h.inj s (qaa (bl s)) h.kok (qa6 (bl s)).symm hx
 have bT:∀W,Bw w W->Cl 114 #[vP br,.string (sb (joinB (qaa (bl s)).dropLast))] W fun e w'=>(∃i:Nat,i<L.length/\e=.returned (vI i)/\W.cell? (vA g (i*6+1))=some (.bool u.leaf)/\W.cell? (vA br 0)=some (vS g L.length cap))/\w'=W:=fun W hW=>by
  refine(qib (h.ref.below hW) h.ents h.inj (sb (joinB (qaa (bl s)).dropLast)) (qaa (bl s)).dropLast h.kod (qbi _) hu).mono ?_
  rintro e w' ⟨⟨i,rfl,hi⟩,rfl⟩
  exact⟨⟨i,(xr0.1 hi).1,rfl,(h.ref.below hW).ent hi rfl,(h.ref.below hW).at_.cell 0⟩,rfl⟩
 have kV:=h.ref.qjv;have an:=h.ents.len;clear hM hx hu h;obtain⟨n,mJ⟩:∃n,n=L.length:=⟨_,rfl⟩;rw[<-mJ]at bT hl kV an;clear mJ;obtain⟨yn,sM⟩:=kV
 rcases hl with ⟨hl,rfl⟩|⟨hl,lP,rfl⟩
 all_goals rw[hl]at bT
 all_goals go_enter func108,ntmps108
 all_goals go_wp2_with (first
  |(go_at_call 113;refine(hn _).mono ?_;rintro e w1 ⟨⟨gg,cp,rfl,eP,fr,au⟩,aa⟩;have aj:Bw w w1:=qac (by exact bel2) aa;have b1:=b0.below aa (by simp);have aY:=b1.cell;have gC:=au)
  |(go_at_call 115;refine(dt _).mono ?_;clear dt;rintro e w2 ⟨rfl,af⟩;have aw:Bw w w2:=qac aj af;have b2:=b1.below af (by have:=aa.size;simp at this;omega);have fq:=b2.cell;clear aY;have lE:=gC.below af)
  |(go_at_call 115;refine(dy _).mono ?_;clear dy;rintro e w3 ⟨rfl,ax⟩;have aK:Bw w w3:=qac aw ax;have b3:=b2.below ax (by have:=aa.size;have:=af.size;simp at *;omega);have mo:=b3.cell;clear fq;have gD:=lE.below ax)
  |(go_at_call 122;refine(iM _ _ _ gD).mono ?_;rintro e w9 ⟨rfl,vG⟩;subst vG)
  |(go_at_call 114;refine(cD _ aK).mono ?_;clear cD;rintro e w4 ⟨rfl,fQ⟩;subst fQ)
  |(go_at_call 114;refine(bT _ aK).mono ?_;rintro e w5 ⟨⟨i,hi,rfl,Jb,FP⟩,lJ⟩;subst lJ))
 all_goals go_ret
 all_goals exact⟨rfl,.inl ⟨by decide,aK⟩⟩
theorem qvq:(prog.info? 163).bind (fun i=>i.zero)=some (.agg #[.string ⟨#[]⟩,.bool false,vI 0,vI 0,vI 0,vI 0]):=by kernel_rfl
theorem qvo:prog.underlying 164=some (.slice 163):=by kernel_rfl
theorem qvw:∃i0 z,prog.info? 163=some i0/\i0.zero=some z/\i0.size=6/\i0.bytes=56/\z.cells.size=6:=by
 have h1:=qwl;have h2:=qvq
 cases h:prog.info? 163 with
 |none=>rw[h]at h1;cases h1
 |some i0 =>
  rw[h]at h1 h2;simp only[Option.map_some,Option.some.injEq,Prod.mk.injEq,Option.bind_some]at h1 h2
  exact⟨i0,_,rfl,h2,h1.1,h1.2,by rfl⟩
theorem qo3{g:Nat}(h:qc9 W br g cap L v1 v2 v3)(hL:L.length<=20)(x:Ent)(nb:Nat)(cU:Blk W nb 163 (qbs x).toArray):
  ∃v' w',(∀ty,(Builtin.append_ #[164,164] ty #[vS g L.length cap,vS nb 1 1]).run prog W=.ok v' w') /\
   ∃g' cap',v'=vS g' (L.length+1) cap'/\w'.ownsRow 0 163 6 v' (L.length+1) (qdi (L++[x]))/\Keep (fun b=>b=g) W w'/\(g'=g\/W.heap.size<=g'):=by
 obtain⟨i0,z,hi,hz,h6,wi,hc⟩:=qvw;obtain⟨v',w',hr,av,dj,dH⟩:=qgu (P:=prog) W 164 163 i0 z 6 56 qvo hi hz h6 wi hc (by omega) _ L.length (qdi L) h.row (vA nb 0) 1 1 (by omega) (qbs x) (by simp[qbs])
  (fun j u hu=>by rw[Addr.add_lit,Nat.zero_add,cU.cell];simpa using hu) (by intro u hu;simp[qbs]at hu;rcases hu with rfl|rfl|rfl|rfl|rfl|rfl<;>rfl) (by unfold maxLen;omega) (by omega)
 obtain⟨g',cap',rfl,_,_⟩:=qat av (by omega)
 refine⟨_,w',hr,g',cap',rfl,by simpa [qdi] using av,(Keep.refl _ _).grown dj (fun k hk=>by simp[Value.ownBlock]at hk;exact hk.symm),?_⟩
 rcases dH with e|⟨g2,e,h2⟩
 ·simp[Value.ownBlock]at e;exact .inl e
 ·simp[Value.ownBlock]at e;subst e;exact .inr h2
theorem qs2{g:Nat}(s:ByteArray)(leaf:Bool)(a b c d:Int)(u:Ent)(h:Late v1 v2 v3 w br g cap L s a b c d)(hx:qcv L (qaa (bl s))=none)(hu:qcv L (qaa (bl s)).dropLast=some u)
  (hl:u.leaf=false) (lP:L.length<20) :
  Cl 108 #[vP br,.agg #[.string s,.bool leaf,vI a,vI b,vI c,vI d]] w (qeg v1 v2 v3 br g L ⟨qaa (bl s),leaf,a,b,c,d⟩ 0 w):=by
 have dt:=fun W=>qcg a b W
 have dy:=fun W=>qcg c d W
 have b0:Blk (w.alloc (.cells #[.string s,.bool leaf,vI a,vI b,vI c,vI d] 163)) w.heap.size 163 _:=Blk.new w 163 _;have hq:(s.toList.isEmpty)=false:=by rw[qaz];simpa using h.ne
 rw[h.fa]at dt;rw[h.fb]at dy;obtain⟨M,rf,hM⟩:=h.nz;have hn:=fun W=>qga s h.small h.valid M hM W
 have iM:=fun W gg cp hr=>h.join hM W gg cp hr
 have cD:=fun W (hW:Bw w W)=>qgx (h.ref.below hW) h.ents h.inj s (qaa (bl s)) h.kok (qa6 (bl s)).symm hx
 have bT:∀W,Bw w W->Cl 114 #[vP br,.string (sb (joinB (qaa (bl s)).dropLast))] W fun e w'=>(∃i:Nat,i<L.length/\e=.returned (vI i)/\W.cell? (vA g (i*6+1))=some (.bool u.leaf)/\Blk W br 167 #[vS g L.length cap,v1,v2,v3])/\w'=W:=fun W hW=>by
  refine(qib (h.ref.below hW) h.ents h.inj (sb (joinB (qaa (bl s)).dropLast)) (qaa (bl s)).dropLast h.kod (qbi _) hu).mono ?_
  rintro e w' ⟨⟨i,rfl,hi⟩,rfl⟩
  exact⟨⟨i,(xr0.1 hi).1,rfl,(h.ref.below hW).ent hi rfl,(h.ref.below hW).at_⟩,rfl⟩
 have cu:∀W,Bw w W->∀nb,Blk W nb 163 #[.string s,.bool leaf,vI a,vI b,vI c,vI d] ->
  ∃v' w',(∀ty,(Builtin.append_ #[164,164] ty #[vS g L.length cap,vS nb 1 1]).run prog W=.ok v' w') /\
   (∃g' cap',v'=vS g' (L.length+1) cap'/\Blk w' br 167 #[vS g L.length cap,v1,v2,v3] /\
    Hid (∀ko,ko=w'.setCell (vA br 0) (vS g' (L.length+1) cap')->qeg v1 v2 v3 br g L ⟨qaa (bl s),leaf,a,b,c,d⟩ 0 w (.returned (vI 0)) ko)):=fun W hW nb cU=>by
  have hk:(qbs ⟨qaa (bl s),leaf,a,b,c,d⟩).toArray=#[.string s,.bool leaf,vI a,vI b,vI c,vI d]:=by
   simp only[qbs,qa6,qp4]
  obtain⟨v',w',hr,g',cap',rfl,av,fT,dH⟩:=qo3 (h.ref.below hW) (by omega) ⟨qaa (bl s),leaf,a,b,c,d⟩ nb (by rw[hk];exact cU);have bR:=(h.ref.below hW).at_.keep fT h.ref.ne
  refine⟨_,w',hr,g',cap',rfl,bR,?_⟩
  suffices hh:(∀ko,ko=w'.setCell (vA br 0) (vS g' (L.length+1) cap')->qeg v1 v2 v3 br g L ⟨qaa (bl s),leaf,a,b,c,d⟩ 0 w (.returned (vI 0)) ko) from hh
  refine fun ko vE=>⟨rfl,.inr ⟨rfl,g',cap',⟨?_,?_⟩,?_,?_⟩⟩
  ·subst vE
   have:=bR.set 0 (vS g' (L.length+1) cap')
   rw[show(L++[(⟨qaa (bl s),leaf,a,b,c,d⟩:Ent)]).length=L.length+1 by simp]
   exact this
  ·subst vE;rw[show(L++[(⟨qaa (bl s),leaf,a,b,c,d⟩:Ent)]).length=L.length+1 by simp];obtain⟨h1,h2⟩:=av
   refine⟨h1,?_⟩
   rcases h2 with ⟨h2,_⟩|⟨g2,eD,aD,h2,h3,h4,h5⟩
   ·cases h2
   ·have e1:g'=g2:=by injection h2 with e _ _;injection e with e;injection e with e
    subst e1;have aW:g'≠br:=by
     rcases dH with rfl|kF
     ·exact h.ref.ne.symm
     ·have:=(h.ref.below hW).at_.lt;omega
    exact .inr ⟨g',eD,aD,h2,h3,(Below.heap_setCell w' _ _ g' aW).trans h4,h5⟩
  ·subst vE
   exact((Keep.trans (T:=fun b=>b=br\/b=g) (Keep.new hW) (fT.mono (fun b hb=>Or.inr hb))).setCell (p:=vA br 0) (Or.inl rfl) _)
  ·rcases dH with rfl|kF
   ·exact .inl rfl
   ·exact .inr (Nat.le_trans hW.size kF)
 have kV:=h.ref.qjv;have an:=h.ents.len;clear hM hx hu h;obtain⟨X,hX⟩:∃X,X=qeg v1 v2 v3 br g L ⟨qaa (bl s),leaf,a,b,c,d⟩ 0 w:=⟨_,rfl⟩;rw[<-hX]at cu ⊢;clear hX;obtain⟨n,mJ⟩:∃n,n=L.length:=⟨_,rfl⟩;rw[<-mJ]at bT kV an lP cu;clear mJ;obtain⟨yn,sM⟩:=kV;rw[hl]at bT
 go_enter func108,ntmps108
 go_wp2_with (first
  |(go_at_call 113;refine(hn _).mono ?_;rintro e w1 ⟨⟨gg,cp,rfl,eP,fr,au⟩,aa⟩;have aj:Bw w w1:=qac (by exact bel2) aa;have b1:=b0.below aa (by simp);have aY:=b1.cell;have gC:=au)
  |(go_at_call 115;refine(dt _).mono ?_;clear dt;rintro e w2 ⟨rfl,af⟩;have aw:Bw w w2:=qac aj af;have b2:=b1.below af (by have:=aa.size;simp at this;omega);have fq:=b2.cell;clear aY;have lE:=gC.below af)
  |(go_at_call 115;refine(dy _).mono ?_;clear dy;rintro e w3 ⟨rfl,ax⟩;have aK:Bw w w3:=qac aw ax;have b3:=b2.below ax (by have:=aa.size;have:=af.size;simp at *;omega);have mo:=b3.cell;clear fq;have gD:=lE.below ax)
  |(go_at_call 122;refine(iM _ _ _ gD).mono ?_;rintro e w9 ⟨rfl,vG⟩;subst vG)
  |(go_at_call 114;refine(cD _ aK).mono ?_;clear cD;rintro e w4 ⟨rfl,fQ⟩;subst fQ)
  |(go_at_call 114;refine(bT _ aK).mono ?_;rintro e w5 ⟨⟨i,hi,rfl,Jb,bR⟩,lJ⟩;subst lJ;have dk:=aK.size;have J5:=bR.lt;have FP:=bR.cell 0;simp only[List.getElem?_toArray,List.getElem?_cons_zero]at FP))
 go_region_law (refine qau rfl (.tmp 79) (.tmp 81) 164 164 rfl _ _ ?_ ?_ (cu _ ?_ ?_ ?_) ?_;(focus (simp[Act.eval,Act.put]));(focus ((try simp[Act.eval,Act.put]);(try rfl)));(focus exact bel2);(focus exact blk2);rintro v' wA ⟨g',cap',rfl,fh,aM⟩;have CM:=fh.cell 0;have Ji:=fh.frozen 0;simp only[List.getElem?_toArray,List.getElem?_cons_zero]at CM)
 all_goals go_wp2
 all_goals exact aM.out _ rfl
theorem qud(s:Bs):(qaa s).length<=s.length+1:=by
 by_cases h:s=[]
 ·subst h;simp[qaa]
 ·have:=ql7 s h
  unfold qdm at this;have h2:qkd s<=s.length:=by unfold qkd;exact List.countP_le_length
  omega
theorem qj2{g:Nat}(h:qc9 w br g cap L v1 v2 v3)(E:Ents L)(aH:∀a∈L,∀b∈L,a.key=b.key->a=b)(s:ByteArray)(hs:s.size<=2000000)(leaf:Bool)(a b c d:Int):
  Cl 108 #[vP br,.agg #[.string s,.bool leaf,vI a,vI b,vI c,vI d]] w (qeg v1 v2 v3 br g L ⟨qaa (bl s),leaf,a,b,c,d⟩ (errE L (bl s) (qao a b&&qao c d)) w):=by
 unfold errE
 by_cases hv:qar (bl s)=false
 ·rw[if_pos hv];exact qdt (cap:=cap) s hs leaf a b c d _ 1 (.inl ⟨hv,rfl⟩)
 rw[if_neg hv];have dW:qar (bl s)=true:=by cases hh:qar (bl s);exact absurd hh hv;rfl
 by_cases h0:bl s=[]
 ·rw[if_pos h0];exact qdt (cap:=cap) s hs leaf a b c d _ 2 (.inr (.inl ⟨dW,h0,rfl⟩))
 rw[if_neg h0]
 by_cases hf:(qao a b&&qao c d)=false
 ·rw[if_pos hf];exact qdt (cap:=cap) s hs leaf a b c d _ 6 (.inr (.inr (.inl ⟨dW,h0,(by cases h1:qao a b;exact .inl rfl;rw[h1]at hf;exact .inr (by simpa using hf)),rfl⟩)))
 rw[if_neg hf];obtain⟨AJ,jU⟩:qao a b=true/\qao c d=true:=by simpa using hf
 by_cases hd:4<qdm (bl s)
 ·rw[if_pos hd]
  refine qdt (cap:=cap) s hs leaf a b c d _ 8 (.inr (.inr (.inr ⟨dW,h0,AJ,jU,hd,?_,rfl⟩)))
  have:=qud (bl s);have:=qb4 s;omega
 rw[if_neg hd];have hl:Late v1 v2 v3 w br g cap L s a b c d:=⟨h,E,aH,hs,dW,h0,AJ,jU,by unfold qdm at hd;omega⟩
 cases hF:qcv L (qaa (bl s)) with
 |some x=>simp only[Option.isSome_some,if_true];exact qpi s leaf a b c d x _ hl hF
 |none =>
  simp only[Option.isSome_none,Bool.false_eq_true,if_false];unfold errInE
  cases hU:qcv L (qaa (bl s)).dropLast with
  |none=>exact qsd s leaf a b c d _ hl hF hU
  |some u =>
   dsimp only
   cases hul:u.leaf
   ·simp only[Bool.false_eq_true,if_false]
    by_cases lP:20<=L.length
    ·rw[if_pos lP];exact qk8 s leaf a b c d _ u hl hF hU 7 (.inr ⟨hul,lP,rfl⟩)
    ·rw[if_neg lP];exact qs2 s leaf a b c d u hl hF hU hul (by omega)
   ·simp only[if_true];exact qk8 s leaf a b c d _ u hl hF hU 5 (.inl ⟨hul,rfl⟩)
def Wk.adm(x:Wk)(st:Int):Wk:={x with st:=st}
theorem qg4:∀(Ws:List Wk) (i:Nat) (x y:Wk),Ws[i]?=some x->(qbf y).take 4=(qbf x).take 4->qad (Ws.set i y)=(qad Ws).set (i*5+4) (vI y.st)
 | [],i,x,y,h,_=>by simp at h
 |a::l,0,x,y,h,he=>by
  simp at h;subst h
  simp only[xr8,qad,List.flatMap_cons]
  simp[qbf]at he ⊢
  simp[he]
 |a::l,i+1,x,y,h,he=>by
  have ih:=qg4 l i x y (by simpa using h) he;simp only[xr7,qad,List.flatMap_cons]at ih ⊢;rw[ih,List.set_append_right _ _ (by simp[qbf];omega)];rw[show(i+1)*5+4-(qbf a).length=i*5+4 by simp[qbf];omega]
structure AdmR (w:World) (br g cap:Nat) (L:List Ent) (ao:Option Addr) (cW:Nat) (Ws:List Wk) (cnt st:Int) (w':World):Prop where
 ref:GRef w' br g cap L ao cW Ws cnt st
 keep:Keep (fun b=>b=br\/(Value.slice ao Ws.length cW).ownBlock=some b) w w'
theorem qld{g:Nat}(h:GRef w br g cap L ao cW Ws cnt st)(EW:Wks Ws)(hi:Ws[i]?=some x)(bW:0<=st/\st<=1000000000):
  Cl 162 #[vP br,vI i] w fun e w'=>e=.returned (.agg #[vI 1,vI x.num])/\AdmR w br g cap L ao cW (Ws.set i (x.adm (st+1))) cnt (st+1) w':=by
 obtain⟨b,eT,dw,eQ,jq,p0,p1,p2,p3,p4⟩:=h.wk hi;have ey:=(xr0.1 hi).1;have aW:=h.ne1 b (by rw[eT];rfl);have bh:=h.ref.at_;have ak:=bh.lt;have tR:=EW.len;have c1:=bh.cell 1;have c3:=bh.cell 3;have f3:=bh.frozen 3;simp only[xq0,xq1,xq2]at c1 c3;obtain⟨n,hn⟩:∃n,n=Ws.length:=⟨_,rfl⟩;rw[<-hn]at c1 ey eQ tR;have mB:(i:Int)<n:=by omega
 have p8:(0:Int)<=i:=by omega
 have e1:¬(b=br):=aW.1;have e2:¬(br=b):=fun e=>aW.1 e.symm
 have au:=h.wrow;subst eT;have fb:w.frozen? (vA b (i*5+4))=false:=au.frozenAt _;have e3:¬(br=w.heap.size):=by omega
 have e4:¬(b=w.heap.size):=by omega
 have HI:Hid (Ws[i]?=some x):=hi;have HN:Hid (n=Ws.length):=hn;clear hn hi
 go_enter func162,ntmps162
 go_wp2_with fail
 go_region
 go_wp2_with fail
 have a_:Blk ((((w.setCell (vA br 3) (vI (st+1))).setCell (vA b (i*5+4)) (vI (st+1))).alloc (.cells #[vI 1,vI x.num] 60)).drew) w.heap.size 60 #[vI 1,vI x.num]:=(Blk.new' (by simp)).drew;have fR:=a_.cell
 refine xrn (v:=.agg #[vI 1,vI x.num]) ?_ rfl ⟨rfl,?_⟩
 ·simp[results,results162,go_sem,fR]
 ·have hk:Keep (fun y=>y=br\/y=b) w ((((w.setCell (vA br 3) (vI (st+1))).setCell (vA b (i*5+4)) (vI (st+1))).alloc (.cells #[vI 1,vI x.num] 60)).drew) :=
   ((((Keep.refl _ _).setCell (p:=vA br 3) (.inl rfl) _).setCell (p:=vA b (i*5+4)) (.inr rfl) _).alloc _).drew
  have hg:¬(g=br\/g=b):=by
   rintro(e|e)
   ·exact h.ref.ne e.symm
   ·exact aW.2 e.symm
  refine⟨⟨⟨?_,?_⟩,?_,?_⟩,?_⟩
  ·have h1:=(((bh.set 3 (vI (st+1))).other (vA b (i*5+4)) (vI (st+1)) e2).alloc (.cells #[vI 1,vI x.num] 60)).drew
   simpa using h1
  ·exact qab h.ref.row hk (fun y hy=>by simp[Value.ownBlock]at hy;subst hy;exact hg)
  ·have h1:(w.setCell (vA br 3) (vI (st+1))).ownsRow 0 178 5 (vS b Ws.length cW) Ws.length (qad Ws):=xrl au (by simp[Value.ownBlock];exact e1) _;have h2:=((h1.stored (i*5+4) (vI (st+1))).1.alloc (.cells #[vI 1,vI x.num] 60)).drew;rw[List.length_set,qg4 Ws i x (x.adm (st+1)) HI.out rfl]
   exact h2
  ·intro y hy;rw[List.length_set]at hy
   exact h.ne1 y hy
  ·rw[List.length_set]
   exact hk.mono (fun y hy=>by
    rcases hy with rfl|rfl
    ·exact .inl rfl
    ·exact .inr rfl)
theorem i89a:(prog.info? 178).map (fun i=>(i.size,i.bytes))=some (5,48):=by kernel_rfl
theorem i89b:(prog.info? 178).bind (fun i=>i.zero)=some (.agg #[vI 0,.string ⟨#[]⟩,vI 0,vI 0,vI 0]):=by kernel_rfl
theorem qr3:qdf 178 5 48:=qep i89a i89b rfl
theorem un70:prog.underlying 165=some (.slice 178):=by kernel_rfl
theorem Keep.quz{a:World}(h:Keep T a w){p:Addr}(hp:a.heap.size<=p.block)(u:Value):Keep T a (w.setCell p u) :=
 ⟨h.os,h.tape,h.output,by simpa using h.size,fun k hk ht=>(Below.heap_setCell w p u k (by omega)).trans (h.block k hk ht)⟩
theorem qhz(a b:List Wk):qad (a++b)=qad a++qad b:=by simp[qad]
theorem qio(l:List Wk):∀u∈qad l,u.oneCell'=true:=by
 intro u hu;simp only[qad,List.mem_flatMap]at hu;obtain⟨x,_,hx⟩:=hu
 simp[qbf]at hx
 rcases hx with rfl|rfl|rfl|rfl|rfl<;>rfl
theorem qod(Ws:List Wk)(i:Nat):qad (Ws.take i)=(qad Ws).take (i*5):=by
 induction Ws generalizing i with
 |nil=>simp[qad]
 |cons a l ih =>
  cases i with
  |zero=>simp[qad]
  |succ i =>
   have:=ih i
   simp only[List.take_succ_cons,qad,List.flatMap_cons]at this ⊢;rw[this,show(i+1)*5=(qbf a).length+i*5 by simp[qbf];omega,List.take_length_add_append]
theorem qnv(Ws:List Wk)(i:Nat):qad (Ws.drop i)=(qad Ws).drop (i*5):=by
 induction Ws generalizing i with
 |nil=>simp[qad]
 |cons a l ih =>
  cases i with
  |zero=>simp[qad]
  |succ i =>
   have:=ih i
   simp only[List.drop_succ_cons,qad,List.flatMap_cons]at this ⊢;rw[this,show(i+1)*5=(qbf a).length+i*5 by simp[qbf];omega,List.drop_length_add_append]
theorem qsc{g:Nat}(h:GRef w br g cap L ao cW Ws cnt st)(EW:Wks Ws)(hi:Ws[i]?=some x):
  Cl 201 #[vP br,vI i] w fun e w'=>e=.returned (.agg #[vI 2,vI x.num])/\∃b' c',w.heap.size<=b'/\GRef w' br g cap L (some (vA b' 0)) c' (x.adm 0::(Ws.take i++Ws.drop (i+1))) cnt st/\Keep (fun b=>b=br) w w':=by
 obtain⟨b,eT,dw,eQ,jq,p0,p1,p2,p3,p4⟩:=h.wk hi;have ey:=(xr0.1 hi).1;have aW:=h.ne1 b (by rw[eT];rfl);have bh:=h.ref.at_;have ak:=bh.lt;have tR:=EW.len;have c1:=bh.cell 1;have f1:=bh.frozen 1;simp only[xq0,xq1,xq2]at c1;obtain⟨n,hn⟩:∃n,n=Ws.length:=⟨_,rfl⟩;rw[<-hn]at c1 ey eQ tR;have mB:(i:Int)<n:=by omega
 have p8:(0:Int)<=i:=by omega
 subst eT;have e3:¬(br=w.heap.size):=by omega
 have e4:¬(b=w.heap.size):=by omega
 have HI:Hid (Ws[i]?=some x):=hi;have HN:Hid (n=Ws.length):=hn;clear hn hi;have bG:=h.wrow;rw[<-HN.out]at bG;have b4:Blk (((w.alloc (.cells #[vI 0,vI 0] 60)).alloc (.cells #[vI x.num,.string (sb (joinB x.key)),vI x.d0,vI x.d1,vI 0] 178)).alloc (.cells #[vI x.num,.string (sb (joinB x.key)),vI x.d0,vI x.d1,vI 0] 178)) w.heap.size 60 #[vI 0,vI 0]:=by exact blk2
 have b5:Blk (((w.alloc (.cells #[vI 0,vI 0] 60)).alloc (.cells #[vI x.num,.string (sb (joinB x.key)),vI x.d0,vI x.d1,vI 0] 178)).alloc (.cells #[vI x.num,.string (sb (joinB x.key)),vI x.d0,vI x.d1,vI 0] 178)) (w.heap.size+1) 178 #[vI x.num,.string (sb (joinB x.key)),vI x.d0,vI x.d1,vI 0]:=Blk.alloc (Blk.new' (by simp)) _;have b6:Blk (((w.alloc (.cells #[vI 0,vI 0] 60)).alloc (.cells #[vI x.num,.string (sb (joinB x.key)),vI x.d0,vI x.d1,vI 0] 178)).alloc (.cells #[vI x.num,.string (sb (joinB x.key)),vI x.d0,vI x.d1,vI 0] 178)) (w.heap.size+1+1) 178 #[vI x.num,.string (sb (joinB x.key)),vI x.d0,vI x.d1,vI 0]:=Blk.new' (by simp);have aO:Bw w (((w.alloc (.cells #[vI 0,vI 0] 60)).alloc (.cells #[vI x.num,.string (sb (joinB x.key)),vI x.d0,vI x.d1,vI 0] 178)).alloc (.cells #[vI x.num,.string (sb (joinB x.key)),vI x.d0,vI x.d1,vI 0] 178)):=by exact bel2
 go_enter func201,ntmps201
 go_upto_region 4 with fail
 generalize (((w.alloc (.cells #[vI 0,vI 0] 60)).alloc (.cells #[vI x.num,.string (sb (joinB x.key)),vI x.d0,vI x.d1,vI 0] 178)).alloc (.cells #[vI x.num,.string (sb (joinB x.key)),vI x.d0,vI x.d1,vI 0] 178))=W3 at b4 b5 b6 aO ⊢;have gD:=qab (T:=fun _=>False) bG (Keep.new aO) (fun _ _ h=>h);have k1:=(aO.cell (p:=vA br 1) ak).trans c1;have Aa:W3.ownsRow 0 178 5 (vS (w.heap.size+1+1) 1 1) 1 (qad [x.adm 0]):=⟨by simp[qad,qbf],.inr ⟨w.heap.size+1+1,1,_,rfl,Nat.zero_le _,b6,Nat.le_refl _,by unfold maxLen;omega,by simp,by simp[qad,qbf,Wk.adm]⟩⟩;have aY:∀j u,(qad Ws)[j]?=some u->W3.cell? (vA b j)=some u:=fun j u hu=>by
  have:=gD.cells (g:=b) rfl j u hu
  rwa[Addr.add_lit,Nat.zero_add]at this
 have oF:=qnf un70 qr3 (by omega) W3 _ 1 _ Aa (vA b 0) i cW (by omega) (qad (Ws.take i)) (by rw[qdo,List.length_take];have:=HN.out;rw[Nat.min_eq_left (by omega)])
  (fun j u hu=>by
   rw[Addr.add_lit,Nat.zero_add]
   refine aY j u ?_
   rw[qod]at hu;have aV:=(xr0.1 hu).1;rw[List.getElem?_take]at hu
   split at hu
   ·exact hu
   ·cases hu) (qio _) (by unfold maxLen;omega) (by omega)
 have l4:=b4.lt;have l5:=b5.lt;have l6:=b6.lt;have fE:=aO.size;have bM:∀w1,Keep (fun y=>(vS (w.heap.size+1+1) 1 1).ownBlock=some y) W3 w1->w1.cell? (vA br 1)=some (vS b n cW)/\Blk w1 w.heap.size 60 #[vI 0,vI 0]/\Blk w1 (w.heap.size+1) 178 #[vI x.num,.string (sb (joinB x.key)),vI x.d0,vI x.d1,vI 0]/\w1.ownsRow 0 178 5 (vS b n cW) n (qad Ws)/\W3.heap.size<=w1.heap.size:=fun w1 hK=>by
  have key:∀y,y<w.heap.size+1+1->¬((vS (w.heap.size+1+1) 1 1).ownBlock=some y):=fun y hy e=>by simp[Value.ownBlock]at e;omega
  exact⟨(hK.cell (p:=vA br 1) (by show br<_;omega) (key br (by omega))).trans k1,b4.keep hK (key _ (by omega)),b5.keep hK (key _ (by omega)),qab gD hK (fun y hy=>by simp[Value.ownBlock]at hy;subst hy;exact key b (by omega)),hK.size⟩
 have sj:∀w1 g1 q1,AppR W3 (vS (w.heap.size+1+1) 1 1).ownBlock 178 5 (1+i) (qad [x.adm 0]++qad (Ws.take i)) g1 q1 w1->∀(ad:Addr) (c2:Nat),(∀j u,(qad (Ws.drop (i+1)))[j]?=some u->w1.cell? (ad.add j)=some u) ->
   ∃v' w',(∀ty,(Builtin.append_ #[165,165] ty #[vS g1 (1+i) q1,.slice (some ad) (n-(i+1)) c2]).run prog w1=.ok v' w')/\∃g cap,v'=vS g (1+i+(n-(i+1))) cap/\AppR w1 (some g1) 178 5 (1+i+(n-(i+1))) (qad [x.adm 0]++qad (Ws.take i)++qad (Ws.drop (i+1))) g cap w' :=
  fun w1 g1 q1 R1 ad c2 ud=>qnf un70 qr3 (by omega) w1 _ (1+i) _ R1.own ad (n-(i+1)) c2 (by omega) (qad (Ws.drop (i+1))) (by rw[qdo,List.length_drop,<- HN.out]) ud (qio _) (by unfold maxLen;omega) (by omega)
 have zt:∀w1:World,w1.ownsRow 0 178 5 (vS b n cW) n (qad Ws)->∀j u,(qad (Ws.drop (i+1)))[j]?=some u->w1.cell? (((vA b ((i+1)*5)):Addr).add j)=some u:=fun w1 hr j u hu=>by
  rw[qnv,List.getElem?_drop]at hu
  have:=hr.cells (g:=b) rfl _ u hu
  rw[Addr.add_lit,Nat.zero_add]at this;rw[Addr.add_lit];exact this
 have cG:∀w1 g1 q1 w2 g2 q2,AppR W3 (vS (w.heap.size+1+1) 1 1).ownBlock 178 5 (1+i) (qad [x.adm 0]++qad (Ws.take i)) g1 q1 w1->AppR w1 (some g1) 178 5 (1+i+(n-(i+1))) (qad [x.adm 0]++qad (Ws.take i)++qad (Ws.drop (i+1))) g2 q2 w2 ->
   Below (w.heap.size+1+1) W3 w2/\w.heap.size+1+1<=g2:=fun w1 g1 q1 w2 g2 q2 R1 R2=>by
  have h1:w.heap.size+1+1<=g1:=by
   rcases R1.new with e|e
   ·simp[Value.ownBlock]at e;omega
   ·omega
  have z1:=R1.keep.size;have z2:=R2.keep.size
  refine⟨⟨R2.keep.os.trans R1.keep.os,R2.keep.tape.trans R1.keep.tape,R2.keep.output.trans R1.keep.output,by omega,fun k hk=>(R2.keep.block k (by omega) (fun e=>by simp at e;omega)).trans (R1.keep.block k (by omega) (fun e=>by simp[Value.ownBlock]at e;omega))⟩,?_⟩
  rcases R2.new with e|e
  ·simp at e;omega
  ·omega
 have zg:∀w1 g1 q1,AppR W3 (vS (w.heap.size+1+1) 1 1).ownBlock 178 5 (1+i) (qad [x.adm 0]++qad (Ws.take i)) g1 q1 w1->Below (w.heap.size+1+1) W3 w1/\w.heap.size+1+1<=g1:=fun w1 g1 q1 R1=>by
  refine⟨⟨R1.keep.os,R1.keep.tape,R1.keep.output,R1.keep.size,fun k hk=>R1.keep.block k (by omega) (fun e=>by simp[Value.ownBlock]at e;omega)⟩,?_⟩
  rcases R1.new with e|e
  ·simp[Value.ownBlock]at e;omega
  ·omega
 have lY:=cG;clear cG;have aP:∀w2 g2 q2,Below (w.heap.size+1+1) W3 w2->w.heap.size+1+1<=g2->w2.ownsRow 0 178 5 (vS g2 (1+i+(n-(i+1))) q2) (1+i+(n-(i+1))) (qad [x.adm 0]++qad (Ws.take i)++qad (Ws.drop (i+1)))->∀u0 u1,
   ∃b' c',w.heap.size<=b'/\GRef (((w2.setCell (vA br 1) (vS g2 (1+i+(n-(i+1))) q2)).setCell (vA w.heap.size 0) u0).setCell (vA w.heap.size 1) u1) br g cap L (some (vA b' 0)) c' (x.adm 0::(Ws.take i++Ws.drop (i+1))) cnt st/\Keep (fun b=>b=br) w (((w2.setCell (vA br 1) (vS g2 (1+i+(n-(i+1))) q2)).setCell (vA w.heap.size 0) u0).setCell (vA w.heap.size 1) u1):=fun w2 g2 q2 aw fk DB u0 u1=>by
  have an:(x.adm 0::(Ws.take i++Ws.drop (i+1))).length=1+i+(n-(i+1)):=by
   have:=HN.out
   simp;omega
  have ct:=(h.ref.row.lt g rfl).2;have kC:Bw w w2:=aO.trans (aw.mono (by omega));have hk:Keep (fun b=>b=br) w (((w2.setCell (vA br 1) (vS g2 (1+i+(n-(i+1))) q2)).setCell (vA w.heap.size 0) u0).setCell (vA w.heap.size 1) u1):=by
   have k1:Keep (fun b=>b=br) w w2:=Keep.new kC;have k2:=k1.setCell (p:=vA br 1) rfl (vS g2 (1+i+(n-(i+1))) q2)
   exact(k2.quz (p:=vA w.heap.size 0) (Nat.le_refl _) u0).quz (p:=vA w.heap.size 1) (Nat.le_refl _) u1
  refine⟨g2,q2,by omega,⟨⟨?_,?_⟩,?_,?_⟩,hk⟩
  ·have h1:=(((bh.below kC ak).set 1 (vS g2 (1+i+(n-(i+1))) q2)).other (vA w.heap.size 0) u0 (by simp;omega)).other (vA w.heap.size 1) u1 (by simp;omega);rw[an]
   simpa using h1
  ·exact qab h.ref.row hk (fun y hy e=>by simp[Value.ownBlock]at hy;subst hy;exact h.ref.ne e.symm)
  ·rw[an,show qad (x.adm 0::(Ws.take i++Ws.drop (i+1)))=qad [x.adm 0]++qad (Ws.take i)++qad (Ws.drop (i+1)) by simp[qad]]
   exact xrl (xrl (xrl DB (by simp[Value.ownBlock];omega) _) (by simp[Value.ownBlock];omega) _) (by simp[Value.ownBlock];omega) _
  ·intro y hy
   simp[Value.ownBlock]at hy
   subst hy
   exact⟨by omega,by omega⟩
 have my:∀w2,Below (w.heap.size+1+1) W3 w2->w2.cell? (vA br 1)=some (vS b n cW)/\w2.frozen? (vA br 1)=false/\w2.cell? (vA w.heap.size 0)=some (vI 0)/\w2.cell? (vA w.heap.size 1)=some (vI 0)/\w2.frozen? (vA w.heap.size 0)=false/\w2.frozen? (vA w.heap.size 1)=false/\w2.cell? (vA (w.heap.size+1) 0)=some (vI x.num)/\w.heap.size+1<w2.heap.size/\Blk w2 w.heap.size 60 #[vI 0,vI 0]:=fun w2 aw=>by
  have c4:Blk w2 w.heap.size 60 #[vI 0,vI 0]:=(aw.block _ (by omega)).trans b4;have c5:Blk w2 (w.heap.size+1) 178 #[vI x.num,.string (sb (joinB x.key)),vI x.d0,vI x.d1,vI 0]:=(aw.block _ (by omega)).trans b5
  exact⟨(aw.cell (p:=vA br 1) (by show br<_;omega)).trans k1,((bh.below (aO.trans (aw.mono (by omega))) ak).frozen 1),c4.cell 0,c4.cell 1,c4.frozen 0,c4.frozen 1,c5.cell 0,c5.lt,c4⟩
 have e5:¬(br=w.heap.size+1):=by omega
 have e6:¬(w.heap.size=br):=by omega
 have e7:¬(w.heap.size+1=br):=by omega
 have HP:=aP;clear aP bh p0 p1 p2 p3 p4 aY Aa b4 b5 b6 aO
 by_cases cr:i+1=cW
 ·subst cr;have zu:∀w1:World,∀j u,(qad (Ws.drop (i+1)))[j]?=some u->w1.cell? (((vA b 0):Addr).add j)=some u:=fun w1 j u hu=>by
   have hd:Ws.drop (i+1)=[]:=List.drop_eq_nil_of_le (by have:=HN.out;omega);rw[hd]at hu;simp[qad]at hu
  have iQ:n-(i+1)=0:=by omega
  have GY:∀w2 g2 q2,Below (w.heap.size+1+1) W3 w2->w.heap.size+1+1<=g2->w2.ownsRow 0 178 5 (vS g2 (1+i) q2) (1+i) (qad [x.adm 0]++qad (Ws.take i))->∀u0 u1,
   ∃b' c',w.heap.size<=b'/\GRef (((w2.setCell (vA br 1) (vS g2 (1+i) q2)).setCell (vA w.heap.size 0) u0).setCell (vA w.heap.size 1) u1) br g cap L (some (vA b' 0)) c' (x.adm 0::(Ws.take i++Ws.drop (i+1))) cnt st/\Keep (fun b=>b=br) w (((w2.setCell (vA br 1) (vS g2 (1+i) q2)).setCell (vA w.heap.size 0) u0).setCell (vA w.heap.size 1) u1):=fun w2 g2 q2 h1 h2 h3 u0 u1=>by
   have hd:Ws.drop (i+1)=[]:=List.drop_eq_nil_of_le (by have:=HN.out;omega)
   have:=HP w2 g2 q2 h1 h2 (by rw[iQ,hd];simpa [qad] using h3) u0 u1
   rw[iQ]at this
   exact this
  clear sj zt zu lY HP
  go_wp2_with (at_builtin;refine qah (by rfl) _ _ _ _ rfl _ _ rfl (by rfl) oF ?_;rintro v1 w1 ⟨g1,q1,rfl,R1⟩;obtain⟨k2,sk,gm,gC,cJ⟩:=bM _ R1.keep;obtain⟨aw,fk⟩:=zg _ _ _ R1;obtain⟨r0,r1,r2,r3,r4,r5,r6,r7,r8⟩:=my _ aw;have gO:=R1.le;have ie:=R1.mx;clear oF bM zg my)
  have qO:=((r8.other (vA br 1) (vS g1 (1+i) q1) (by simp;omega)).set 0 (vI 2)).set 1 (vI x.num);have fR:=qO.cell
  refine xrn (v:=.agg #[vI 2,vI x.num]) ?_ rfl ⟨rfl,GY _ _ _ aw fk R1.own _ _⟩
  simp[results,results201,go_sem,fR]
 ·have sL:¬((i:Int)+1=cW):=by omega
  go_wp2_with (first
   |(at_builtin;refine qah (by rfl) _ _ _ _ rfl _ _ rfl (by rfl) (sj _ _ _ R1 (vA b ((i+1)*5)) (cW-(i+1)) (zt _ gC)) ?_;rintro v2 w2 ⟨g2,q2,rfl,R2⟩;obtain⟨aw,fk⟩:=lY _ _ _ _ _ _ R1 R2;obtain⟨r0,r1,r2,r3,r4,r5,r6,r7,r8⟩:=my _ aw)
   |(at_builtin;refine qah (by rfl) _ _ _ _ rfl _ _ rfl (by rfl) oF ?_;rintro v1 w1 ⟨g1,q1,rfl,R1⟩;obtain⟨k2,sk,gm,gC,cJ⟩:=bM _ R1.keep))
  have qO:=((r8.other (vA br 1) (vS g2 (1+i+(n-(i+1))) q2) (by simp;omega)).set 0 (vI 2)).set 1 (vI x.num);have fR:=qO.cell
  refine xrn (v:=.agg #[vI 2,vI x.num]) ?_ rfl ⟨rfl,HP _ _ _ aw fk R2.own _ _⟩
  simp[results,results201,go_sem,fR]
def way0 (L:List Ent)(Ws:List Wk)(x v:Wk)(e:Ent):Bool:=inB (joinB x.key) (joinB e.key)&&(inB (joinB v.key) (joinB e.key)&&(sh0 L Ws e x.d0&&(decide (ws0 (qae Ws (joinB v.key))>es0 (qaf L (joinB v.key)))&&decide (v.d0>0))))
def way1 (L:List Ent)(Ws:List Wk)(x v:Wk)(e:Ent):Bool:=inB (joinB x.key) (joinB e.key)&&(inB (joinB v.key) (joinB e.key)&&(sh1 L Ws e x.d1&&(decide (ws1 (qae Ws (joinB v.key))>es1 (qaf L (joinB v.key)))&&decide (v.d1>0))))
def way (L:List Ent)(Ws:List Wk)(x v:Wk):Bool:=L.any fun e=>way0 L Ws x v e||way1 L Ws x v e
def stAt (Ws:List Wk)(k:Nat):Int:=match Ws[k]? with|some x=>x.st|none=>0
def skips(Ws:List Wk)(jk:Option Nat)(v:Wk):Bool:=(v.st == 0)||(match jk with|some b=>decide (v.st<stAt Ws b)|none=>false)
def qpe (L:List Ent)(Ws:List Wk)(x:Wk)(jk:Option Nat)(k:Nat):Option Nat :=
 match Ws[k]? with
 |some v=>if skips Ws jk v then jk else if way L Ws x v then some k else jk
 |none=>jk
def qaq (L:List Ent)(Ws:List Wk)(x:Wk)(n:Nat):Option Nat:=(List.range n).foldl (qpe L Ws x) none
def qch (L:List Ent)(Ws:List Wk)(x:Wk):Option Nat:=qaq L Ws x Ws.length
def optI (o:Option Nat):Int:=match o with|some k=>k|none => -1
theorem qda(L:List Ent)(Ws:List Wk)(x:Wk)(n:Nat):qaq L Ws x (n+1)=qpe L Ws x (qaq L Ws x n) n:=by
 unfold qaq;rw[List.range_succ,List.foldl_append]
 rfl
theorem qen(L:List Ent)(Ws:List Wk)(x:Wk):∀n b,qaq L Ws x n=some b->b<n/\b<Ws.length
 |0,b,h=>by simp[qaq]at h
 |n+1,b,h=>by
  rw[qda]at h;unfold qpe at h
  split at h
  ·rename_i v hv
   have hn:=(xr0.1 hv).1
   split at h
   ·have:=qen L Ws x n b h;omega
   ·split at h
    ·simp at h;omega
    ·have:=qen L Ws x n b h;omega
  ·have:=qen L Ws x n b h;omega
end Go.Proofs.YtphclnolomgjoaaGreatDoor
