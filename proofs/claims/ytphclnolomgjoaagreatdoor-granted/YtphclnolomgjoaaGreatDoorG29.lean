import Derived.Test.YtphclnolomgjoaaGreatDoorG28
set_option linter.unusedVariables false
set_option linter.unusedSimpArgs false
set_option maxRecDepth 100000
set_option maxHeartbeats 4000000
namespace Go.Proofs.YtphclnolomgjoaaGreatDoor
open Tryz
open Go.RowKit
variable {W w' w1:World}{e:TypeId}{ai sl v v1 v2 v3:Value}{xs:List Value}{m n q r:Node}{bp bq br bt2 bx gn gp gq i:Nat}{l:List Pw}{ns:List Bs}{l1 l2 l4 th:Bool}{Ws:List Wk}{er:Int}{s2:Bs}
theorem qkr{size n:Nat}(h:W.ownsRow 0 e size v n xs):∃a c,v=.slice a n c:=by
 rcases h.2 with ⟨h1,h0⟩|⟨g,cap,aG,h1,_⟩
 ·rw[h0];exact⟨none,0,h1⟩
 ·exact⟨_,_,h1⟩
theorem has1{w:World}{x:Pw}(hx:Blk w x.blk 105 x.cells)(hm:qaf w m)(hn:qaf w n)(hq:n.blk=x.q)(hb:w.cell? ⟨bx,0,none⟩=some (nptr m.blk)):
  Calls prog 193 #[nptr x.blk,.pointer (some ⟨bx,0,none⟩)] w fun e w'=>e=.returned (.bool (x.q == m.blk))/\Below w.heap.size w w':=by
 have gH:=fun W (hW:Below w.heap.size w W)=>qsc (hn.below hW) (hm.below hW)
 rw[hq]at gH;have sF:w.cell? ⟨x.blk,1,none⟩=some (nptr x.q):=hx.cell 1;unfold nptr at hb sF ⊢;clear hx;generalize (x.q == m.blk)=bb at *
 go_enter func193,ntmps193
 go_wp2_with fail
 have ra:=gH w (Below.refl _ _);have re:=gH w.drew (Below.refl _ _).drew
 go_region
 all_goals go_wp2
 all_goals go_ret
 all_goals exact⟨rfl,by exact bel2⟩
theorem qsr{w:World}(h:WRow w v l)(hl:l.length<=100)(hm:qaf w m)(eW:∀p∈l,∃n,qaf w n/\n.blk=p.q)(hb:w.cell? ⟨bx,0,none⟩=some (nptr m.blk)):
  Calls prog 222 #[v,.func (.func 193) #[] #[.pointer (some ⟨bx,0,none⟩)]] w fun e w'=>(∃r:Int,e=.returned (.int .i64 r)/\decide (r >= 0)=l.any (fun p=>p.q == m.blk))/\Below w.heap.size w w':=by
 have cr:=xrb w _ hb
 simp only at cr
 obtain⟨a0,cx,hv,dk,h_⟩:=h.form;have bG:=fun W (hW:Below w.heap.size w W) i q (hi:l[i]?=some q)=>(show ∃g cap,v=.slice (some ⟨g,0,none⟩) l.length cap/\g<W.heap.size/\l.length<=cap/\cap<=maxLen/\W.cell? ⟨g,i,none⟩=some (nptr q.blk) from by
  obtain⟨g,cap,h1,h2,h3,h4,h5⟩:=h.at_ hi
  exact⟨g,cap,h1,by have:=hW.size;omega,h3,h4,(hW.cell (p:=⟨g,i,none⟩) h2).trans h5⟩)
 have gh:=fun W (hW:Below w.heap.size w W) q (hq:q∈l)=>(show Calls prog 193 #[nptr q.blk,.pointer (some ⟨bx,0,none⟩)] W fun e w'=>e=.returned (.bool (q.q == m.blk))/\Below W.heap.size W w' from by
  obtain⟨n,hn,e⟩:=eW q hq
  exact has1 ((h.works q hq).below hW (h.works q hq).lt) (hm.below hW) (hn.below hW) e ((hW.cell (p:=⟨bx,0,none⟩) cr).trans hb))
 obtain⟨n,hn⟩:∃n,n=l.length:=⟨_,rfl⟩;rw[<-hn]at hv bG hl dk;have HN:Hid (n=l.length):=hn;clear hn;subst hv
 go_enter func222,ntmps222
 go_wp2
 go_loopw [8] (fun i wr=>∃k:Nat,k<=n/\i=.int .i64 k/\Below w.heap.size w wr/\(l.take k).any (fun p=>p.q == m.blk)=false) (fun i _=>n-(intOf i).toNat)
 case atStart=>exact⟨0,Nat.zero_le _,rfl,Below.refl _ _,by simp⟩
 case round =>
  obtain⟨k,hk,rfl,ah,aA⟩:=hrel;have mo:Hid ((l.take k).any (fun p=>p.q == m.blk)=false):=aA;clear aA
  by_cases an:k<n
  ·have bM:k<l.length:=by rw[<-HN.out];exact an
   obtain⟨q,hq⟩:∃q,l[k]?=some q:=⟨_,xr1 bM⟩;obtain⟨g,cap,he,bK,cL,eT,hc⟩:=bG _ ah k q hq;injection he with e1 _ e3;subst e1 e3;have ib:=xr2 hq;have hw:=gh _ ah q ib;have hT:l.take (k+1)=l.take k++[q]:=by
    rw[xrf bM];rw[xr1 bM]at hq;cases hq;rfl
   have qO:Hid ((l.take (k+1)).any (fun p=>p.q == m.blk)=(q.q == m.blk)):=by
    show _=_
    rw[hT,List.any_append,mo.out];simp
   have x6:Hid ((q.q == m.blk)=true->l.any (fun p=>p.q == m.blk)=true):=fun ht=>by
    show _=true
    rw[xs0]
    exact⟨q,ib,ht⟩
   have jH:(k:Int)<n:=by omega
   have eV:(0:Int)<=k:=by omega
   unfold nptr at hc hw;clear hq bG gh ib hT;generalize (q.q == m.blk)=bb at *
   cases bb
   ·go_wp2_with (go_at_call 193;refine hw.mono ?_;rintro e w1 ⟨rfl,aa⟩;have au:Below w.heap.size w w1:=qac ah aa)
    exact⟨⟨k+1,by omega,by go_num,au,qO.out⟩,by simp[intOf];omega⟩
   ·go_wp2_with (go_at_call 193;refine hw.mono ?_;rintro e w1 ⟨rfl,aa⟩;have au:Below w.heap.size w w1:=qac ah aa)
    go_ret
    exact⟨⟨(k:Int),rfl,by rw[x6.out (by simp)];simp⟩,au⟩
  ·have cv:l.take k=l:=xrd (by have:=HN.out;omega);have h1:Hid (l.any (fun p=>p.q == m.blk)=false):=by have:=mo.out;rw[cv]at this;exact this
   go_wp2
   go_ret
   exact⟨⟨-1,rfl,by rw[h1.out];rfl⟩,ah⟩
theorem qhz{w:World}(h:WRow w v l)(hl:l.length<=100)(hm:qaf w m)(eW:∀p∈l,∃n,qaf w n/\n.blk=p.q)(hb:w.cell? ⟨bx,0,none⟩=some (nptr m.blk)):
  Calls prog 194 #[v,.func (.func 193) #[] #[.pointer (some ⟨bx,0,none⟩)]] w fun e w'=>e=.returned (.bool (l.any (fun p=>p.q == m.blk)))/\Below w.heap.size w w':=by
 have hi:=qsr h hl hm eW hb;obtain⟨a0,cx,rfl,dk,h_⟩:=h.form;generalize l.any (fun p=>p.q == m.blk)=bb at *;clear h eW
 go_enter func194,ntmps194
 go_wp2_with (go_at_call 222;refine hi.mono ?_;rintro e w1 ⟨⟨r,rfl,hr⟩,aa⟩)
 go_ret
 exact⟨by rw[<-hr];rfl,aa⟩
theorem qu4{nodes:List Node}{w:World}{bt:Nat}{vw va:Value}{ws as_:List Pw}(h:TwAt w nodes bt r ai vw va ws as_)(hm:m∈nodes):
  Calls prog 145 #[.pointer (some ⟨bt,1,none⟩),.pointer (some ⟨m.blk,0,none⟩)] w fun e w'=>e=.returned (.bool ((ws++as_).any (fun p=>p.q == m.blk)))/\Below w.heap.size w w':=by
 have cC:=h.bk.at_.lt;have ay:=h.bk.len;have pM:=fun W (hW:Below w.heap.size w W) bx (hb:W.cell? ⟨bx,0,none⟩=some (nptr m.blk))=>qhz (w:=W) (v:=vw) (l:=ws) ⟨qae (T:=fun _=>False) h.bk.wrow (Keep.new hW) (fun _ _ e=>e),fun p hp=>(h.bk.works p (xr9 _ hp)).below hW (h.bk.works p (xr9 _ hp)).lt⟩ (by omega) ((h.ins m hm).below hW) (fun p hp=>by
  obtain⟨n,hn,e,_⟩:=h.lf p (xr9 _ hp)
  exact⟨n,(h.ins n hn).below hW,e⟩) hb
 have o8:=fun W (hW:Below w.heap.size w W) bx (hb:W.cell? ⟨bx,0,none⟩=some (nptr m.blk))=>qhz (w:=W) (v:=va) (l:=as_) ⟨qae (T:=fun _=>False) h.bk.arow (Keep.new hW) (fun _ _ e=>e),fun p hp=>(h.bk.works p (xra _ hp)).below hW (h.bk.works p (xra _ hp)).lt⟩ (by omega) ((h.ins m hm).below hW) (fun p hp=>by
  obtain⟨n,hn,e,_⟩:=h.lf p (xra _ hp)
  exact⟨n,(h.ins n hn).below hW,e⟩) hb
 have c2:w.cell? ⟨bt,2,none⟩=some vw:=h.bk.at_.cell 2;have c3:w.cell? ⟨bt,3,none⟩=some va:=h.bk.at_.cell 3;obtain⟨a1,q1,cO⟩:=qkr h.bk.wrow;obtain⟨a2,q2,sw⟩:=qkr h.bk.arow;rw[List.any_append];rw[cO]at c2 pM;rw[sw]at c3 o8;generalize ws.any (fun p=>p.q == m.blk)=x1 at *;generalize as_.any (fun p=>p.q == m.blk)=x2 at *;generalize ws.length=n1 at *;generalize as_.length=n2 at *;have b3:Blk (w.alloc (.cells #[.pointer (some ⟨m.blk,0,none⟩)] 97)) w.heap.size 97 #[.pointer (some ⟨m.blk,0,none⟩)]:=Blk.new w 97 _;unfold nptr at pM o8;generalize m.blk=mb at *;clear h cO sw
 cases x1
 ·go_enter func145,ntmps145
  go_wp2_with (first
   |(go_at_call 194;refine(pM _ (by exact bel2) w.heap.size (Blk.cell (by exact blk2) 0)).mono ?_;clear pM;rintro e w1 ⟨rfl,aa⟩;have au:Below w.heap.size w w1:=qac (by exact bel2) aa;have d3:=(au.cell (p:=⟨bt,3,none⟩) cC).trans c3;have Ar:=b3.below aa b3.lt)
   |(go_at_call 194;refine(o8 _ au w.heap.size (Ar.cell 0)).mono ?_;rintro e w2 ⟨rfl,ag⟩;have aR:Below w.heap.size w w2:=qac au ag))
  go_ret
  exact⟨rfl,aR⟩
 ·go_enter func145,ntmps145
  go_wp2_with (first
   |(go_at_call 194;refine(pM _ (by exact bel2) w.heap.size (Blk.cell (by exact blk2) 0)).mono ?_;clear pM;rintro e w1 ⟨rfl,aa⟩;have au:Below w.heap.size w w1:=qac (by exact bel2) aa))
  go_ret
  exact⟨rfl,au⟩
def qdq (nodes:List Node)(l:List Pw)(s:Bs):Int :=
 if qas s=false then 1 else if s=[] then 2 else match findKey nodes (qab s) with
 |none=>3
 |some n=>if (!(n.kids.length == 0)||l.any (fun p=>p.q == n.blk))=true then 9 else 0
theorem qlj{nodes:List Node}(T:Tree nodes){p:Node}(hp:p∈nodes):p.kids.length<=1000:=by
 obtain⟨ks,hk,hm,hs⟩:=T.kids p hp;have aD:(ks.map (·.key)).Nodup:=by
  have:(ks.map fun k=>qad k.key).Nodup:=hs.imp (fun {a b} h e=>by subst e;rw[show cmpB a a=0 from qde a]at h;omega)
  rw[show(ks.map fun k=>qad k.key)=(ks.map (·.key)).map qad by simp]at this
  exact qb0 this
 have h1:∀x∈ks.map (·.key),x∈nodes.map (·.key):=by
  intro k cv;obtain⟨n,dm,rfl⟩:=xrq.1 cv
  exact xrq.2 ⟨n,((hm n).1 dm).1,rfl⟩
 have h2:=qdi aD h1;have h3:=T.len;rw[hk]
 simp at h2 ⊢;omega
theorem qew{nodes:List Node}(T0:Tree nodes){w:World}{bt:Nat}{vw va:Value}{ws as_:List Pw}(h:TwAt w nodes bt r ai vw va ws as_)(hr:r∈nodes)(a_:r.key=[])(s:ByteArray)(hs:s.size<=2000000):
  Calls prog 96 #[.pointer (some ⟨bt,0,none⟩),.string s] w fun e w'=>e=.returned (.int .i64 (qdq nodes (ws++as_) (bl s)))/\Below w.heap.size w w':=by
 have a9:=fun W=>qd3 s hs W
 rw[qk8]at a9;have cC:=h.bk.at_.lt;have bC:∀W,Below w.heap.size w W->W.cell? ⟨bt,0,none⟩=some (nptr r.blk):=fun W (hW:Below w.heap.size w W)=>(h.below hW).bk.at_.cell 0
 have ak:=fun W (hW:Below w.heap.size w W) v hv=>qcs T0 hr a_ s hs W (h.below hW).ins v hv
 have im:=fun n (hn:n∈nodes) W (hW:Below w.heap.size w W)=>qp7 ((h.below hW).ins n hn) (qlj T0 hn)
 have iu:=fun n (hn:n∈nodes) W (hW:Below w.heap.size w W)=>qu4 (h.below hW) hn
 unfold nptr at bC;unfold qdq
 cases hv:qas (bl s)
 ·rw[hv]at a9;simp only[if_true]at a9 ⊢;clear ak bC im iu
  go_enter func96,ntmps96
  go_wp2_with (go_at_call 132;refine(a9 _).mono ?_;rintro e w1 ⟨rfl,aa⟩)
  refine xrn (v:=.int .i64 1) (by simp[results,results96,go_sem]) rfl ⟨rfl,?_⟩
  exact qac (by exact bel2) aa
 rw[hv]at a9;simp only[Bool.true_eq_false,if_false]at a9 ⊢
 by_cases h0:bl s=[]
 ·have hz:s=⟨#[]⟩:=qea (h0.trans qhy.symm);simp only[h0,if_true]at a9 ⊢;clear ak bC im iu;subst hz
  go_enter func96,ntmps96
  go_wp2_with (go_at_call 132;refine(a9 _).mono ?_;rintro e w1 ⟨rfl,aa⟩)
  refine xrn (v:=.int .i64 2) (by simp[results,results96,go_sem]) rfl ⟨rfl,?_⟩
  exact qac (by exact bel2) aa
 simp only[h0,if_false]at a9 ⊢
 cases hf:findKey nodes (qab (bl s)) with
 |none =>
  rw[hf]at ak;clear hf im iu;unfold nptr at ak
  go_enter func96,ntmps96
  go_wp2_with (first
   |(go_at_call 132;refine(a9 _).mono ?_;rintro e w1 ⟨rfl,aa⟩;have au:Below w.heap.size w w1:=qac (by exact bel2) aa;have gV:=bC w1 au)
   |(go_at_call 63;refine(ak _ au (.pointer none) rfl).mono ?_;rintro e w2 ⟨rfl,ag⟩;have aR:Below w.heap.size w w2:=qac au ag))
  refine xrn (v:=.int .i64 3) (by simp[results,results96,go_sem]) rfl ⟨rfl,?_⟩
  exact aR
 |some n =>
  obtain⟨hn,bR⟩:=qan hf;rw[hf]at ak
  replace im:=im n hn
  replace iu:=iu n hn
  clear hf;simp only[nptr]at ak
  dsimp only
  generalize (n.kids.length == 0)=k0 at *;generalize (ws++as_).any (fun p=>p.q == n.blk)=x0 at *;clear h
  cases k0
  ·simp only[Bool.not_false,Bool.true_or,if_true];clear iu
   go_enter func96,ntmps96
   go_wp2_with (first
    |(go_at_call 132;refine(a9 _).mono ?_;rintro e w1 ⟨rfl,aa⟩;have au:Below w.heap.size w w1:=qac (by exact bel2) aa;have gV:=bC w1 au)
    |(go_at_call 63;refine(ak _ au (.pointer (some ⟨n.blk,0,none⟩)) rfl).mono ?_;rintro e w2 ⟨rfl,ag⟩;have aR:Below w.heap.size w w2:=qac au ag)
    |(go_at_call 144;refine(im _ aR).mono ?_;rintro e w3 ⟨rfl,fI⟩;subst fI))
   refine xrn (v:=.int .i64 9) (by simp[results,results96,go_sem]) rfl ⟨rfl,?_⟩
   exact aR
  ·simp only[Bool.not_true,Bool.false_or]
   cases x0
   ·simp only[Bool.false_eq_true,if_false]
    go_enter func96,ntmps96
    go_wp2_with (first
     |(go_at_call 132;refine(a9 _).mono ?_;rintro e w1 ⟨rfl,aa⟩;have au:Below w.heap.size w w1:=qac (by exact bel2) aa;have gV:=bC w1 au)
     |(go_at_call 63;refine(ak _ au (.pointer (some ⟨n.blk,0,none⟩)) rfl).mono ?_;rintro e w2 ⟨rfl,ag⟩;have aR:Below w.heap.size w w2:=qac au ag)
     |(go_at_call 144;refine(im _ aR).mono ?_;rintro e w3 ⟨rfl,fI⟩;subst fI)
     |(go_at_call 145;refine(iu _ aR).mono ?_;rintro e w4 ⟨rfl,bm⟩;have dO:Below w.heap.size w w4:=qac aR bm))
    refine xrn (v:=.int .i64 0) (by simp[results,results96,go_sem]) rfl ⟨rfl,?_⟩
    exact dO
   ·simp only[if_true]
    go_enter func96,ntmps96
    go_wp2_with (first
     |(go_at_call 132;refine(a9 _).mono ?_;rintro e w1 ⟨rfl,aa⟩;have au:Below w.heap.size w w1:=qac (by exact bel2) aa;have gV:=bC w1 au)
     |(go_at_call 63;refine(ak _ au (.pointer (some ⟨n.blk,0,none⟩)) rfl).mono ?_;rintro e w2 ⟨rfl,ag⟩;have aR:Below w.heap.size w w2:=qac au ag)
     |(go_at_call 144;refine(im _ aR).mono ?_;rintro e w3 ⟨rfl,fI⟩;subst fI)
     |(go_at_call 145;refine(iu _ aR).mono ?_;rintro e w4 ⟨rfl,bm⟩;have dO:Below w.heap.size w w4:=qac aR bm))
    refine xrn (v:=.int .i64 9) (by simp[results,results96,go_sem]) rfl ⟨rfl,?_⟩
    exact dO
theorem qus{a b:Bs}(h:cmpB a b<0):¬cmpB b a<0:=fun h2=>by
 have:cmpB a b = - cmpB b a:=qk5 a b
 omega
theorem qsg(hs:ns.Pairwise fun a b=>cmpB a b<0){x:Bs}(hi:ns[i]?=some x){at_:Nat}(h:Found (ns.take i++ns.drop (i+1)) x at_ th):at_=i:=by
 obtain⟨h1,h2,h3,_⟩:=h;have ei:=(xr0.1 hi).1;have mc:ns[i]=x:=by rw[xr1 ei]at hi;injection hi
 have ay:(ns.take i++ns.drop (i+1)).length=ns.length-1:=by simp;omega
 rcases Nat.lt_trichotomy at_ i with h5|h5|h5
 ·have an:at_<ns.length:=by omega
  have e:(ns.take i++ns.drop (i+1))[at_]?=some ns[at_]:=by
   rw[xrp (by simp;omega),List.getElem?_take_of_lt h5,xr1 an]
  have h6:=h3 at_ _ (Nat.le_refl _) e;have h7:=List.pairwise_iff_getElem.1 hs at_ i an ei h5;rw[mc]at h7
  omega
 ·exact h5
 ·have an:i+1<ns.length:=by omega
  have e:(ns.take i++ns.drop (i+1))[i]?=some ns[i+1]:=by
   rw[xro (by simp;omega),List.getElem?_drop];rw[show i+1+(i-(ns.take i).length)=i+1 by simp;omega];rw[xr1 an]
  have h6:=h2 i _ h5 e;have h7:=List.pairwise_iff_getElem.1 hs i (i+1) ei an (by omega);rw[mc]at h7
  exact absurd h6 (qus h7)
theorem qpp{nodes:List Node}(T:Tree nodes){p:Node}(hp:p∈nodes)(q:Node)(i:Nat)(sl:Value):(remN nodes q p i sl).map Node.ent=delL (nodes.map Node.ent) q.key:=by
 unfold remN delL;rw[List.map_map,List.filter_map]
 refine List.map_congr_left fun n hn=>?_
 simp only[Function.comp]
 by_cases h:n.key=p.key
 ·rw[if_pos h]
  have:n=p:=T.inj n (xrr.1 hn).1 p hp h
  rw[this];rfl
 ·rw[if_neg h]
def brkE (L:List Ent)(Ws:List Wk):Int:=if qcu L Ws=true then 11 else 0
theorem qzo{w:World}{nm:ByteArray}{P:World->Prop}(b1:Blk w gp 97 #[.pointer (some ⟨bp,0,none⟩)])(b2:Blk w gn 9 #[.string nm])(b3:Blk w gq 97 #[.pointer (some ⟨bq,0,none⟩)])
  (hh:Calls prog 82 #[.pointer (some ⟨bp,0,none⟩),.string nm,.pointer (some ⟨bq,0,none⟩)] w fun e w'=>e=.returned (.tuple #[])/\P w') :
  Calls prog 98 #[.pointer (some ⟨gp,0,none⟩),.pointer (some ⟨gn,0,none⟩),.pointer (some ⟨gq,0,none⟩)] w fun e w'=>e=.returned (.tuple #[])/\P w':=by
 have c1:=b1.cell 0;have c2:=b2.cell 0;have c3:=b3.cell 0;simp only[List.getElem?_toArray,List.getElem?_cons_zero]at c1 c2 c3
 go_enter func98,ntmps98
 go_wp2_with (go_at_call 82;refine hh.mono ?_;rintro e w1 ⟨rfl,hP⟩)
 go_end0
 exact⟨rfl,hP⟩
section
variable {τ : Nat->Tag}{t:Nat}{w:World}{bt:Nat}{nodes:List Node}{last:Int}{vw va:Value}{ws as_:List Pw}
theorem qju(h:qa3 τ t w bt nodes last vw va ws as_)(R:Rel nodes Ws ws as_)(hW:Wks Ws){p:Node}(hq:q∈nodes)(hp:p∈nodes){x:Bs}(dH:q.key=p.key++[x])(dg:q.up=some p.blk)(jS:q.kids=[])
  (aA:∀y∈ws++as_,y.q≠q.blk) (b1:Blk w gp 97 #[.pointer (some ⟨p.blk,0,none⟩)]) (b2:Blk w gn 9 #[.string (sb x)]) (b3:Blk w gq 97 #[.pointer (some ⟨q.blk,0,none⟩)]) (d1:¬TchQ p q gp) (d2:¬TchQ p q gn) (d3:¬TchQ p q gq) :
  Calls prog 87 #[.pointer (some ⟨bt,0,none⟩),.func (.func 97) #[.pointer (some ⟨q.blk,0,none⟩)] #[],.func (.func 98) #[] #[.pointer (some ⟨gp,0,none⟩),.pointer (some ⟨gn,0,none⟩),.pointer (some ⟨gq,0,none⟩)]] w
   fun e w'=>e=.returned (.int .i64 (brkE (delL (nodes.map Node.ent) q.key) Ws))/\(brkE (delL (nodes.map Node.ent) q.key) Ws=0->∃i sl,qa3 (qcr τ w.heap.size) t w' bt (remN nodes q p i sl) last vw va ws as_/\Keep (TchQ p q) w w')/\(brkE (delL (nodes.map Node.ent) q.key) Ws≠0->∃sl,BkM w p q sl w'):=by
 have T:=h.pr.tree;obtain⟨ks,hk,hm,hs⟩:=T.kids p hp;obtain⟨i,hi⟩:=xre ((hm q).2 ⟨hq,x,dH⟩);have aW:q≠p:=fun e=>by rw[e]at dH;have:=congrArg List.length dH;simp at this
 have gj:qad q.key=x:=by rw[dH];exact qaq _ _
 have nJ:ks.length<=1000:=by have:=qlj T hp;rw[hk]at this;simpa using this
 have hK:∀W,Below w.heap.size w W->qf1 W p ks:=fun W aX=>⟨hk,fun k cv=>(h.pr.ins k ((hm k).1 cv).1).below aX,hs,nJ⟩
 have A1:=h.apart hp hq;have A2:=h.apart hq hp;have A3:=h.apart hp hp;have A4:=h.apart hq hq;have dR:=(h.pr.ins p hp).lt;have je:=(h.pr.ins q hq).lt;have bK:∀g,p.sl.ownBlock=some g->g<w.heap.size:=fun g hg=>((h.pr.ins p hp).row.lt g hg).2
 have Cq:∀g,q.sl.ownBlock=some g->g<w.heap.size:=fun g hg=>((h.pr.ins q hq).row.lt g hg).2
 have iK:∀b,TchQ p q b->b<w.heap.size:=fun b hb=>by
  rcases hb with rfl|rfl|e
  ·exact dR
  ·exact je
  ·exact bK b e
 have nT:∀sl W1,LvM w p q i sl W1->qa3 (qcr τ w.heap.size) t W1 bt (remN nodes q p i sl) last vw va ws as_:=fun sl W1 M=>h.left hq hp dH jS hk hm hs hi aA M
 have iz:∀sl W1 W2,LvM w p q i sl W1->Keep (fun b=>w.heap.size<=b) W1 W2->LvM w p q i sl W2:=fun sl W1 W2 M aY=>by
  refine⟨M.own,M.par.keep aY (fun e=>by have e':w.heap.size<=p.blk:=e;omega) (fun g hg e=>?_),M.kid.keep aY (fun e=>by have e':w.heap.size<=q.blk:=e;omega) (fun g hg e=>?_),M.keep.qbm aY (fun b hb e=>by omega)⟩
  ·have hg:sl.ownBlock=some g:=hg;rw[M.own]at hg
   have:=bK g hg;omega
  ·have:=Cq g hg;omega
 refine qry (M1:=fun W1=>∃sl,LvM w p q i sl W1) (M2:=fun w'=>∃i sl,qa3 (qcr τ w.heap.size) t w' bt (remN nodes q p i sl) last vw va ws as_/\Keep (TchQ p q) w w') (M3:=fun w'=>∃sl,BkM w p q sl w') h.lts.1 (fun W1 hb=>?_) (fun W1 hM=>?_) (fun _ W1 W2 hM hz aY=>?_) (fun _ W1 W2 hM hz aY=>?_)
 ·refine(qmz ((h.pr.ins p hp).below hb) ((h.pr.ins q hq).below hb) (hK W1 hb) hi dg (A1.2.1 (fun e=>aW e.symm)) A3.1 A1.1 A4.1 A2.1 (A1.2.2 (fun e=>aW e.symm))).mono ?_
  rintro e w' ⟨rfl,sl,e1,e2,e3,e4⟩
  exact⟨rfl,e4.mono iK,sl,⟨e1,e2,e3,(Keep.new hb).trans e4⟩⟩
 ·obtain⟨sl,M⟩:=hM;have P:=nT sl W1 M;obtain⟨r,hr,hb⟩:=P.bk;obtain⟨eF,a_⟩:=qbq P.pr.tree hr
  have:=qd2 P.pr.tree P.pr.qdp hb eF a_
  rw[qhm P.pr.tree (Ws:=Ws) (ws:=ws) ⟨R.w,R.a,hb.lf⟩ hW,qpp T hp]at this
  exact this
 ·obtain⟨sl,M⟩:=hM;have M2:=iz sl W1 W2 M aY
  exact⟨i,sl,nT sl W2 M2,M2.keep⟩
 ·obtain⟨sl,M⟩:=hM;have M2:=iz sl W1 W2 M aY;have g_:=qlk hs;have aD:(ks.take i++ks.drop (i+1)).Sublist ks:=by
   conv=>rhs;rw[<-List.take_append_drop i ks]
   exact List.Sublist.append (List.Sublist.refl _) (List.drop_sublist_drop_left ks (Nat.le_succ i))
  have K2:qf1 W2 (p.qb5 i sl) (ks.take i++ks.drop (i+1)):=by
   refine⟨?_,fun k cv=>?_,hs.sublist (aD.map _),Nat.le_trans aD.length_le nJ⟩
   ·show p.kids.take i++p.kids.drop (i+1)=_
    rw[hk,List.map_append,List.map_take,List.map_drop]
   ·obtain⟨g1,g2⟩:=(qcx g_ hi k).1 cv;obtain⟨g3,y,g4⟩:=(hm k).1 g1
    exact h.other hq hp g3 (fun e=>by rw[e]at g4;have:=congrArg List.length g4;simp at this) g2 M2.keep
  have bI:qbs x=true:=qby (T.ok q hq).1 (by rw[dH];simp);have wP:∀k∈ks.take i++ks.drop (i+1),qad k.key≠x:=fun k cv e=>by
   obtain⟨g1,g2⟩:=(qcx g_ hi k).1 cv;obtain⟨g3,y,g4⟩:=(hm k).1 g1;rw[g4,qaq]at e
   exact g2 (T.inj k g3 q hq (by rw[g4,dH,e]))
  have ir:=qpc M2.par M2.kid K2 x bI wP (k':=q.key) gj (fun e=>A2.2.1 aW e) (by
   intro e;have e:sl.ownBlock=some q.blk:=e;rw[M2.own]at e;exact A1.1 e) (by
   intro e;have e:sl.ownBlock=some p.blk:=e;rw[M2.own]at e;exact A3.1 e) A4.1 A2.1 (by
   intro g hg;have hg:sl.ownBlock=some g:=hg;rw[M2.own]at hg;exact A1.2.2 (fun e=>aW e.symm) g hg)
  have Ao:=(b1.keep M.keep d1).keep aY (by have:=b1.lt;omega);have Ap:=(b2.keep M.keep d2).keep aY (by have:=b2.lt;omega);have Aq:=(b3.keep M.keep d3).keep aY (by have:=b3.lt;omega)
  refine qzo (P:=fun w'=>Keep (fun b=>b<w.heap.size) W2 w'/\∃sl,BkM w p q sl w') Ao Ap Aq (ir.mono ?_)
  rintro e w' ⟨rfl,at_,aQ,hF,f1,f2,f3,f4⟩
  have bG:at_=i:=by
   rw[List.map_append,List.map_take,List.map_drop]at hF
   exact qsg hs (by rw[xrs,hi,<- gj];rfl) hF
  subst bG;have yt:Keep (TchQ p q) W2 w':=f3.mono (fun b e=>by
   rcases e with e|e|e
   ·exact .inl e
   ·exact .inr (.inl e)
   ·have e:sl.ownBlock=some b:=e;rw[M2.own]at e;exact .inr (.inr e))
  refine⟨rfl,yt.mono iK,aQ,⟨?_,?_,M2.keep.trans yt,?_⟩⟩
  ·have e:(p.qb5 at_ sl).qd7 at_ q.loose.blk aQ={p with sl:=aQ}:=by
    have fM:p.kids[at_]?=some q.blk:=by rw[hk,xrs,hi];rfl
    have hl:=(xr0.1 fM).1;unfold Node.qd7 Node.qb5 Node.loose;simp only[Node.mk.injEq,true_and];rw[List.take_append_of_le_length (by simp;omega),List.take_take,Nat.min_self,List.drop_append_of_le_length (by simp;omega),List.drop_take,Nat.sub_self,List.take_zero,List.nil_append];rw[xr1 hl]at fM;injection fM with fM;rw[<-fM,<- List.drop_eq_getElem_cons hl,List.take_append_drop]
   rw[<-e];exact f1
  ·have e:({q.loose with key:=q.key,up:=some (p.qb5 at_ sl).blk}:Node)=q:=by
    unfold Node.loose Node.qb5;rw[<-dg]
   rw[<-e];exact f2
  ·rcases f4 with e|⟨g,e,hg⟩
   ·left
    have e:aQ.ownBlock=sl.ownBlock:=e;rw[e,M2.own]
   ·exact .inr ⟨g,e,by have:=M2.keep.size;omega⟩
end
theorem qgc{nodes:List Node}{s:Bs}(h:qdq nodes l s=0):qas s=true/\s≠[]/\∃n,findKey nodes (qab s)=some n/\n.kids=[]/\∀y∈l,y.q≠n.blk:=by
 unfold qdq at h
 by_cases h1:qas s=false
 ·rw[if_pos h1]at h;cases h
 ·rw[if_neg h1]at h
  by_cases h2:s=[]
  ·rw[if_pos h2]at h;cases h
  ·rw[if_neg h2]at h
   cases h3:findKey nodes (qab s) with
   |none=>rw[h3]at h;cases h
   |some n =>
    rw[h3]at h
    simp only at h
    by_cases h4:(!(n.kids.length == 0)||l.any (fun p=>p.q == n.blk))=true
    ·rw[if_pos h4]at h;cases h
    ·refine⟨by simpa using h1,h2,n,rfl,?_,fun y hy e=>h4 ?_⟩
     ·simp only[Bool.or_eq_true,Bool.not_eq_true',beq_eq_false_iff_ne,ne_eq,not_or,Decidable.not_not]at h4
      exact List.eq_nil_of_length_eq_zero h4.1
     ·rw[Bool.or_eq_true,xs0]
      exact .inr ⟨y,hy,by simpa using e⟩
section
variable {τ : Nat->Tag}{t:Nat}{w:World}{bt:Nat}{nodes:List Node}{last:Int}{vw va:Value}{ws as_:List Pw}
theorem qtl(h:qa3 τ t w bt nodes last vw va ws as_)(s:ByteArray)(hs:s.size<=2000000)(he:qdq nodes (ws++as_) (bl s)=er)(h0:er≠0):
  Calls prog 58 #[.pointer (some ⟨bt,0,none⟩),.string s] w fun e w'=>e=.returned (.int .i64 er)/\Below w.heap.size w w':=by
 obtain⟨r,eP,hb⟩:=h.bk;obtain⟨hr,a_⟩:=qbq h.pr.tree eP;have cn:=qew h.pr.tree hb hr a_ s hs;rw[he]at cn;have aW:(er != 0)=true:=by simpa using h0
 clear h he hb
 go_enter func58,ntmps58
 go_wp2_with (go_at_call 96;refine cn.mono ?_;rintro e w1 ⟨rfl,aa⟩)
 exact xrn (v:=.int .i64 er) (by simp[results,results58,go_sem]) rfl ⟨rfl,aa⟩
theorem PMid.gone(h:qa3 τ t w bt nodes last vw va ws as_){p:Node}(hq:q∈nodes)(hp:p∈nodes)(hP:qa3 (qcr τ w.heap.size) t w' bt (remN nodes q p i sl) last vw va ws as_)(hk:Keep (TchQ p q) w w'):PMid τ t w bt (remN nodes q p i sl) last vw va ws as_ w' :=
 ⟨_,fun b hb=>qa6 hb,fun b hb=>.inl (qep hb),hP,hk.qkn (fun b hb e=>⟨hb,(h.tch hq hp b e).2⟩)⟩
theorem PMid.qzu(h:qa3 τ t w bt nodes last vw va ws as_){p:Node}(hq:q∈nodes)(hp:p∈nodes)(aW:q≠p)(M:BkM w p q sl w'):PMid τ t w bt (reSl nodes p sl) last vw va ws as_ w':=by
 obtain⟨τ',m1,m2,m3⟩:=h.back hq hp aW M
 exact⟨τ',m1,m2,m3,M.keep.qkn (fun b hb e=>⟨hb,(h.tch hq hp b e).2⟩)⟩
theorem qtm(h:qa3 τ t w bt nodes last vw va ws as_)(R:Rel nodes Ws ws as_)(hW:Wks Ws)(s:ByteArray)(hs:s.size<=2000000)(he:qdq nodes (ws++as_) (bl s)=0)(hf:findKey nodes (qab (bl s))=some q):
  Calls prog 58 #[.pointer (some ⟨bt,0,none⟩),.string s] w fun e w'=>e=.returned (.int .i64 (brkE (delL (nodes.map Node.ent) q.key) Ws))/\(brkE (delL (nodes.map Node.ent) q.key) Ws=0->∃p∈nodes,∃i sl,PMid τ t w bt (remN nodes q p i sl) last vw va ws as_ w')/\(brkE (delL (nodes.map Node.ent) q.key) Ws≠0->∃p∈nodes,∃sl,PMid τ t w bt (reSl nodes p sl) last vw va ws as_ w'):=by
 have T:=h.pr.tree;obtain⟨r,eP,hb⟩:=h.bk;obtain⟨hr,a_⟩:=qbq T eP;obtain⟨hv,dt,n',kQ,fk,aA⟩:=qgc he;rw[hf]at kQ;cases kQ;obtain⟨hq,cS⟩:=qan hf;have cn:=qew T hb hr a_ s hs;rw[he]at cn;have ak:=fun W (hW:Below w.heap.size w W) v hv=>qcs T hr a_ s hs W (hb.below hW).ins v hv
 rw[hf]at ak;have ph:q.key≠[]:=by rw[cS];intro e;exact dt (qes e)
 obtain⟨k,x,hZ⟩:∃k x,q.key=k++[x]:=⟨q.key.dropLast,q.key.getLast ph,(List.dropLast_concat_getLast ph).symm⟩;obtain⟨p,hp,dM,dR,dg⟩:=T.par q hq k x hZ;have dH:q.key=p.key++[x]:=by rw[dM];exact hZ
 have aW:q≠p:=fun e=>by rw[e]at dH;have:=congrArg List.length dH;simp at this
 have dY:=fun W (hW:Below w.heap.size w W)=>qj0 ((h.pr.ins q hq).below hW)
 rw[dg]at dY;have f_:∀W,Calls prog 81 #[.string s] W fun e w'=>(∃a:ByteArray,e=.returned (.tuple #[.string a,.string (sb x)]))/\Below W.heap.size W w':=fun W=>(qe6 s hs hv dt W).mono fun e w' mg=>by
  obtain⟨⟨a,b,rfl,h1,_⟩,h2⟩:=mg
  refine⟨⟨a,?_⟩,h2⟩
  rw[<-cS,hZ]at h1;have cr:x=bl b:=(qc8 h1).2
  have:b=sb x:=qea (by rw[qb2];exact cr.symm)
  rw[this]
 have iK:∀b,TchQ p q b->b<w.heap.size:=fun b bg=>by
  rcases bg with rfl|rfl|e
  ·exact(h.pr.ins p hp).lt
  ·exact(h.pr.ins q hq).lt
  ·exact((h.pr.ins p hp).row.lt b e).2
 have bG:∀W,Below w.heap.size w W->∀gp gn gq,Blk W gp 97 #[.pointer (some ⟨p.blk,0,none⟩)]->Blk W gn 9 #[.string (sb x)]->Blk W gq 97 #[.pointer (some ⟨q.blk,0,none⟩)]->w.heap.size<=gp->w.heap.size<=gn->w.heap.size<=gq ->
   Calls prog 87 #[.pointer (some ⟨bt,0,none⟩),.func (.func 97) #[.pointer (some ⟨q.blk,0,none⟩)] #[],.func (.func 98) #[] #[.pointer (some ⟨gp,0,none⟩),.pointer (some ⟨gn,0,none⟩),.pointer (some ⟨gq,0,none⟩)]] W
   fun e w'=>e=.returned (.int .i64 (brkE (delL (nodes.map Node.ent) q.key) Ws))/\(brkE (delL (nodes.map Node.ent) q.key) Ws=0->∃p∈nodes,∃i sl,PMid τ t w bt (remN nodes q p i sl) last vw va ws as_ w')/\(brkE (delL (nodes.map Node.ent) q.key) Ws≠0->∃p∈nodes,∃sl,PMid τ t w bt (reSl nodes p sl) last vw va ws as_ w'):=fun W aX gp gn gq b1 b2 b3 e1 e2 e3=>by
  have h6:=h.keep (τ':=qcr τ w.heap.size) (T:=fun _=>False) (Keep.new aX) (fun _ _ h=>h.elim) (fun b hb=>qa6 hb)
  refine(qju h6 R hW hq hp dH dg fk aA b1 b2 b3 (fun e=>by have:=iK _ e;omega) (fun e=>by have:=iK _ e;omega) (fun e=>by have:=iK _ e;omega)).mono ?_
  rintro e w' ⟨rfl,g1,g2⟩
  refine⟨rfl,fun e=>?_,fun e=>?_⟩
  ·obtain⟨i,sl,g3,g4⟩:=g1 e
   exact⟨p,hp,i,sl,PMid.from aX (PMid.gone h6 hq hp g3 g4)⟩
  ·obtain⟨sl,g3⟩:=g2 e
   exact⟨p,hp,sl,PMid.from aX (PMid.qzu h6 hq hp aW g3)⟩
 have bC:∀W,Below w.heap.size w W->W.cell? ⟨bt,0,none⟩=some (nptr r.blk):=fun W (hW:Below w.heap.size w W)=>(hb.below hW).bk.at_.cell 0
 generalize brkE (delL (nodes.map Node.ent) q.key) Ws=er at bG ⊢;have HQ:∃Q:World->Prop,Q=fun w'=>(er=0->∃p∈nodes,∃i sl,PMid τ t w bt (remN nodes q p i sl) last vw va ws as_ w')/\(er≠0->∃p∈nodes,∃sl,PMid τ t w bt (reSl nodes p sl) last vw va ws as_ w'):=⟨_,rfl⟩
 obtain⟨Q,hQ⟩:=HQ;have bG:∀W,Below w.heap.size w W->∀gp gn gq,Blk W gp 97 #[.pointer (some ⟨p.blk,0,none⟩)]->Blk W gn 9 #[.string (sb x)]->Blk W gq 97 #[.pointer (some ⟨q.blk,0,none⟩)]->w.heap.size<=gp->w.heap.size<=gn->w.heap.size<=gq ->
   Calls prog 87 #[.pointer (some ⟨bt,0,none⟩),.func (.func 97) #[.pointer (some ⟨q.blk,0,none⟩)] #[],.func (.func 98) #[] #[.pointer (some ⟨gp,0,none⟩),.pointer (some ⟨gn,0,none⟩),.pointer (some ⟨gq,0,none⟩)]] W fun e w'=>e=.returned (.int .i64 er)/\Q w':=by rw[hQ];exact bG
 suffices hh:Calls prog 58 #[.pointer (some ⟨bt,0,none⟩),.string s] w fun e w'=>e=.returned (.int .i64 er)/\Q w' by rw[hQ]at hh;exact hh
 have jJ:∀(fn:Fn) (first cap:Array Value) (w:World),(Instr.makeFunc fn first cap).run prog w=.ok (.func fn first cap) w:=fun _ _ _ _=>rfl
 have cC:=hb.bk.at_.lt;simp only[nptr,uptr,Option.map_some]at bC ak dY;clear hQ h he hf R hb hZ dg dM dH cS aA hq hp;generalize p.blk=bp at *;generalize q.blk=bq at *;generalize r.blk=br at *
 go_enter func58,ntmps58
 go_upto_region 7 with (first
  |(go_at_call 96;refine cn.mono ?_;rintro e w1 ⟨rfl,au⟩;have gV:=bC w1 au)
  |(go_at_call 63;refine(ak _ au (.pointer (some ⟨bq,0,none⟩)) rfl).mono ?_;rintro e w2 ⟨rfl,ag⟩;have aR:Below w.heap.size w w2:=qac au ag;have fm:=aR.size;have uG:Blk (w2.alloc (.cells #[.pointer (some ⟨bq,0,none⟩)] 97)) w2.heap.size 97 #[.pointer (some ⟨bq,0,none⟩)]:=Blk.new w2 97 _)
  |(go_at_call 92;refine(dY _ (by exact bel2)).mono ?_;rintro e w3 ⟨rfl,fI⟩;subst fI)
  |(go_at_call 81;refine(f_ _).mono ?_;rintro e w5 ⟨⟨sa,rfl⟩,bO⟩;have dC:Below w.heap.size w w5:=qac (by exact bel2) bO;have ym:Blk w5 w2.heap.size 97 #[.pointer (some ⟨bq,0,none⟩)]:=Blk.below (by exact blk2) bO (by simp;omega);have yj:Blk w5 (w2.heap.size+1) 97 #[.pointer (some ⟨bp,0,none⟩)]:=Blk.below (by exact blk2) bO (by simp);have CM:=dC.size;have CI:=ym.lt;have CJ:=yj.lt))
 have my:Below w.heap.size w (w5.alloc (.cells #[.string (sb x)] 9)):=by exact bel2
 have uH:=ym.alloc (.cells #[.string (sb x)] 9);have yk:=yj.alloc (.cells #[.string (sb x)] 9);have yi:Blk (w5.alloc (.cells #[.string (sb x)] 9)) w5.heap.size 9 #[.string (sb x)]:=Blk.new w5 9 _;have o5:=bG _ my _ _ _ yk yi uH (by omega) (by omega) (by omega);have A6:=uH.cell 0;simp only[List.getElem?_toArray,List.getElem?_cons_zero]at A6;clear bG uH yk yi
 go_wp2_with (first
  |(go_at_call 87;refine o5.mono ?_;rintro e w9 ⟨rfl,hM⟩))
 exact xrn (v:=.int .i64 er) (by simp[results,results58,go_sem]) rfl ⟨rfl,hM⟩
end
theorem qr4{w:World}{n:Nat}(h:Below w.heap.size w W)(hb:Below n W w1)(hn:w.heap.size<=n:=by omega):Below w.heap.size w w1:=h.trans (hb.mono hn)
theorem qom{w:World}{bt:Nat}(s s2:ByteArray)(bC:∀W,Below w.heap.size w W->W.cell? ⟨bt,0,none⟩=some (.pointer (some ⟨br,0,none⟩)))
  (a9:∀W gb,Blk W gb 9 #[.string s2]->w.heap.size<=gb->Calls prog 132 #[.string s,.slice (some ⟨gb,0,none⟩) 1 1] W fun e w'=>e=.returned (.int .i64 0)/\Below w.heap.size W w')
  {fv:ByteArray->Value} (hf:∀W fR,Below w.heap.size w W->fR=s\/fR=s2->Calls prog 63 #[.pointer (some ⟨br,0,none⟩),.string fR] W fun e w'=>e=.returned (fv fR)/\Below W.heap.size W w') (cQ:fv s=v1) (en:fv s2=v2)
  {x:Bs} (f_:∀W,Calls prog 81 #[.string s] W fun e w'=>(∃a:ByteArray,e=.returned (.tuple #[.string a,.string (sb x)]))/\Below W.heap.size W w')
  (hc:v1=.pointer (some ⟨bq,0,none⟩)->v2=.pointer (some ⟨bt2,0,none⟩)->(∀W,Below w.heap.size w W->Calls prog 105 #[.pointer (some ⟨bt2,0,none⟩)] W fun e w'=>e=.returned (.bool l1)/\w'=W)/\(∀W,Below w.heap.size w W->Calls prog 142 #[.pointer (some ⟨bt2,0,none⟩),.pointer (some ⟨bq,0,none⟩)] W fun e w'=>e=.returned (.bool l2)/\Below W.heap.size W w')/\(∀W,Below w.heap.size w W->Calls prog 63 #[.pointer (some ⟨bt2,0,none⟩),.string (sb x)] W fun e w'=>e=.returned v3/\Below W.heap.size W w')/\(∀W,Below w.heap.size w W->Calls prog 143 #[.pointer (some ⟨bq,0,none⟩),.pointer (some ⟨bt2,0,none⟩)] W fun e w'=>e=.returned (.bool l4)/\Below W.heap.size W w'))
  (H:(v1=.pointer none/\er=3)\/(v1=.pointer (some ⟨bq,0,none⟩)/\v2=.pointer none/\er=3)\/(v1=.pointer (some ⟨bq,0,none⟩)/\v2=.pointer (some ⟨bt2,0,none⟩)/\((l1=true/\er=5)\/(l1=false/\l2=true/\er=10)\/(l1=false/\l2=false/\(∃k9,v3=.pointer (some ⟨k9,0,none⟩))/\er=4)\/(l1=false/\l2=false/\v3=.pointer none/\l4=true/\er=8)\/(l1=false/\l2=false/\v3=.pointer none/\l4=false/\er=0)))) :
  Calls prog 91 #[.pointer (some ⟨bt,0,none⟩),.string s,.string s2] w fun e w'=>e=.returned (.int .i64 er)/\Below w.heap.size w w':=by
 go_enter func91,ntmps91
 go_upto_region 4 with (first
    |(go_at_call 132;refine(a9 _ _ (by exact blk2) (Nat.le_refl _)).mono ?_;rintro e w1 ⟨rfl,aa⟩;have au:Below w.heap.size w w1:=qr4 (by exact bel2) aa;have gV:=bC w1 au))
 go_cut [8,9] from 19 to 30 (fun x1 x2 wx=>x1=v1/\x2=v2/\Below w.heap.size w wx)
 case first =>
  clear hc H
  go_region_held3 (fun w'=>w'.cell? ⟨bt,0,none⟩=some (.pointer (some ⟨br,0,none⟩))) (first|go_keep|exact bC _ (by exact bel2))
   (first
   |(go_at_call 63;refine(hf _ _ (by exact bel2) (by first|exact .inl rfl|exact .inr rfl)).mono ?_;rintro e w2 ⟨rfl,ag⟩;have aR:Below w.heap.size w w2:=qac (by exact bel2) ag;have tY:=bC w2 aR))
  all_goals go_wp2_with fail
  all_goals go_meet
  all_goals exact⟨by first|rfl|exact cQ,by first|rfl|exact en,by exact bel2⟩
 case rest =>
  obtain⟨rfl,rfl,dD⟩:=hcut;clear cQ en hf a9
  rcases H with ⟨rfl,rfl⟩|⟨rfl,rfl,rfl⟩|⟨rfl,rfl,H⟩
  rotate_left 2
  ·obtain⟨aZ,bL,oJ,tI⟩:=hc rfl rfl;clear hc
   rcases H with ⟨rfl,rfl⟩|⟨rfl,rfl,rfl⟩|⟨rfl,rfl,⟨k9,rfl⟩,rfl⟩|⟨rfl,rfl,rfl,rfl,rfl⟩|⟨rfl,rfl,rfl,rfl,rfl⟩
   all_goals
    go_wp2_with (first
     |(go_at_call 81;refine(f_ _).mono ?_;rintro e w5 ⟨⟨sa,rfl⟩,bO⟩;have dC:Below w.heap.size w w5:=qac dD bO)
     |(go_at_call 105;refine(aZ _ dC).mono ?_;rintro e w6 ⟨rfl,C3⟩;subst C3)
     |(go_at_call 142;refine(bL _ dC).mono ?_;rintro e w7 ⟨rfl,vG⟩;have yA:Below w.heap.size w w7:=qac dC vG)
     |(go_at_call 63;refine(oJ _ yA).mono ?_;rintro e w8 ⟨rfl,Bv⟩;have tv:Below w.heap.size w w8:=qac yA Bv)
     |(go_at_call 143;refine(tI _ tv).mono ?_;rintro e w9 ⟨rfl,gD⟩;have ob:Below w.heap.size w w9:=qac tv gD))
    exact xrn (by simp[results,results91,go_sem]) rfl ⟨rfl,by assumption⟩
  all_goals
   clear hc
   go_wp2_with (go_at_call 81;refine(f_ _).mono ?_;rintro e w5 ⟨⟨sa,rfl⟩,bO⟩;have dC:Below w.heap.size w w5:=qac dD bO)
   exact xrn (v:=.int .i64 3) (by simp[results,results91,go_sem]) rfl ⟨rfl,by assumption⟩
def qma (nodes:List Node)(q tq:Node):Bool:=!(nodes.filter fun m=>q.key.isPrefixOf m.key).all (okD ((tq.key.length:Int)+1-q.key.length))
def qdx (nodes:List Node)(s s2:Bs):Int :=
 if errP [s2,s] s≠0 then errP [s2,s] s else match findKey nodes (qab s) with
 |none=>3
 |some q=>match findKey nodes (qab s2) with
  |none=>3
  |some tq=>if tq.leaf=true then 5 else if q.key.isPrefixOf tq.key=true then 10 else if (findKey nodes (tq.key++[qad q.key])).isSome=true then 4 else if qma nodes q tq=true then 8 else 0
theorem qxx{w:World}{bt:Nat}(s s2:ByteArray)(h0:er≠0)
  (a9:∀W gb,Blk W gb 9 #[.string s2]->w.heap.size<=gb->Calls prog 132 #[.string s,.slice (some ⟨gb,0,none⟩) 1 1] W fun e w'=>e=.returned (.int .i64 er)/\Below w.heap.size W w') :
  Calls prog 91 #[.pointer (some ⟨bt,0,none⟩),.string s,.string s2] w fun e w'=>e=.returned (.int .i64 er)/\Below w.heap.size w w':=by
 have aW:(er != 0)=true:=by simpa using h0
 go_enter func91,ntmps91
 go_wp2_with (first
   |(go_at_call 132;refine(a9 _ _ (by exact blk2) (Nat.le_refl _)).mono ?_;rintro e w1 ⟨rfl,aa⟩;have au:Below w.heap.size w w1:=qr4 (by exact bel2) aa))
 exact xrn (v:=.int .i64 er) (by simp[results,results91,go_sem]) rfl ⟨rfl,au⟩
theorem qo6{s:Bs}(h:errP [s2,s] s=0):qas s=true/\qas s2=true/\s≠[]:=by
 unfold errP at h
 by_cases h1:([s2,s].all qas)=false
 ·rw[if_pos h1]at h;cases h
 ·rw[if_neg h1]at h
  by_cases h2:s=[]
  ·rw[if_pos h2]at h;cases h
  ·simp at h1
   exact⟨h1.2,h1.1,h2⟩
theorem qfn{nodes:List Node}(T0:Tree nodes)(hB:qa2 nodes){w:World}{bt:Nat}{vw va:Value}{ws as_:List Pw}(h:TwAt w nodes bt r ai vw va ws as_)(hr:r∈nodes)(a_:r.key=[])(s s2:ByteArray)(hs:s.size<=2000000)(dU:s2.size<=2000000):
  Calls prog 91 #[.pointer (some ⟨bt,0,none⟩),.string s,.string s2] w fun e w'=>e=.returned (.int .i64 (qdx nodes (bl s) (bl s2)))/\Below w.heap.size w w':=by
 have a9:=fun W gb (hb:Blk W gb 9 #[.string s2]) (hg:w.heap.size<=gb)=>qjk s s2 hs dU hg hb
 unfold qdx
 by_cases h0:errP [bl s2,bl s] (bl s)=0
 ·rw[if_neg (by simpa using h0)];rw[h0]at a9;obtain⟨hv,en,dt⟩:=qo6 h0;have bC:∀W,Below w.heap.size w W->W.cell? ⟨bt,0,none⟩=some (.pointer (some ⟨r.blk,0,none⟩)):=fun W (hW:Below w.heap.size w W)=>(h.below hW).bk.at_.cell 0
  let fv:ByteArray->Value:=fun fR=>match findKey nodes (qab (bl fR)) with|none=>.pointer none|some p=>nptr p.blk
  have hf:∀W fR,Below w.heap.size w W->fR=s\/fR=s2->Calls prog 63 #[.pointer (some ⟨r.blk,0,none⟩),.string fR] W fun e w'=>e=.returned (fv fR)/\Below W.heap.size W w':=fun W fR hW p6=>qcs T0 hr a_ fR (by rcases p6 with rfl|rfl<;>assumption) W (h.below hW).ins _ rfl
  have f_:∀W,Calls prog 81 #[.string s] W fun e w'=>(∃a:ByteArray,e=.returned (.tuple #[.string a,.string (sb (qad (qab (bl s))))]))/\Below W.heap.size W w':=fun W=>(qe6 s hs hv dt W).mono fun e w' mg=>by
   obtain⟨⟨a,b,rfl,h1,_⟩,h2⟩:=mg
   refine⟨⟨a,?_⟩,h2⟩
   have:b=sb (qad (qab (bl s))):=qea (by rw[qb2,h1,qaq])
   rw[this]
  cases hq:findKey nodes (qab (bl s)) with
  |none=>exact qom (bq:=0) (bt2:=0) (v3:=.pointer none) (l1:=true) (l2:=true) (l4:=true) s s2 bC a9 hf (show fv s=.pointer none by simp only[fv];rw[hq]) rfl f_ (fun e=>by cases e) (.inl ⟨rfl,rfl⟩)
  |some q =>
   have cQ:fv s=.pointer (some ⟨q.blk,0,none⟩):=by simp only[fv];rw[hq];rfl
   obtain⟨ib,cS⟩:=qan hq
   simp only
   cases ht:findKey nodes (qab (bl s2)) with
   |none=>exact qom (bt2:=0) (v3:=.pointer none) (l1:=true) (l2:=true) (l4:=true) s s2 bC a9 hf cQ (show fv s2=.pointer none by simp only[fv];rw[ht]) f_ (fun _ e=>by cases e) (.inr (.inl ⟨rfl,rfl,rfl⟩))
   |some tq =>
    have xq:fv s2=.pointer (some ⟨tq.blk,0,none⟩):=by simp only[fv];rw[ht];rfl
    obtain⟨pZ,cZ⟩:=qan ht
    simp only
    have aZ:=fun W (hW:Below w.heap.size w W)=>qgy tq.blk tq.leaf W (((h.below hW).ins tq pZ).cell rfl)
    have bL:=fun W (hW:Below w.heap.size w W)=>qn6 T0 hB pZ ib W (h.below hW).ins
    have tI:=fun W (hW:Below w.heap.size w W)=>qnl T0 (h.below hW).ins ib pZ
    have rR:qbs (qad q.key)=true:=by
     have ph:q.key≠[]:=by rw[cS];intro e;exact dt (qes e)
     have:q.key=q.key.dropLast++[q.key.getLast ph]:=(List.dropLast_concat_getLast ph).symm
     rw[this,qaq]
     exact qby (T0.ok q ib).1 (List.getLast_mem ph)
    have jd:qab (bl (sb (qad (qab (bl s)))))=[qad q.key]:=by
     rw[qb2,<- cS]
     have:=qbf (k:=[qad q.key]) (by unfold qbx;simp[rR])
     exact this
    have oJ:∀v,(v=match findKey nodes (tq.key++[qad q.key]) with|none=>Value.pointer none|some p=>nptr p.blk)->∀W,Below w.heap.size w W->Calls prog 63 #[.pointer (some ⟨tq.blk,0,none⟩),.string (sb (qad (qab (bl s))))] W fun e w'=>e=.returned v/\Below W.heap.size W w':=fun v hv W hW=>by
     have hl:(sb (qad (qab (bl s)))).size<=2000000:=by rw[qcp,<- cS];have:=(qdv rR).2;omega
     refine(qse T0 pZ (sb (qad (qab (bl s)))) hl W (h.below hW).ins).mono ?_
     rintro e w' ⟨hp,hb⟩
     rw[jd]at hp
     refine⟨?_,hb⟩
     rcases hp with ⟨n,hn,bR,rfl⟩|⟨aA,rfl⟩
     ·rw[hv,qcc T0 hn bR]
     ·rw[hv,qh1 aA]
    simp only[nptr]at bL oJ;have aC:=fun er H=>qom (er:=er) s s2 bC a9 hf cQ xq f_ (fun _ _=>⟨aZ,bL,oJ _ rfl,tI⟩) (.inr (.inr ⟨rfl,rfl,H⟩))
    clear aZ bL oJ tI;unfold qma
    cases hl:tq.leaf
    ·simp only[Bool.false_eq_true,if_false]
     cases hi:q.key.isPrefixOf tq.key
     ·simp only[Bool.false_eq_true,if_false]
      cases hk:findKey nodes (tq.key++[qad q.key]) with
      |some k9 =>
       simp only[Option.isSome_some,if_true]
       exact aC _ (.inr (.inr (.inl ⟨hl,hi,⟨k9.blk,by rw[hk]⟩,rfl⟩)))
      |none =>
       simp only[Option.isSome_none,Bool.false_eq_true,if_false]
       cases hd:(!(nodes.filter fun m=>q.key.isPrefixOf m.key).all (okD ((tq.key.length:Int)+1-q.key.length)))
       ·simp only[Bool.false_eq_true,if_false]
        exact aC _ (.inr (.inr (.inr (.inr ⟨hl,hi,by rw[hk],hd,rfl⟩))))
       ·simp only[if_true]
        exact aC _ (.inr (.inr (.inr (.inl ⟨hl,hi,by rw[hk],hd,rfl⟩))))
     ·simp only[if_true]
      exact aC _ (.inr (.inl ⟨hl,hi,rfl⟩))
    ·simp only[if_true]
     exact aC _ (.inl ⟨hl,rfl⟩)
 ·rw[if_pos (by simpa using h0)]
  exact qxx s s2 h0 a9
end Go.Proofs.YtphclnolomgjoaaGreatDoor
