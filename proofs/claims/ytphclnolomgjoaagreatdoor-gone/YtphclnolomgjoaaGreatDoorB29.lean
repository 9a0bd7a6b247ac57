import Derived.Test.YtphclnolomgjoaaGreatDoorB28
set_option linter.unusedVariables false
set_option linter.unusedSimpArgs false
set_option maxRecDepth 100000
set_option maxHeartbeats 4000000
namespace Go.Proofs.YtphclnolomgjoaaGreatDoor
open Tryz
open Go.RowKit
variable {W w' w1:World}{e:TypeId}{ai sl v v1 v2 v3:Value}{xs:List Value}{m n q r:Node}{bp bq br bt2 bx gn gp gq i:Nat}{l:List Pw}{ns:List Bs}{l1 l2 l4 th:Bool}{Ws:List Wk}{er:Int}{s2:Bs}
theorem qkq{size n:Nat}(h:W.ownsRow 0 e size v n xs):∃a c,v=.slice a n c:=by
 rcases h.2 with ⟨h1,h0⟩|⟨g,cap,aH,h1,_⟩
 ·rw[h0];exact⟨none,0,h1⟩
 ·exact⟨_,_,h1⟩
theorem has1{w:World}{x:Pw}(hx:Blk w x.blk 105 x.cells)(hm:qag w m)(hn:qag w n)(hq:n.blk=x.q)(hb:w.cell? ⟨bx,0,none⟩=some (nptr m.blk)):
  Calls prog 193 #[nptr x.blk,.pointer (some ⟨bx,0,none⟩)] w fun e w'=>e=.returned (.bool (x.q == m.blk))/\Below w.heap.size w w':=by
 have gm:=fun W (hW:Below w.heap.size w W)=>qsk (hn.below hW) (hm.below hW)
 rw[hq]at gm;have sF:w.cell? ⟨x.blk,1,none⟩=some (nptr x.q):=hx.cell 1;unfold nptr at hb sF ⊢;clear hx;generalize (x.q == m.blk)=bb at *
 go_enter func193,ntmps193
 go_wp2_with fail
 have qZ:=gm w (Below.refl _ _);have q_:=gm w.drew (Below.refl _ _).drew
 go_region
 all_goals go_wp2
 all_goals go_ret
 all_goals exact⟨rfl,by exact bel2⟩
theorem qs0{w:World}(h:WRow w v l)(hl:l.length<=100)(hm:qag w m)(eS:∀p∈l,∃n,qag w n/\n.blk=p.q)(hb:w.cell? ⟨bx,0,none⟩=some (nptr m.blk)):
  Calls prog 222 #[v,.func (.func 193) #[] #[.pointer (some ⟨bx,0,none⟩)]] w fun e w'=>(∃r:Int,e=.returned (.int .i64 r)/\decide (r >= 0)=l.any (fun p=>p.q == m.blk))/\Below w.heap.size w w':=by
 have ct:=xrb w _ hb
 simp only at ct
 obtain⟨a0,cy,hv,dn,ia⟩:=h.form;have bJ:=fun W (hW:Below w.heap.size w W) i q (hi:l[i]?=some q)=>(show ∃g cap,v=.slice (some ⟨g,0,none⟩) l.length cap/\g<W.heap.size/\l.length<=cap/\cap<=maxLen/\W.cell? ⟨g,i,none⟩=some (nptr q.blk) from by
  obtain⟨g,cap,h1,h2,h3,h4,h5⟩:=h.at_ hi
  exact⟨g,cap,h1,by have:=hW.size;omega,h3,h4,(hW.cell (p:=⟨g,i,none⟩) h2).trans h5⟩)
 have gk:=fun W (hW:Below w.heap.size w W) q (hq:q∈l)=>(show Calls prog 193 #[nptr q.blk,.pointer (some ⟨bx,0,none⟩)] W fun e w'=>e=.returned (.bool (q.q == m.blk))/\Below W.heap.size W w' from by
  obtain⟨n,hn,e⟩:=eS q hq
  exact has1 ((h.works q hq).below hW (h.works q hq).lt) (hm.below hW) (hn.below hW) e ((hW.cell (p:=⟨bx,0,none⟩) ct).trans hb))
 obtain⟨n,hn⟩:∃n,n=l.length:=⟨_,rfl⟩;rw[<-hn]at hv bJ hl dn;have HN:Hid (n=l.length):=hn;clear hn;subst hv
 go_enter func222,ntmps222
 go_wp2
 go_loopw [8] (fun i wr=>∃k:Nat,k<=n/\i=.int .i64 k/\Below w.heap.size w wr/\(l.take k).any (fun p=>p.q == m.blk)=false) (fun i _=>n-(intOf i).toNat)
 case atStart=>exact⟨0,Nat.zero_le _,rfl,Below.refl _ _,by simp⟩
 case round =>
  obtain⟨k,hk,rfl,ah,ay⟩:=hrel;have my:Hid ((l.take k).any (fun p=>p.q == m.blk)=false):=ay;clear ay
  by_cases ak:k<n
  ·have bN:k<l.length:=by rw[<-HN.out];exact ak
   obtain⟨q,hq⟩:∃q,l[k]?=some q:=⟨_,xr1 bN⟩;obtain⟨g,cap,he,bK,cS,fl,hc⟩:=bJ _ ah k q hq;injection he with e1 _ e3;subst e1 e3;have ib:=xr2 hq;have hw:=gk _ ah q ib;have hT:l.take (k+1)=l.take k++[q]:=by
    rw[xrf bN];rw[xr1 bN]at hq;cases hq;rfl
   have qM:Hid ((l.take (k+1)).any (fun p=>p.q == m.blk)=(q.q == m.blk)):=by
    show _=_
    rw[hT,List.any_append,my.out];simp
   have x7:Hid ((q.q == m.blk)=true->l.any (fun p=>p.q == m.blk)=true):=fun ht=>by
    show _=true
    rw[xs0]
    exact⟨q,ib,ht⟩
   have ja:(k:Int)<n:=by omega
   have eM:(0:Int)<=k:=by omega
   unfold nptr at hc hw;clear hq bJ gk ib hT;generalize (q.q == m.blk)=bb at *
   cases bb
   ·go_wp2_with (go_at_call 193;refine hw.mono ?_;rintro e w1 ⟨rfl,aa⟩;have au:Below w.heap.size w w1:=qab ah aa)
    exact⟨⟨k+1,by omega,by go_num,au,qM.out⟩,by simp[intOf];omega⟩
   ·go_wp2_with (go_at_call 193;refine hw.mono ?_;rintro e w1 ⟨rfl,aa⟩;have au:Below w.heap.size w w1:=qab ah aa)
    go_ret
    exact⟨⟨(k:Int),rfl,by rw[x7.out (by simp)];simp⟩,au⟩
  ·have cx:l.take k=l:=xrd (by have:=HN.out;omega);have h1:Hid (l.any (fun p=>p.q == m.blk)=false):=by have:=my.out;rw[cx]at this;exact this
   go_wp2
   go_ret
   exact⟨⟨-1,rfl,by rw[h1.out];rfl⟩,ah⟩
theorem qht{w:World}(h:WRow w v l)(hl:l.length<=100)(hm:qag w m)(eS:∀p∈l,∃n,qag w n/\n.blk=p.q)(hb:w.cell? ⟨bx,0,none⟩=some (nptr m.blk)):
  Calls prog 194 #[v,.func (.func 193) #[] #[.pointer (some ⟨bx,0,none⟩)]] w fun e w'=>e=.returned (.bool (l.any (fun p=>p.q == m.blk)))/\Below w.heap.size w w':=by
 have hi:=qs0 h hl hm eS hb;obtain⟨a0,cy,rfl,dn,ia⟩:=h.form;generalize l.any (fun p=>p.q == m.blk)=bb at *;clear h eS
 go_enter func194,ntmps194
 go_wp2_with (go_at_call 222;refine hi.mono ?_;rintro e w1 ⟨⟨r,rfl,hr⟩,aa⟩)
 go_ret
 exact⟨by rw[<-hr];rfl,aa⟩
theorem qvd{nodes:List Node}{w:World}{bt:Nat}{vw va:Value}{ws as_:List Pw}(h:TwAt w nodes bt r ai vw va ws as_)(hm:m∈nodes):
  Calls prog 145 #[.pointer (some ⟨bt,1,none⟩),.pointer (some ⟨m.blk,0,none⟩)] w fun e w'=>e=.returned (.bool ((ws++as_).any (fun p=>p.q == m.blk)))/\Below w.heap.size w w':=by
 have cD:=h.bk.at_.lt;have a9:=h.bk.len;have pJ:=fun W (hW:Below w.heap.size w W) bx (hb:W.cell? ⟨bx,0,none⟩=some (nptr m.blk))=>qht (w:=W) (v:=vw) (l:=ws) ⟨qaf (T:=fun _=>False) h.bk.wrow (Keep.new hW) (fun _ _ e=>e),fun p hp=>(h.bk.works p (xr9 _ hp)).below hW (h.bk.works p (xr9 _ hp)).lt⟩ (by omega) ((h.ins m hm).below hW) (fun p hp=>by
  obtain⟨n,hn,e,_⟩:=h.lf p (xr9 _ hp)
  exact⟨n,(h.ins n hn).below hW,e⟩) hb
 have o7:=fun W (hW:Below w.heap.size w W) bx (hb:W.cell? ⟨bx,0,none⟩=some (nptr m.blk))=>qht (w:=W) (v:=va) (l:=as_) ⟨qaf (T:=fun _=>False) h.bk.arow (Keep.new hW) (fun _ _ e=>e),fun p hp=>(h.bk.works p (xra _ hp)).below hW (h.bk.works p (xra _ hp)).lt⟩ (by omega) ((h.ins m hm).below hW) (fun p hp=>by
  obtain⟨n,hn,e,_⟩:=h.lf p (xra _ hp)
  exact⟨n,(h.ins n hn).below hW,e⟩) hb
 have c2:w.cell? ⟨bt,2,none⟩=some vw:=h.bk.at_.cell 2;have c3:w.cell? ⟨bt,3,none⟩=some va:=h.bk.at_.cell 3;obtain⟨a1,q1,cV⟩:=qkq h.bk.wrow;obtain⟨a2,q2,sr⟩:=qkq h.bk.arow;rw[List.any_append];rw[cV]at c2 pJ;rw[sr]at c3 o7;generalize ws.any (fun p=>p.q == m.blk)=x1 at *;generalize as_.any (fun p=>p.q == m.blk)=x2 at *;generalize ws.length=n1 at *;generalize as_.length=n2 at *;have b3:Blk (w.alloc (.cells #[.pointer (some ⟨m.blk,0,none⟩)] 97)) w.heap.size 97 #[.pointer (some ⟨m.blk,0,none⟩)]:=Blk.new w 97 _;unfold nptr at pJ o7;generalize m.blk=mb at *;clear h cV sr
 cases x1
 ·go_enter func145,ntmps145
  go_wp2_with (first
   |(go_at_call 194;refine(pJ _ (by exact bel2) w.heap.size (Blk.cell (by exact blk2) 0)).mono ?_;clear pJ;rintro e w1 ⟨rfl,aa⟩;have au:Below w.heap.size w w1:=qab (by exact bel2) aa;have d3:=(au.cell (p:=⟨bt,3,none⟩) cD).trans c3;have At:=b3.below aa b3.lt)
   |(go_at_call 194;refine(o7 _ au w.heap.size (At.cell 0)).mono ?_;rintro e w2 ⟨rfl,ag⟩;have aP:Below w.heap.size w w2:=qab au ag))
  go_ret
  exact⟨rfl,aP⟩
 ·go_enter func145,ntmps145
  go_wp2_with (first
   |(go_at_call 194;refine(pJ _ (by exact bel2) w.heap.size (Blk.cell (by exact blk2) 0)).mono ?_;clear pJ;rintro e w1 ⟨rfl,aa⟩;have au:Below w.heap.size w w1:=qab (by exact bel2) aa))
  go_ret
  exact⟨rfl,au⟩
def qdl (nodes:List Node)(l:List Pw)(s:Bs):Int :=
 if qar s=false then 1 else if s=[] then 2 else match findKey nodes (qac s) with
 |none=>3
 |some n=>if (!(n.kids.length == 0)||l.any (fun p=>p.q == n.blk))=true then 9 else 0
theorem qlj{nodes:List Node}(T:Tree nodes){p:Node}(hp:p∈nodes):p.kids.length<=1000:=by
 obtain⟨ks,hk,hm,hs⟩:=T.kids p hp;have aD:(ks.map (·.key)).Nodup:=by
  have:(ks.map fun k=>qad k.key).Nodup:=hs.imp (fun {a b} h e=>by subst e;rw[show cmpB a a=0 from qdc a]at h;omega)
  rw[show(ks.map fun k=>qad k.key)=(ks.map (·.key)).map qad by simp]at this
  exact qb1 this
 have h1:∀x∈ks.map (·.key),x∈nodes.map (·.key):=by
  intro k cx;obtain⟨n,dp,rfl⟩:=xrq.1 cx
  exact xrq.2 ⟨n,((hm n).1 dp).1,rfl⟩
 have h2:=qdf aD h1;have h3:=T.len;rw[hk]
 simp at h2 ⊢;omega
theorem qew{nodes:List Node}(T0:Tree nodes){w:World}{bt:Nat}{vw va:Value}{ws as_:List Pw}(h:TwAt w nodes bt r ai vw va ws as_)(hr:r∈nodes)(a_:r.key=[])(s:ByteArray)(hs:s.size<=2000000):
  Calls prog 96 #[.pointer (some ⟨bt,0,none⟩),.string s] w fun e w'=>e=.returned (.int .i64 (qdl nodes (ws++as_) (bl s)))/\Below w.heap.size w w':=by
 have aA:=fun W=>qd1 s hs W
 rw[qk8]at aA;have cD:=h.bk.at_.lt;have bG:∀W,Below w.heap.size w W->W.cell? ⟨bt,0,none⟩=some (nptr r.blk):=fun W (hW:Below w.heap.size w W)=>(h.below hW).bk.at_.cell 0
 have aj:=fun W (hW:Below w.heap.size w W) v hv=>qcr T0 hr a_ s hs W (h.below hW).ins v hv
 have ir:=fun n (hn:n∈nodes) W (hW:Below w.heap.size w W)=>qqb ((h.below hW).ins n hn) (qlj T0 hn)
 have iz:=fun n (hn:n∈nodes) W (hW:Below w.heap.size w W)=>qvd (h.below hW) hn
 unfold nptr at bG;unfold qdl
 cases hv:qar (bl s)
 ·rw[hv]at aA;simp only[if_true]at aA ⊢;clear aj bG ir iz
  go_enter func96,ntmps96
  go_wp2_with (go_at_call 132;refine(aA _).mono ?_;rintro e w1 ⟨rfl,aa⟩)
  refine xrn (v:=.int .i64 1) (by simp[results,results96,go_sem]) rfl ⟨rfl,?_⟩
  exact qab (by exact bel2) aa
 rw[hv]at aA;simp only[Bool.true_eq_false,if_false]at aA ⊢
 by_cases h0:bl s=[]
 ·have hz:s=⟨#[]⟩:=qd8 (h0.trans qhs.symm);simp only[h0,if_true]at aA ⊢;clear aj bG ir iz;subst hz
  go_enter func96,ntmps96
  go_wp2_with (go_at_call 132;refine(aA _).mono ?_;rintro e w1 ⟨rfl,aa⟩)
  refine xrn (v:=.int .i64 2) (by simp[results,results96,go_sem]) rfl ⟨rfl,?_⟩
  exact qab (by exact bel2) aa
 simp only[h0,if_false]at aA ⊢
 cases hf:findKey nodes (qac (bl s)) with
 |none =>
  rw[hf]at aj;clear hf ir iz;unfold nptr at aj
  go_enter func96,ntmps96
  go_wp2_with (first
   |(go_at_call 132;refine(aA _).mono ?_;rintro e w1 ⟨rfl,aa⟩;have au:Below w.heap.size w w1:=qab (by exact bel2) aa;have gX:=bG w1 au)
   |(go_at_call 63;refine(aj _ au (.pointer none) rfl).mono ?_;rintro e w2 ⟨rfl,ag⟩;have aP:Below w.heap.size w w2:=qab au ag))
  refine xrn (v:=.int .i64 3) (by simp[results,results96,go_sem]) rfl ⟨rfl,?_⟩
  exact aP
 |some n =>
  obtain⟨hn,bX⟩:=qan hf;rw[hf]at aj
  replace ir:=ir n hn
  replace iz:=iz n hn
  clear hf;simp only[nptr]at aj
  dsimp only
  generalize (n.kids.length == 0)=k0 at *;generalize (ws++as_).any (fun p=>p.q == n.blk)=x0 at *;clear h
  cases k0
  ·simp only[Bool.not_false,Bool.true_or,if_true];clear iz
   go_enter func96,ntmps96
   go_wp2_with (first
    |(go_at_call 132;refine(aA _).mono ?_;rintro e w1 ⟨rfl,aa⟩;have au:Below w.heap.size w w1:=qab (by exact bel2) aa;have gX:=bG w1 au)
    |(go_at_call 63;refine(aj _ au (.pointer (some ⟨n.blk,0,none⟩)) rfl).mono ?_;rintro e w2 ⟨rfl,ag⟩;have aP:Below w.heap.size w w2:=qab au ag)
    |(go_at_call 144;refine(ir _ aP).mono ?_;rintro e w3 ⟨rfl,gj⟩;subst gj))
   refine xrn (v:=.int .i64 9) (by simp[results,results96,go_sem]) rfl ⟨rfl,?_⟩
   exact aP
  ·simp only[Bool.not_true,Bool.false_or]
   cases x0
   ·simp only[Bool.false_eq_true,if_false]
    go_enter func96,ntmps96
    go_wp2_with (first
     |(go_at_call 132;refine(aA _).mono ?_;rintro e w1 ⟨rfl,aa⟩;have au:Below w.heap.size w w1:=qab (by exact bel2) aa;have gX:=bG w1 au)
     |(go_at_call 63;refine(aj _ au (.pointer (some ⟨n.blk,0,none⟩)) rfl).mono ?_;rintro e w2 ⟨rfl,ag⟩;have aP:Below w.heap.size w w2:=qab au ag)
     |(go_at_call 144;refine(ir _ aP).mono ?_;rintro e w3 ⟨rfl,gj⟩;subst gj)
     |(go_at_call 145;refine(iz _ aP).mono ?_;rintro e w4 ⟨rfl,bf⟩;have dL:Below w.heap.size w w4:=qab aP bf))
    refine xrn (v:=.int .i64 0) (by simp[results,results96,go_sem]) rfl ⟨rfl,?_⟩
    exact dL
   ·simp only[if_true]
    go_enter func96,ntmps96
    go_wp2_with (first
     |(go_at_call 132;refine(aA _).mono ?_;rintro e w1 ⟨rfl,aa⟩;have au:Below w.heap.size w w1:=qab (by exact bel2) aa;have gX:=bG w1 au)
     |(go_at_call 63;refine(aj _ au (.pointer (some ⟨n.blk,0,none⟩)) rfl).mono ?_;rintro e w2 ⟨rfl,ag⟩;have aP:Below w.heap.size w w2:=qab au ag)
     |(go_at_call 144;refine(ir _ aP).mono ?_;rintro e w3 ⟨rfl,gj⟩;subst gj)
     |(go_at_call 145;refine(iz _ aP).mono ?_;rintro e w4 ⟨rfl,bf⟩;have dL:Below w.heap.size w w4:=qab aP bf))
    refine xrn (v:=.int .i64 9) (by simp[results,results96,go_sem]) rfl ⟨rfl,?_⟩
    exact dL
theorem qu1{a b:Bs}(h:cmpB a b<0):¬cmpB b a<0:=fun h2=>by
 have:cmpB a b = - cmpB b a:=qk5 a b
 omega
theorem qsq(hs:ns.Pairwise fun a b=>cmpB a b<0){x:Bs}(hi:ns[i]?=some x){at_:Nat}(h:Found (ns.take i++ns.drop (i+1)) x at_ th):at_=i:=by
 obtain⟨h1,h2,h3,_⟩:=h;have ep:=(xr0.1 hi).1;have mh:ns[i]=x:=by rw[xr1 ep]at hi;injection hi
 have a9:(ns.take i++ns.drop (i+1)).length=ns.length-1:=by simp;omega
 rcases Nat.lt_trichotomy at_ i with h5|h5|h5
 ·have ak:at_<ns.length:=by omega
  have e:(ns.take i++ns.drop (i+1))[at_]?=some ns[at_]:=by
   rw[xrp (by simp;omega),List.getElem?_take_of_lt h5,xr1 ak]
  have h6:=h3 at_ _ (Nat.le_refl _) e;have h7:=List.pairwise_iff_getElem.1 hs at_ i ak ep h5;rw[mh]at h7
  omega
 ·exact h5
 ·have ak:i+1<ns.length:=by omega
  have e:(ns.take i++ns.drop (i+1))[i]?=some ns[i+1]:=by
   rw[xro (by simp;omega),List.getElem?_drop];rw[show i+1+(i-(ns.take i).length)=i+1 by simp;omega];rw[xr1 ak]
  have h6:=h2 i _ h5 e;have h7:=List.pairwise_iff_getElem.1 hs i (i+1) ep ak (by omega);rw[mh]at h7
  exact absurd h6 (qu1 h7)
theorem qpp{nodes:List Node}(T:Tree nodes){p:Node}(hp:p∈nodes)(q:Node)(i:Nat)(sl:Value):(remN nodes q p i sl).map Node.ent=delL (nodes.map Node.ent) q.key:=by
 unfold remN delL;rw[List.map_map,List.filter_map]
 refine List.map_congr_left fun n hn=>?_
 simp only[Function.comp]
 by_cases h:n.key=p.key
 ·rw[if_pos h]
  have:n=p:=T.inj n (xrr.1 hn).1 p hp h
  rw[this];rfl
 ·rw[if_neg h]
def brkE (L:List Ent)(Ws:List Wk):Int:=if qct L Ws=true then 11 else 0
theorem qzx{w:World}{nm:ByteArray}{P:World->Prop}(b1:Blk w gp 97 #[.pointer (some ⟨bp,0,none⟩)])(b2:Blk w gn 9 #[.string nm])(b3:Blk w gq 97 #[.pointer (some ⟨bq,0,none⟩)])
  (hh:Calls prog 82 #[.pointer (some ⟨bp,0,none⟩),.string nm,.pointer (some ⟨bq,0,none⟩)] w fun e w'=>e=.returned (.tuple #[])/\P w') :
  Calls prog 98 #[.pointer (some ⟨gp,0,none⟩),.pointer (some ⟨gn,0,none⟩),.pointer (some ⟨gq,0,none⟩)] w fun e w'=>e=.returned (.tuple #[])/\P w':=by
 have c1:=b1.cell 0;have c2:=b2.cell 0;have c3:=b3.cell 0;simp only[List.getElem?_toArray,List.getElem?_cons_zero]at c1 c2 c3
 go_enter func98,ntmps98
 go_wp2_with (go_at_call 82;refine hh.mono ?_;rintro e w1 ⟨rfl,hP⟩)
 go_end0
 exact⟨rfl,hP⟩
section
variable {τ : Nat->Tag}{t:Nat}{w:World}{bt:Nat}{nodes:List Node}{last:Int}{vw va:Value}{ws as_:List Pw}
theorem qjr(h:qa2 τ t w bt nodes last vw va ws as_)(R:Rel nodes Ws ws as_)(hW:Wks Ws){p:Node}(hq:q∈nodes)(hp:p∈nodes){x:Bs}(dK:q.key=p.key++[x])(di:q.up=some p.blk)(jU:q.kids=[])
  (ay:∀y∈ws++as_,y.q≠q.blk) (b1:Blk w gp 97 #[.pointer (some ⟨p.blk,0,none⟩)]) (b2:Blk w gn 9 #[.string (sb x)]) (b3:Blk w gq 97 #[.pointer (some ⟨q.blk,0,none⟩)]) (d1:¬TchQ p q gp) (d2:¬TchQ p q gn) (d3:¬TchQ p q gq) :
  Calls prog 87 #[.pointer (some ⟨bt,0,none⟩),.func (.func 97) #[.pointer (some ⟨q.blk,0,none⟩)] #[],.func (.func 98) #[] #[.pointer (some ⟨gp,0,none⟩),.pointer (some ⟨gn,0,none⟩),.pointer (some ⟨gq,0,none⟩)]] w
   fun e w'=>e=.returned (.int .i64 (brkE (delL (nodes.map Node.ent) q.key) Ws))/\(brkE (delL (nodes.map Node.ent) q.key) Ws=0->∃i sl,qa2 (qcq τ w.heap.size) t w' bt (remN nodes q p i sl) last vw va ws as_/\Keep (TchQ p q) w w')/\(brkE (delL (nodes.map Node.ent) q.key) Ws≠0->∃sl,BkM w p q sl w'):=by
 have T:=h.pr.tree;obtain⟨ks,hk,hm,hs⟩:=T.kids p hp;obtain⟨i,hi⟩:=xre ((hm q).2 ⟨hq,x,dK⟩);have aW:q≠p:=fun e=>by rw[e]at dK;have:=congrArg List.length dK;simp at this
 have jr:qad q.key=x:=by rw[dK];exact qaq _ _
 have nO:ks.length<=1000:=by have:=qlj T hp;rw[hk]at this;simpa using this
 have hK:∀W,Below w.heap.size w W->qf0 W p ks:=fun W aX=>⟨hk,fun k cx=>(h.pr.ins k ((hm k).1 cx).1).below aX,hs,nO⟩
 have A1:=h.apart hp hq;have A2:=h.apart hq hp;have A3:=h.apart hp hp;have A4:=h.apart hq hq;have dU:=(h.pr.ins p hp).lt;have jd:=(h.pr.ins q hq).lt;have bK:∀g,p.sl.ownBlock=some g->g<w.heap.size:=fun g hg=>((h.pr.ins p hp).row.lt g hg).2
 have Co:∀g,q.sl.ownBlock=some g->g<w.heap.size:=fun g hg=>((h.pr.ins q hq).row.lt g hg).2
 have iL:∀b,TchQ p q b->b<w.heap.size:=fun b hb=>by
  rcases hb with rfl|rfl|e
  ·exact dU
  ·exact jd
  ·exact bK b e
 have nX:∀sl W1,LvM w p q i sl W1->qa2 (qcq τ w.heap.size) t W1 bt (remN nodes q p i sl) last vw va ws as_:=fun sl W1 M=>h.left hq hp dK jU hk hm hs hi ay M
 have iC:∀sl W1 W2,LvM w p q i sl W1->Keep (fun b=>w.heap.size<=b) W1 W2->LvM w p q i sl W2:=fun sl W1 W2 M aY=>by
  refine⟨M.own,M.par.keep aY (fun e=>by have e':w.heap.size<=p.blk:=e;omega) (fun g hg e=>?_),M.kid.keep aY (fun e=>by have e':w.heap.size<=q.blk:=e;omega) (fun g hg e=>?_),M.keep.qbm aY (fun b hb e=>by omega)⟩
  ·have hg:sl.ownBlock=some g:=hg;rw[M.own]at hg
   have:=bK g hg;omega
  ·have:=Co g hg;omega
 refine qr4 (M1:=fun W1=>∃sl,LvM w p q i sl W1) (M2:=fun w'=>∃i sl,qa2 (qcq τ w.heap.size) t w' bt (remN nodes q p i sl) last vw va ws as_/\Keep (TchQ p q) w w') (M3:=fun w'=>∃sl,BkM w p q sl w') h.lts.1 (fun W1 hb=>?_) (fun W1 hM=>?_) (fun _ W1 W2 hM hz aY=>?_) (fun _ W1 W2 hM hz aY=>?_)
 ·refine(qmx ((h.pr.ins p hp).below hb) ((h.pr.ins q hq).below hb) (hK W1 hb) hi di (A1.2.1 (fun e=>aW e.symm)) A3.1 A1.1 A4.1 A2.1 (A1.2.2 (fun e=>aW e.symm))).mono ?_
  rintro e w' ⟨rfl,sl,e1,e2,e3,e4⟩
  exact⟨rfl,e4.mono iL,sl,⟨e1,e2,e3,(Keep.new hb).trans e4⟩⟩
 ·obtain⟨sl,M⟩:=hM;have P:=nX sl W1 M;obtain⟨r,hr,hb⟩:=P.bk;obtain⟨eF,a_⟩:=qbp P.pr.tree hr
  have:=qd0 P.pr.tree P.pr.qdk hb eF a_
  rw[qhi P.pr.tree (Ws:=Ws) (ws:=ws) ⟨R.w,R.a,hb.lf⟩ hW,qpp T hp]at this
  exact this
 ·obtain⟨sl,M⟩:=hM;have M2:=iC sl W1 W2 M aY
  exact⟨i,sl,nX sl W2 M2,M2.keep⟩
 ·obtain⟨sl,M⟩:=hM;have M2:=iC sl W1 W2 M aY;have gr:=qlk hs;have aD:(ks.take i++ks.drop (i+1)).Sublist ks:=by
   conv=>rhs;rw[<-List.take_append_drop i ks]
   exact List.Sublist.append (List.Sublist.refl _) (List.drop_sublist_drop_left ks (Nat.le_succ i))
  have K2:qf0 W2 (p.qb6 i sl) (ks.take i++ks.drop (i+1)):=by
   refine⟨?_,fun k cx=>?_,hs.sublist (aD.map _),Nat.le_trans aD.length_le nO⟩
   ·show p.kids.take i++p.kids.drop (i+1)=_
    rw[hk,List.map_append,List.map_take,List.map_drop]
   ·obtain⟨g1,g2⟩:=(qcw gr hi k).1 cx;obtain⟨g3,y,g4⟩:=(hm k).1 g1
    exact h.other hq hp g3 (fun e=>by rw[e]at g4;have:=congrArg List.length g4;simp at this) g2 M2.keep
  have bQ:qbr x=true:=qby (T.ok q hq).1 (by rw[dK];simp);have wV:∀k∈ks.take i++ks.drop (i+1),qad k.key≠x:=fun k cx e=>by
   obtain⟨g1,g2⟩:=(qcw gr hi k).1 cx;obtain⟨g3,y,g4⟩:=(hm k).1 g1;rw[g4,qaq]at e
   exact g2 (T.inj k g3 q hq (by rw[g4,dK,e]))
  have iy:=qpc M2.par M2.kid K2 x bQ wV (k':=q.key) jr (fun e=>A2.2.1 aW e) (by
   intro e;have e:sl.ownBlock=some q.blk:=e;rw[M2.own]at e;exact A1.1 e) (by
   intro e;have e:sl.ownBlock=some p.blk:=e;rw[M2.own]at e;exact A3.1 e) A4.1 A2.1 (by
   intro g hg;have hg:sl.ownBlock=some g:=hg;rw[M2.own]at hg;exact A1.2.2 (fun e=>aW e.symm) g hg)
  have Aq:=(b1.keep M.keep d1).keep aY (by have:=b1.lt;omega);have Ar:=(b2.keep M.keep d2).keep aY (by have:=b2.lt;omega);have As:=(b3.keep M.keep d3).keep aY (by have:=b3.lt;omega)
  refine qzx (P:=fun w'=>Keep (fun b=>b<w.heap.size) W2 w'/\∃sl,BkM w p q sl w') Aq Ar As (iy.mono ?_)
  rintro e w' ⟨rfl,at_,aR,hF,f1,f2,f3,f4⟩
  have bJ:at_=i:=by
   rw[List.map_append,List.map_take,List.map_drop]at hF
   exact qsq hs (by rw[xrs,hi,<- jr];rfl) hF
  subst bJ;have yw:Keep (TchQ p q) W2 w':=f3.mono (fun b e=>by
   rcases e with e|e|e
   ·exact .inl e
   ·exact .inr (.inl e)
   ·have e:sl.ownBlock=some b:=e;rw[M2.own]at e;exact .inr (.inr e))
  refine⟨rfl,yw.mono iL,aR,⟨?_,?_,M2.keep.trans yw,?_⟩⟩
  ·have e:(p.qb6 at_ sl).qd4 at_ q.loose.blk aR={p with sl:=aR}:=by
    have fO:p.kids[at_]?=some q.blk:=by rw[hk,xrs,hi];rfl
    have hl:=(xr0.1 fO).1;unfold Node.qd4 Node.qb6 Node.loose;simp only[Node.mk.injEq,true_and];rw[List.take_append_of_le_length (by simp;omega),List.take_take,Nat.min_self,List.drop_append_of_le_length (by simp;omega),List.drop_take,Nat.sub_self,List.take_zero,List.nil_append];rw[xr1 hl]at fO;injection fO with fO;rw[<-fO,<- List.drop_eq_getElem_cons hl,List.take_append_drop]
   rw[<-e];exact f1
  ·have e:({q.loose with key:=q.key,up:=some (p.qb6 at_ sl).blk}:Node)=q:=by
    unfold Node.loose Node.qb6;rw[<-di]
   rw[<-e];exact f2
  ·rcases f4 with e|⟨g,e,hg⟩
   ·left
    have e:aR.ownBlock=sl.ownBlock:=e;rw[e,M2.own]
   ·exact .inr ⟨g,e,by have:=M2.keep.size;omega⟩
end
theorem qgc{nodes:List Node}{s:Bs}(h:qdl nodes l s=0):qar s=true/\s≠[]/\∃n,findKey nodes (qac s)=some n/\n.kids=[]/\∀y∈l,y.q≠n.blk:=by
 unfold qdl at h
 by_cases h1:qar s=false
 ·rw[if_pos h1]at h;cases h
 ·rw[if_neg h1]at h
  by_cases h2:s=[]
  ·rw[if_pos h2]at h;cases h
  ·rw[if_neg h2]at h
   cases h3:findKey nodes (qac s) with
   |none=>rw[h3]at h;cases h
   |some n =>
    rw[h3]at h
    simp only at h
    by_cases h4:(!(n.kids.length == 0)||l.any (fun p=>p.q == n.blk))=true
    ·rw[if_pos h4]at h;cases h
    ·refine⟨by simpa using h1,h2,n,rfl,?_,fun y hy e=>h4 ?_⟩
     ·simp only[Bool.or_eq_true,Bool.not_eq_true',beq_eq_false_iff_ne,ne_eq,not_or,Decidable.not_not]at h4
      exact List.eq_nil_of_length_eq_zero h4.1
     ·rw[Bool.or_eq_true,xs0]
      exact .inr ⟨y,hy,by simpa using e⟩
section
variable {τ : Nat->Tag}{t:Nat}{w:World}{bt:Nat}{nodes:List Node}{last:Int}{vw va:Value}{ws as_:List Pw}
theorem qtt(h:qa2 τ t w bt nodes last vw va ws as_)(s:ByteArray)(hs:s.size<=2000000)(he:qdl nodes (ws++as_) (bl s)=er)(h0:er≠0):
  Calls prog 58 #[.pointer (some ⟨bt,0,none⟩),.string s] w fun e w'=>e=.returned (.int .i64 er)/\Below w.heap.size w w':=by
 obtain⟨r,eT,hb⟩:=h.bk;obtain⟨hr,a_⟩:=qbp h.pr.tree eT;have cr:=qew h.pr.tree hb hr a_ s hs;rw[he]at cr;have aW:(er != 0)=true:=by simpa using h0
 clear h he hb
 go_enter func58,ntmps58
 go_wp2_with (go_at_call 96;refine cr.mono ?_;rintro e w1 ⟨rfl,aa⟩)
 exact xrn (v:=.int .i64 er) (by simp[results,results58,go_sem]) rfl ⟨rfl,aa⟩
theorem PMid.gone(h:qa2 τ t w bt nodes last vw va ws as_){p:Node}(hq:q∈nodes)(hp:p∈nodes)(hP:qa2 (qcq τ w.heap.size) t w' bt (remN nodes q p i sl) last vw va ws as_)(hk:Keep (TchQ p q) w w'):PMid τ t w bt (remN nodes q p i sl) last vw va ws as_ w' :=
 ⟨_,fun b hb=>qa5 hb,fun b hb=>.inl (qeo hb),hP,hk.qkm (fun b hb e=>⟨hb,(h.tch hq hp b e).2⟩)⟩
theorem PMid.qz3(h:qa2 τ t w bt nodes last vw va ws as_){p:Node}(hq:q∈nodes)(hp:p∈nodes)(aW:q≠p)(M:BkM w p q sl w'):PMid τ t w bt (reSl nodes p sl) last vw va ws as_ w':=by
 obtain⟨τ',m1,m2,m3⟩:=h.back hq hp aW M
 exact⟨τ',m1,m2,m3,M.keep.qkm (fun b hb e=>⟨hb,(h.tch hq hp b e).2⟩)⟩
theorem qtu(h:qa2 τ t w bt nodes last vw va ws as_)(R:Rel nodes Ws ws as_)(hW:Wks Ws)(s:ByteArray)(hs:s.size<=2000000)(he:qdl nodes (ws++as_) (bl s)=0)(hf:findKey nodes (qac (bl s))=some q):
  Calls prog 58 #[.pointer (some ⟨bt,0,none⟩),.string s] w fun e w'=>e=.returned (.int .i64 (brkE (delL (nodes.map Node.ent) q.key) Ws))/\(brkE (delL (nodes.map Node.ent) q.key) Ws=0->∃p∈nodes,∃i sl,PMid τ t w bt (remN nodes q p i sl) last vw va ws as_ w')/\(brkE (delL (nodes.map Node.ent) q.key) Ws≠0->∃p∈nodes,∃sl,PMid τ t w bt (reSl nodes p sl) last vw va ws as_ w'):=by
 have T:=h.pr.tree;obtain⟨r,eT,hb⟩:=h.bk;obtain⟨hr,a_⟩:=qbp T eT;obtain⟨hv,dw,n',kV,fm,ay⟩:=qgc he;rw[hf]at kV;cases kV;obtain⟨hq,cT⟩:=qan hf;have cr:=qew T hb hr a_ s hs;rw[he]at cr;have aj:=fun W (hW:Below w.heap.size w W) v hv=>qcr T hr a_ s hs W (hb.below hW).ins v hv
 rw[hf]at aj;have pc:q.key≠[]:=by rw[cT];intro e;exact dw (qes e)
 obtain⟨k,x,h_⟩:∃k x,q.key=k++[x]:=⟨q.key.dropLast,q.key.getLast pc,(List.dropLast_concat_getLast pc).symm⟩;obtain⟨p,hp,dS,dU,di⟩:=T.par q hq k x h_;have dK:q.key=p.key++[x]:=by rw[dS];exact h_
 have aW:q≠p:=fun e=>by rw[e]at dK;have:=congrArg List.length dK;simp at this
 have d_:=fun W (hW:Below w.heap.size w W)=>qjy ((h.pr.ins q hq).below hW)
 rw[di]at d_;have gg:∀W,Calls prog 81 #[.string s] W fun e w'=>(∃a:ByteArray,e=.returned (.tuple #[.string a,.string (sb x)]))/\Below W.heap.size W w':=fun W=>(qe6 s hs hv dw W).mono fun e w' ml=>by
  obtain⟨⟨a,b,rfl,h1,_⟩,h2⟩:=ml
  refine⟨⟨a,?_⟩,h2⟩
  rw[<-cT,h_]at h1;have ct:x=bl b:=(qc5 h1).2
  have:b=sb x:=qd8 (by rw[qbs];exact ct.symm)
  rw[this]
 have iL:∀b,TchQ p q b->b<w.heap.size:=fun b bh=>by
  rcases bh with rfl|rfl|e
  ·exact(h.pr.ins p hp).lt
  ·exact(h.pr.ins q hq).lt
  ·exact((h.pr.ins p hp).row.lt b e).2
 have bJ:∀W,Below w.heap.size w W->∀gp gn gq,Blk W gp 97 #[.pointer (some ⟨p.blk,0,none⟩)]->Blk W gn 9 #[.string (sb x)]->Blk W gq 97 #[.pointer (some ⟨q.blk,0,none⟩)]->w.heap.size<=gp->w.heap.size<=gn->w.heap.size<=gq ->
   Calls prog 87 #[.pointer (some ⟨bt,0,none⟩),.func (.func 97) #[.pointer (some ⟨q.blk,0,none⟩)] #[],.func (.func 98) #[] #[.pointer (some ⟨gp,0,none⟩),.pointer (some ⟨gn,0,none⟩),.pointer (some ⟨gq,0,none⟩)]] W
   fun e w'=>e=.returned (.int .i64 (brkE (delL (nodes.map Node.ent) q.key) Ws))/\(brkE (delL (nodes.map Node.ent) q.key) Ws=0->∃p∈nodes,∃i sl,PMid τ t w bt (remN nodes q p i sl) last vw va ws as_ w')/\(brkE (delL (nodes.map Node.ent) q.key) Ws≠0->∃p∈nodes,∃sl,PMid τ t w bt (reSl nodes p sl) last vw va ws as_ w'):=fun W aX gp gn gq b1 b2 b3 e1 e2 e3=>by
  have h6:=h.keep (τ':=qcq τ w.heap.size) (T:=fun _=>False) (Keep.new aX) (fun _ _ h=>h.elim) (fun b hb=>qa5 hb)
  refine(qjr h6 R hW hq hp dK di fm ay b1 b2 b3 (fun e=>by have:=iL _ e;omega) (fun e=>by have:=iL _ e;omega) (fun e=>by have:=iL _ e;omega)).mono ?_
  rintro e w' ⟨rfl,g1,g2⟩
  refine⟨rfl,fun e=>?_,fun e=>?_⟩
  ·obtain⟨i,sl,g3,g4⟩:=g1 e
   exact⟨p,hp,i,sl,PMid.from aX (PMid.gone h6 hq hp g3 g4)⟩
  ·obtain⟨sl,g3⟩:=g2 e
   exact⟨p,hp,sl,PMid.from aX (PMid.qz3 h6 hq hp aW g3)⟩
 have bG:∀W,Below w.heap.size w W->W.cell? ⟨bt,0,none⟩=some (nptr r.blk):=fun W (hW:Below w.heap.size w W)=>(hb.below hW).bk.at_.cell 0
 generalize brkE (delL (nodes.map Node.ent) q.key) Ws=er at bJ ⊢;have HQ:∃Q:World->Prop,Q=fun w'=>(er=0->∃p∈nodes,∃i sl,PMid τ t w bt (remN nodes q p i sl) last vw va ws as_ w')/\(er≠0->∃p∈nodes,∃sl,PMid τ t w bt (reSl nodes p sl) last vw va ws as_ w'):=⟨_,rfl⟩
 obtain⟨Q,hQ⟩:=HQ;have bJ:∀W,Below w.heap.size w W->∀gp gn gq,Blk W gp 97 #[.pointer (some ⟨p.blk,0,none⟩)]->Blk W gn 9 #[.string (sb x)]->Blk W gq 97 #[.pointer (some ⟨q.blk,0,none⟩)]->w.heap.size<=gp->w.heap.size<=gn->w.heap.size<=gq ->
   Calls prog 87 #[.pointer (some ⟨bt,0,none⟩),.func (.func 97) #[.pointer (some ⟨q.blk,0,none⟩)] #[],.func (.func 98) #[] #[.pointer (some ⟨gp,0,none⟩),.pointer (some ⟨gn,0,none⟩),.pointer (some ⟨gq,0,none⟩)]] W fun e w'=>e=.returned (.int .i64 er)/\Q w':=by rw[hQ];exact bJ
 suffices hh:Calls prog 58 #[.pointer (some ⟨bt,0,none⟩),.string s] w fun e w'=>e=.returned (.int .i64 er)/\Q w' by rw[hQ]at hh;exact hh
 have jL:∀(fn:Fn) (first cap:Array Value) (w:World),(Instr.makeFunc fn first cap).run prog w=.ok (.func fn first cap) w:=fun _ _ _ _=>rfl
 have cD:=hb.bk.at_.lt;simp only[nptr,uptr,Option.map_some]at bG aj d_;clear hQ h he hf R hb h_ di dS dK cT ay hq hp;generalize p.blk=bp at *;generalize q.blk=bq at *;generalize r.blk=br at *
 go_enter func58,ntmps58
 go_upto_region 7 with (first
  |(go_at_call 96;refine cr.mono ?_;rintro e w1 ⟨rfl,au⟩;have gX:=bG w1 au)
  |(go_at_call 63;refine(aj _ au (.pointer (some ⟨bq,0,none⟩)) rfl).mono ?_;rintro e w2 ⟨rfl,ag⟩;have aP:Below w.heap.size w w2:=qab au ag;have fq:=aP.size;have uI:Blk (w2.alloc (.cells #[.pointer (some ⟨bq,0,none⟩)] 97)) w2.heap.size 97 #[.pointer (some ⟨bq,0,none⟩)]:=Blk.new w2 97 _)
  |(go_at_call 92;refine(d_ _ (by exact bel2)).mono ?_;rintro e w3 ⟨rfl,gj⟩;subst gj)
  |(go_at_call 81;refine(gg _).mono ?_;rintro e w5 ⟨⟨sa,rfl⟩,bE⟩;have dE:Below w.heap.size w w5:=qab (by exact bel2) bE;have yp:Blk w5 w2.heap.size 97 #[.pointer (some ⟨bq,0,none⟩)]:=Blk.below (by exact blk2) bE (by simp;omega);have ym:Blk w5 (w2.heap.size+1) 97 #[.pointer (some ⟨bp,0,none⟩)]:=Blk.below (by exact blk2) bE (by simp);have CG:=dE.size;have CC:=yp.lt;have CD:=ym.lt))
 have mC:Below w.heap.size w (w5.alloc (.cells #[.string (sb x)] 9)):=by exact bel2
 have uJ:=yp.alloc (.cells #[.string (sb x)] 9);have yn:=ym.alloc (.cells #[.string (sb x)] 9);have yl:Blk (w5.alloc (.cells #[.string (sb x)] 9)) w5.heap.size 9 #[.string (sb x)]:=Blk.new w5 9 _;have oy:=bJ _ mC _ _ _ yn yl uJ (by omega) (by omega) (by omega);have A9:=uJ.cell 0;simp only[List.getElem?_toArray,List.getElem?_cons_zero]at A9;clear bJ uJ yn yl
 go_wp2_with (first
  |(go_at_call 87;refine oy.mono ?_;rintro e w9 ⟨rfl,hM⟩))
 exact xrn (v:=.int .i64 er) (by simp[results,results58,go_sem]) rfl ⟨rfl,hM⟩
end
theorem qsa{w:World}{n:Nat}(h:Below w.heap.size w W)(hb:Below n W w1)(hn:w.heap.size<=n:=by omega):Below w.heap.size w w1:=h.trans (hb.mono hn)
theorem qok{w:World}{bt:Nat}(s s2:ByteArray)(bG:∀W,Below w.heap.size w W->W.cell? ⟨bt,0,none⟩=some (.pointer (some ⟨br,0,none⟩)))
  (aA:∀W gb,Blk W gb 9 #[.string s2]->w.heap.size<=gb->Calls prog 132 #[.string s,.slice (some ⟨gb,0,none⟩) 1 1] W fun e w'=>e=.returned (.int .i64 0)/\Below w.heap.size W w')
  {fv:ByteArray->Value} (hf:∀W fQ,Below w.heap.size w W->fQ=s\/fQ=s2->Calls prog 63 #[.pointer (some ⟨br,0,none⟩),.string fQ] W fun e w'=>e=.returned (fv fQ)/\Below W.heap.size W w') (cR:fv s=v1) (et:fv s2=v2)
  {x:Bs} (gg:∀W,Calls prog 81 #[.string s] W fun e w'=>(∃a:ByteArray,e=.returned (.tuple #[.string a,.string (sb x)]))/\Below W.heap.size W w')
  (hc:v1=.pointer (some ⟨bq,0,none⟩)->v2=.pointer (some ⟨bt2,0,none⟩)->(∀W,Below w.heap.size w W->Calls prog 105 #[.pointer (some ⟨bt2,0,none⟩)] W fun e w'=>e=.returned (.bool l1)/\w'=W)/\(∀W,Below w.heap.size w W->Calls prog 142 #[.pointer (some ⟨bt2,0,none⟩),.pointer (some ⟨bq,0,none⟩)] W fun e w'=>e=.returned (.bool l2)/\Below W.heap.size W w')/\(∀W,Below w.heap.size w W->Calls prog 63 #[.pointer (some ⟨bt2,0,none⟩),.string (sb x)] W fun e w'=>e=.returned v3/\Below W.heap.size W w')/\(∀W,Below w.heap.size w W->Calls prog 143 #[.pointer (some ⟨bq,0,none⟩),.pointer (some ⟨bt2,0,none⟩)] W fun e w'=>e=.returned (.bool l4)/\Below W.heap.size W w'))
  (H:(v1=.pointer none/\er=3)\/(v1=.pointer (some ⟨bq,0,none⟩)/\v2=.pointer none/\er=3)\/(v1=.pointer (some ⟨bq,0,none⟩)/\v2=.pointer (some ⟨bt2,0,none⟩)/\((l1=true/\er=5)\/(l1=false/\l2=true/\er=10)\/(l1=false/\l2=false/\(∃k9,v3=.pointer (some ⟨k9,0,none⟩))/\er=4)\/(l1=false/\l2=false/\v3=.pointer none/\l4=true/\er=8)\/(l1=false/\l2=false/\v3=.pointer none/\l4=false/\er=0)))) :
  Calls prog 91 #[.pointer (some ⟨bt,0,none⟩),.string s,.string s2] w fun e w'=>e=.returned (.int .i64 er)/\Below w.heap.size w w':=by
 go_enter func91,ntmps91
 go_upto_region 4 with (first
    |(go_at_call 132;refine(aA _ _ (by exact blk2) (Nat.le_refl _)).mono ?_;rintro e w1 ⟨rfl,aa⟩;have au:Below w.heap.size w w1:=qsa (by exact bel2) aa;have gX:=bG w1 au))
 go_cut [8,9] from 19 to 30 (fun x1 x2 wx=>x1=v1/\x2=v2/\Below w.heap.size w wx)
 case first =>
  clear hc H
  go_region_held3 (fun w'=>w'.cell? ⟨bt,0,none⟩=some (.pointer (some ⟨br,0,none⟩))) (first|go_keep|exact bG _ (by exact bel2))
   (first
   |(go_at_call 63;refine(hf _ _ (by exact bel2) (by first|exact .inl rfl|exact .inr rfl)).mono ?_;rintro e w2 ⟨rfl,ag⟩;have aP:Below w.heap.size w w2:=qab (by exact bel2) ag;have ub:=bG w2 aP))
  all_goals go_wp2_with fail
  all_goals go_meet
  all_goals exact⟨by first|rfl|exact cR,by first|rfl|exact et,by exact bel2⟩
 case rest =>
  obtain⟨rfl,rfl,dF⟩:=hcut;clear cR et hf aA
  rcases H with ⟨rfl,rfl⟩|⟨rfl,rfl,rfl⟩|⟨rfl,rfl,H⟩
  rotate_left 2
  ·obtain⟨aZ,bD,rf,tM⟩:=hc rfl rfl;clear hc
   rcases H with ⟨rfl,rfl⟩|⟨rfl,rfl,rfl⟩|⟨rfl,rfl,⟨k9,rfl⟩,rfl⟩|⟨rfl,rfl,rfl,rfl,rfl⟩|⟨rfl,rfl,rfl,rfl,rfl⟩
   all_goals
    go_wp2_with (first
     |(go_at_call 81;refine(gg _).mono ?_;rintro e w5 ⟨⟨sa,rfl⟩,bE⟩;have dE:Below w.heap.size w w5:=qab dF bE)
     |(go_at_call 105;refine(aZ _ dE).mono ?_;rintro e w6 ⟨rfl,Cz⟩;subst Cz)
     |(go_at_call 142;refine(bD _ dE).mono ?_;rintro e w7 ⟨rfl,vJ⟩;have pH:Below w.heap.size w w7:=qab dE vJ)
     |(go_at_call 63;refine(rf _ pH).mono ?_;rintro e w8 ⟨rfl,Bt⟩;have tB:Below w.heap.size w w8:=qab pH Bt)
     |(go_at_call 143;refine(tM _ tB).mono ?_;rintro e w9 ⟨rfl,ed⟩;have kC:Below w.heap.size w w9:=qab tB ed))
    exact xrn (by simp[results,results91,go_sem]) rfl ⟨rfl,by assumption⟩
  all_goals
   clear hc
   go_wp2_with (go_at_call 81;refine(gg _).mono ?_;rintro e w5 ⟨⟨sa,rfl⟩,bE⟩;have dE:Below w.heap.size w w5:=qab dF bE)
   exact xrn (v:=.int .i64 3) (by simp[results,results91,go_sem]) rfl ⟨rfl,by assumption⟩
def ql9 (nodes:List Node)(q tq:Node):Bool:=!(nodes.filter fun m=>q.key.isPrefixOf m.key).all (okD ((tq.key.length:Int)+1-q.key.length))
def qdt (nodes:List Node)(s s2:Bs):Int :=
 if errP [s2,s] s≠0 then errP [s2,s] s else match findKey nodes (qac s) with
 |none=>3
 |some q=>match findKey nodes (qac s2) with
  |none=>3
  |some tq=>if tq.leaf=true then 5 else if q.key.isPrefixOf tq.key=true then 10 else if (findKey nodes (tq.key++[qad q.key])).isSome=true then 4 else if ql9 nodes q tq=true then 8 else 0
theorem qx4{w:World}{bt:Nat}(s s2:ByteArray)(h0:er≠0)
  (aA:∀W gb,Blk W gb 9 #[.string s2]->w.heap.size<=gb->Calls prog 132 #[.string s,.slice (some ⟨gb,0,none⟩) 1 1] W fun e w'=>e=.returned (.int .i64 er)/\Below w.heap.size W w') :
  Calls prog 91 #[.pointer (some ⟨bt,0,none⟩),.string s,.string s2] w fun e w'=>e=.returned (.int .i64 er)/\Below w.heap.size w w':=by
 have aW:(er != 0)=true:=by simpa using h0
 go_enter func91,ntmps91
 go_wp2_with (first
   |(go_at_call 132;refine(aA _ _ (by exact blk2) (Nat.le_refl _)).mono ?_;rintro e w1 ⟨rfl,aa⟩;have au:Below w.heap.size w w1:=qsa (by exact bel2) aa))
 exact xrn (v:=.int .i64 er) (by simp[results,results91,go_sem]) rfl ⟨rfl,au⟩
theorem qo7{s:Bs}(h:errP [s2,s] s=0):qar s=true/\qar s2=true/\s≠[]:=by
 unfold errP at h
 by_cases h1:([s2,s].all qar)=false
 ·rw[if_pos h1]at h;cases h
 ·rw[if_neg h1]at h
  by_cases h2:s=[]
  ·rw[if_pos h2]at h;cases h
  ·simp at h1
   exact⟨h1.2,h1.1,h2⟩
theorem qfm{nodes:List Node}(T0:Tree nodes)(hB:qa1 nodes){w:World}{bt:Nat}{vw va:Value}{ws as_:List Pw}(h:TwAt w nodes bt r ai vw va ws as_)(hr:r∈nodes)(a_:r.key=[])(s s2:ByteArray)(hs:s.size<=2000000)(dW:s2.size<=2000000):
  Calls prog 91 #[.pointer (some ⟨bt,0,none⟩),.string s,.string s2] w fun e w'=>e=.returned (.int .i64 (qdt nodes (bl s) (bl s2)))/\Below w.heap.size w w':=by
 have aA:=fun W gb (hb:Blk W gb 9 #[.string s2]) (hg:w.heap.size<=gb)=>qjh s s2 hs dW hg hb
 unfold qdt
 by_cases h0:errP [bl s2,bl s] (bl s)=0
 ·rw[if_neg (by simpa using h0)];rw[h0]at aA;obtain⟨hv,et,dw⟩:=qo7 h0;have bG:∀W,Below w.heap.size w W->W.cell? ⟨bt,0,none⟩=some (.pointer (some ⟨r.blk,0,none⟩)):=fun W (hW:Below w.heap.size w W)=>(h.below hW).bk.at_.cell 0
  let fv:ByteArray->Value:=fun fQ=>match findKey nodes (qac (bl fQ)) with|none=>.pointer none|some p=>nptr p.blk
  have hf:∀W fQ,Below w.heap.size w W->fQ=s\/fQ=s2->Calls prog 63 #[.pointer (some ⟨r.blk,0,none⟩),.string fQ] W fun e w'=>e=.returned (fv fQ)/\Below W.heap.size W w':=fun W fQ hW pn=>qcr T0 hr a_ fQ (by rcases pn with rfl|rfl<;>assumption) W (h.below hW).ins _ rfl
  have gg:∀W,Calls prog 81 #[.string s] W fun e w'=>(∃a:ByteArray,e=.returned (.tuple #[.string a,.string (sb (qad (qac (bl s))))]))/\Below W.heap.size W w':=fun W=>(qe6 s hs hv dw W).mono fun e w' ml=>by
   obtain⟨⟨a,b,rfl,h1,_⟩,h2⟩:=ml
   refine⟨⟨a,?_⟩,h2⟩
   have:b=sb (qad (qac (bl s))):=qd8 (by rw[qbs,h1,qaq])
   rw[this]
  cases hq:findKey nodes (qac (bl s)) with
  |none=>exact qok (bq:=0) (bt2:=0) (v3:=.pointer none) (l1:=true) (l2:=true) (l4:=true) s s2 bG aA hf (show fv s=.pointer none by simp only[fv];rw[hq]) rfl gg (fun e=>by cases e) (.inl ⟨rfl,rfl⟩)
  |some q =>
   have cR:fv s=.pointer (some ⟨q.blk,0,none⟩):=by simp only[fv];rw[hq];rfl
   obtain⟨ib,cT⟩:=qan hq
   simp only
   cases ht:findKey nodes (qac (bl s2)) with
   |none=>exact qok (bt2:=0) (v3:=.pointer none) (l1:=true) (l2:=true) (l4:=true) s s2 bG aA hf cR (show fv s2=.pointer none by simp only[fv];rw[ht]) gg (fun _ e=>by cases e) (.inr (.inl ⟨rfl,rfl,rfl⟩))
   |some tq =>
    have xr:fv s2=.pointer (some ⟨tq.blk,0,none⟩):=by simp only[fv];rw[ht];rfl
    obtain⟨pY,db⟩:=qan ht
    simp only
    have aZ:=fun W (hW:Below w.heap.size w W)=>qgx tq.blk tq.leaf W (((h.below hW).ins tq pY).cell rfl)
    have bD:=fun W (hW:Below w.heap.size w W)=>qn2 T0 hB pY ib W (h.below hW).ins
    have tM:=fun W (hW:Below w.heap.size w W)=>qnh T0 (h.below hW).ins ib pY
    have rO:qbr (qad q.key)=true:=by
     have pc:q.key≠[]:=by rw[cT];intro e;exact dw (qes e)
     have:q.key=q.key.dropLast++[q.key.getLast pc]:=(List.dropLast_concat_getLast pc).symm
     rw[this,qaq]
     exact qby (T0.ok q ib).1 (List.getLast_mem pc)
    have jc:qac (bl (sb (qad (qac (bl s)))))=[qad q.key]:=by
     rw[qbs,<- cT]
     have:=qbi (k:=[qad q.key]) (by unfold qbx;simp[rO])
     exact this
    have rf:∀v,(v=match findKey nodes (tq.key++[qad q.key]) with|none=>Value.pointer none|some p=>nptr p.blk)->∀W,Below w.heap.size w W->Calls prog 63 #[.pointer (some ⟨tq.blk,0,none⟩),.string (sb (qad (qac (bl s))))] W fun e w'=>e=.returned v/\Below W.heap.size W w':=fun v hv W hW=>by
     have hl:(sb (qad (qac (bl s)))).size<=2000000:=by rw[qco,<- cT];have:=(qdr rO).2;omega
     refine(qso T0 pY (sb (qad (qac (bl s)))) hl W (h.below hW).ins).mono ?_
     rintro e w' ⟨hp,hb⟩
     rw[jc]at hp
     refine⟨?_,hb⟩
     rcases hp with ⟨n,hn,bX,rfl⟩|⟨ay,rfl⟩
     ·rw[hv,qb0 T0 hn bX]
     ·rw[hv,qhv ay]
    simp only[nptr]at bD rf;have aC:=fun er H=>qok (er:=er) s s2 bG aA hf cR xr gg (fun _ _=>⟨aZ,bD,rf _ rfl,tM⟩) (.inr (.inr ⟨rfl,rfl,H⟩))
    clear aZ bD rf tM;unfold ql9
    cases hl:tq.leaf
    ·simp only[Bool.false_eq_true,if_false]
     cases hi:q.key.isPrefixOf tq.key
     ·simp only[Bool.false_eq_true,if_false]
      cases hk:findKey nodes (tq.key++[qad q.key]) with
      |some k9 =>
       simp only[Option.isSome_some,if_true]
       exact aC _ (.inr (.inr (.inl ⟨hl,hi,⟨k9.blk,by rw[hk]⟩,rfl⟩)))
      |none =>
       simp only[Option.isSome_none,Bool.false_eq_true,if_false]
       cases hd:(!(nodes.filter fun m=>q.key.isPrefixOf m.key).all (okD ((tq.key.length:Int)+1-q.key.length)))
       ·simp only[Bool.false_eq_true,if_false]
        exact aC _ (.inr (.inr (.inr (.inr ⟨hl,hi,by rw[hk],hd,rfl⟩))))
       ·simp only[if_true]
        exact aC _ (.inr (.inr (.inr (.inl ⟨hl,hi,by rw[hk],hd,rfl⟩))))
     ·simp only[if_true]
      exact aC _ (.inr (.inl ⟨hl,hi,rfl⟩))
    ·simp only[if_true]
     exact aC _ (.inl ⟨hl,rfl⟩)
 ·rw[if_pos (by simpa using h0)]
  exact qx4 s s2 h0 aA
end Go.Proofs.YtphclnolomgjoaaGreatDoor
