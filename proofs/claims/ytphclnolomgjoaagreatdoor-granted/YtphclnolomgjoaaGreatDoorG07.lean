import Derived.Test.YtphclnolomgjoaaGreatDoorG04
set_option linter.unusedVariables false
set_option linter.unusedSimpArgs false
set_option maxRecDepth 100000
set_option maxHeartbeats 4000000
namespace Go.Proofs.YtphclnolomgjoaaGreatDoor
open Tryz
open Go.RowKit
variable {nodes:List Node}{r:Node}{leaf ok:Bool}{nm:Bs}{a c d:Int}{W W' w w' w1:World}{c1 c2 c3 sl:Value}{bt:Nat}{T:Nat->Prop}
theorem qwr(a:Addr)(w:World):(binOp .neq 97 (.pointer (some a)) (.pointer none)).run prog w=.ok (.bool true) w:=by
 kernel_rfl
theorem qls(T:Tree nodes)(w:World)(hN:∀n∈nodes,qaf w n)(hr:r∈nodes)(a_:r.key=[])(bt:Nat)(ht:w.cell? ⟨bt,0,none⟩=some (nptr r.blk))
  (s:ByteArray) (hs:s.size<=2000000) (vb c:Nat) (l:List (Int×Int)) (hl:l.length<=100) (hb:vb<w.heap.size)
  (hc:∀(j:Nat) (x:Int×Int),l[j]?=some x->w.cell? ⟨vb,j*2,none⟩=some (.int .i64 x.1)/\w.cell? ⟨vb,j*2+1,none⟩=some (.int .i64 x.2)) :
  Calls prog 80 #[.pointer (some ⟨bt,0,none⟩),.string s,.slice (some ⟨vb,0,none⟩) l.length c] w fun e w'=>e=.returned (.int .i64 (qbp nodes (bl s) (qbk l)))/\Below w.heap.size w w':=by
 have a9:=fun W=>qd3 s hs W
 rw[qk8]at a9;have da:=fun W (hW:Below w.heap.size w W)=>qf3 vb c l hl W (by have:=hW.size;omega) (fun j x hx=>⟨(hW.cell (p:=⟨vb,j*2,none⟩) hb).trans (hc j x hx).1,(hW.cell (p:=⟨vb,j*2+1,none⟩) hb).trans (hc j x hx).2⟩)
 have fw:=fun W=>qmb s W hs
 have cC:=xrb w _ ht;have bC:=fun W (hW:Below w.heap.size w W)=>(hW.cell (p:=⟨bt,0,none⟩) cC).trans ht
 have ke:=fun W (hW:Below w.heap.size w W) n hn=>(hN n hn).below hW
 have ak:=fun W (hW:Below w.heap.size w W) v hv=>qcs T hr a_ s hs W (ke W hW) v hv
 unfold nptr at ak bC;unfold qbp;clear hc;obtain⟨L,hL⟩:∃L,L=l.length:=⟨_,rfl⟩;rw[<-hL]at da ⊢;clear hL
 cases hv:qas (bl s)
 ·rw[hv]at a9;simp only[if_true]at a9 ⊢
  go_enter func80,ntmps80
  go_wp2_with (go_at_call 132;refine(a9 _).mono ?_;rintro e w1 ⟨rfl,aa⟩)
  go_ret
  exact⟨rfl,aa⟩
 rw[hv]at a9;simp only[Bool.true_eq_false,if_false]at a9 ⊢
 by_cases h0:bl s=[]
 ·have hz:s=⟨#[]⟩:=qea (h0.trans qhy.symm);simp only[h0,if_true]at a9 ⊢;subst hz
  go_enter func80,ntmps80
  go_wp2_with (go_at_call 132;refine(a9 _).mono ?_;rintro e w1 ⟨rfl,aa⟩)
  go_ret
  exact⟨rfl,aa⟩
 simp only[h0,if_false]at a9 ⊢
 cases kT:qbk l
 ·rw[kT]at da;simp only[if_true]
  go_enter func80,ntmps80
  go_wp2_with (first|(go_at_call 132;refine(a9 _).mono ?_;rintro e w1 ⟨rfl,aa⟩)|(go_at_call 133;refine(da w1 aa).mono ?_;rintro e w2 ⟨rfl,ag⟩))
  go_ret
  exact⟨rfl,qac aa ag⟩
 rw[kT]at da;simp only[Bool.true_eq_false,if_false]
 by_cases hd:4<qeq (bl s)
 ·simp only[hd,if_true]
  go_enter func80,ntmps80
  go_wp2_with (first|(go_at_call 132;refine(a9 _).mono ?_;rintro e w1 ⟨rfl,aa⟩)|(go_at_call 133;refine(da w1 aa).mono ?_;rintro e w2 ⟨rfl,ag⟩)|(go_at_call 134;refine(fw _).mono ?_;rintro e w3 ⟨rfl,fI⟩;subst fI))
  go_ret
  exact⟨rfl,qac aa ag⟩
 simp only[hd,if_false];have f_:=fun W=>qe6 s hs hv h0 W
 cases kS:findKey nodes (qab (bl s)) with
 |some n =>
  simp only[Option.isSome_some,if_true];rw[kS]at ak;simp only[nptr]at ak;clear kS;have eZ:=qwr
  go_enter func80,ntmps80
  go_wp2_with (first|(go_at_call 132;refine(a9 _).mono ?_;rintro e w1 ⟨rfl,aa⟩)|(go_at_call 133;refine(da w1 aa).mono ?_;rintro e w2 ⟨rfl,ag⟩;have aR:Below w.heap.size w w2:=qac aa ag;have tY:=bC w2 aR)|(go_at_call 134;refine(fw _).mono ?_;rintro e w3 ⟨rfl,fI⟩;subst fI)|(go_at_call 63;refine(ak _ aR (.pointer (some ⟨n.blk,0,none⟩)) rfl).mono ?_;rintro e w4 ⟨rfl,bm⟩))
  go_ret
  exact⟨rfl,qac aR bm⟩
 |none =>
  simp only[Option.isSome_none,Bool.false_eq_true,if_false];rw[kS]at ak;clear kS;have zr:=fun W (hW:Below w.heap.size w W) k=>qne T W (ke W hW) hr a_ bt ((hW.cell (p:=⟨bt,0,none⟩) cC).trans ht) k
  have ec:=fun W (hW:Below w.heap.size w W) (a:ByteArray) (ha:a.size<=2000000)=>qcs T hr a_ a ha W (ke W hW) _ rfl
  unfold nptr at ec
  go_enter func80,ntmps80
  go_wp2_with (first|(go_at_call 132;refine(a9 _).mono ?_;clear a9;rintro e w1 ⟨rfl,aa⟩)|(go_at_call 133;refine(da w1 aa).mono ?_;clear da;rintro e w2 ⟨rfl,ag⟩;have aR:Below w.heap.size w w2:=qac aa ag;have tY:=bC w2 aR)|(go_at_call 134;refine(fw _).mono ?_;clear fw;rintro e w3 ⟨rfl,fI⟩;subst fI)|(go_at_call 63;refine(ak _ aR (.pointer none) rfl).mono ?_;clear ak;rintro e w4 ⟨rfl,bm⟩)|(go_at_call 81;refine(f_ _).mono ?_;rintro e w5 ⟨⟨sa,qf,rfl,bI,Cx⟩,bO⟩;have dC:Below w.heap.size w w5:=qac (qac aR bm) bO;have E8:=bC w5 dC))
  refine(ec w5 dC sa (by omega)).mono ?_
  rintro e w6 ⟨rfl,jB⟩
  have my:Below w.heap.size w w6:=qac dC jB;have po:=zr w6 my (qab (bl sa));unfold nptr at po;clear zr ec f_ bC;generalize (match findKey nodes (qab (bl sa)) with|none=>Value.pointer none|some p=>Value.pointer (some ⟨p.blk,0,none⟩))=vq at po ⊢
  go_wp2_with (go_at_call 135;refine po.mono ?_;rintro e w7 ⟨rfl,vG⟩)
  all_goals go_ret
  all_goals exact⟨qhp (by rw[bI,List.dropLast_concat]),qac my vG⟩
theorem qiy{s:Bs}(h:qbp nodes s ok=0):
  qas s=true/\s≠[]/\ok=true/\qeq s<=4/\findKey nodes (qab s)=none/\∃p,findKey nodes (qab s).dropLast=some p/\p.leaf=false/\nodes.length<20:=by
 unfold qbp at h
 cases hv:qas s
 ·simp[hv]at h
 by_cases h0:s=[]
 ·rw[hv]at h;simp[h0]at h
 cases cf:ok
 ·simp[hv,h0,cf]at h
 by_cases hd:4<qeq s
 ·simp[hv,h0,cf,hd]at h
 cases hf:findKey nodes (qab s) with
 |some n=>simp[hv,h0,cf,hd,hf]at h
 |none =>
  simp[hv,h0,cf,hd,hf]at h
  unfold qsd at h
  cases hp:findKey nodes (qab s).dropLast with
  |none=>simp[hp]at h
  |some p =>
   simp only[hp]at h
   cases hl:p.leaf
   ·by_cases mw:20<=nodes.length
    ·simp[hl,mw]at h
    ·exact⟨rfl,h0,rfl,by omega,rfl,p,rfl,hl,by omega⟩
   ·simp[hl]at h
structure qkx (nodes:List Node) (q:Nat) (s:Bs) (leaf:Bool) (a b c d:Int) (w w':World):Prop where
 ex:∃p nm ks at_ sl,p∈nodes/\p.leaf=false/\qab s=p.key++[nm]/\nodes.length<20/\(∀n∈nodes,n.key≠qab s)/\qgh nodes p q nm leaf a b c d w w' ks at_ sl
theorem qgh.from{p:Node}{q:Nat}{b:Int}{ks:List Node}{at_:Nat}(h:qgh nodes p q nm leaf a b c d w1 w' ks at_ sl)(hb:Below w.heap.size w w1):qgh nodes p q nm leaf a b c d w w' ks at_ sl :=
 ⟨h.kids,h.mem,h.sort,h.found,h.par,h.new,(Keep.new hb).trans h.keep,h.own.imp id (fun ⟨g,h1,h2⟩=>⟨g,h1,Nat.le_trans hb.size h2⟩)⟩
def qzt (nodes:List Node)(q:Nat)(s:Bs)(ok:Bool)(leaf:Bool)(a b c d:Int)(w:World)(e:Ending)(w':World):Prop :=
 (qbp nodes s ok≠0/\e=.returned (.int .i64 (qbp nodes s ok))/\Below w.heap.size w w')\/(qbp nodes s ok=0/\e=.returned (.int .i64 0)/\qkx nodes q s leaf a b c d w w')
theorem qu3(T:Tree nodes)(w:World)(hN:∀n∈nodes,qaf w n)(hr:r∈nodes)(a_:r.key=[])(bt:Nat)(ht:w.cell? ⟨bt,0,none⟩=some (nptr r.blk))
  (s:ByteArray) (hs:s.size<=2000000) (vb cp:Nat) (l:List (Int×Int)) (hl:l.length<=100) (hb:vb<w.heap.size)
  (hc:∀(j:Nat) (x:Int×Int),l[j]?=some x->w.cell? ⟨vb,j*2,none⟩=some (.int .i64 x.1)/\w.cell? ⟨vb,j*2+1,none⟩=some (.int .i64 x.2))
  (q:Nat) (leaf:Bool) (a b c d:Int) (hq:Blk w q 136 #[.string ⟨#[]⟩,.bool leaf,.int .i64 a,.int .i64 b,.int .i64 c,.int .i64 d,.pointer none,.slice none 0 0])
  (lA:∀n∈nodes,q≠n.blk/\n.sl.ownBlock≠some q/\n.sl.ownBlock≠some n.blk) :
  Calls prog 52 #[.pointer (some ⟨bt,0,none⟩),.string s,nptr q,.slice (some ⟨vb,0,none⟩) l.length cp] w (qzt nodes q (bl s) (qbk l) leaf a b c d w):=by
 have ni:=qls T w hN hr a_ bt ht s hs vb cp l hl hb hc;clear hc;obtain⟨L,hL⟩:∃L,L=l.length:=⟨_,rfl⟩;rw[<-hL]at ni ⊢;clear hL;generalize cf:qbk l=ok at ni ⊢
 by_cases he:qbp nodes (bl s) ok=0
 ·obtain⟨hv,h0,Cj,hd,hf,p,hp,dR,mw⟩:=qiy he;have HE:Hid (qbp nodes (bl s) ok=0):=he;rw[he]at ni;clear he;obtain⟨gl,dM⟩:=qan hp;have f_:=fun W=>qe6 s hs hv h0 W
  have cC:=xrb w _ ht;have bC:=fun W (hW:Below w.heap.size w W)=>(hW.cell (p:=⟨bt,0,none⟩) cC).trans ht
  unfold nptr at bC;have ke:=fun W (hW:Below w.heap.size w W) n hn=>(hN n hn).below hW
  have ec:=fun W (hW:Below w.heap.size w W) (sa:ByteArray) (ha:sa.size<=2000000) (hk:qab (bl sa)=(qab (bl s)).dropLast)=>qcs T hr a_ sa ha W (ke W hW) (nptr p.blk) (by rw[hk,hp])
  have aA:∀n∈nodes,n.key≠qab (bl s):=fun n hn e=>by rw[qcc T hn e]at hf;cases hf
  have ir:=fun W (hW:Below w.heap.size w W) (nm:Bs) (bI:qbs nm=true) (dQ:∀n∈nodes,n.key≠p.key++[nm])=>qsm T W (ke W hW) gl q nm bI dQ leaf a b c d (hq.below hW hq.lt) (lA p gl).1 (lA p gl).2.1 (lA p gl).2.2
  unfold nptr at ec ir ⊢;clear hf lA hq
  go_enter func52,ntmps52
  go_wp2_with (first|(go_at_call 80;refine ni.mono ?_;clear ni;rintro e w1 ⟨rfl,aa⟩)|(go_at_call 81;refine(f_ _).mono ?_;clear f_;rintro e w2 ⟨⟨sa,qf,rfl,bI,Cx⟩,ag⟩;have aR:Below w.heap.size w w2:=qac aa ag;have tY:=bC w2 aR))
  have hk:qab (bl sa)=(qab (bl s)).dropLast:=by rw[bI,List.dropLast_concat]
  refine(ec w2 aR sa (by omega) hk).mono ?_
  rintro e w3 ⟨rfl,aM⟩
  have bE:Below w.heap.size w w3:=qac aR aM;have wO:qbs (bl qf)=true:=qby (k:=qab (bl s)) (by rw[<-qce];exact hv) (by rw[bI];simp);have pf:p.key++[bl qf]=qab (bl s):=by rw[dM,<- hk,bI]
  have hh:=ir w3 bE (bl qf) wO (fun n hn=>by rw[pf];exact aA n hn);rw[qtr]at hh;clear ir ec bC hk bI;have Ac:Hid (p.key++[bl qf]=qab (bl s)):=pf;clear pf dM
  go_wp2_with (go_at_call 82;refine hh.mono ?_;clear hh;rintro e w4 ⟨rfl,ks,at_,sl,aJ⟩)
  go_ret
  exact .inr ⟨HE.out,rfl,⟨p,bl qf,ks,at_,sl,gl,dR,Ac.out.symm,mw,aA,aJ.from bE⟩⟩
 ·have aW:(qbp nodes (bl s) ok != 0)=true:=by simpa using he
  unfold nptr;generalize hE:qbp nodes (bl s) ok=E at ni aW;have HE:Hid (qbp nodes (bl s) ok=E):=hE;clear hE he hN T ht hr a_ lA hq
  go_enter func52,ntmps52
  go_wp2_with (go_at_call 80;refine ni.mono ?_;rintro e w1 ⟨rfl,aa⟩)
  go_ret
  exact .inl ⟨by rw[HE.out];simpa using aW,qhp HE.out.symm,aa⟩
structure Tag where
 k:Nat
 t:Nat
 i:Nat
variable {τ τ':Nat->Tag}
abbrev Tag.free:Tag:=⟨0,0,0⟩
abbrev Tag.node (t i:Nat):Tag:=⟨1,t,i⟩
abbrev Tag.row (t i:Nat):Tag:=⟨2,t,i⟩
abbrev Tag.tow (t:Nat):Tag:=⟨3,t,0⟩
abbrev Tag.book (t:Nat):Tag:=⟨13,t,0⟩
abbrev Tag.work (t:Nat):Tag:=⟨14,t,0⟩
def Tag.prog(t:Nat):Tag->Prop
 |⟨1,t',_⟩=>t'=t
 |⟨2,t',_⟩=>t'=t
 |⟨3,t',_⟩=>t'=t
 |⟨13,t',_⟩=>t'=t
 |⟨14,t',_⟩=>t'=t
 |_=>False
structure qf2 (τ : Nat->Tag) (t:Nat) (W:World) (bt:Nat) (nodes:List Node) (c1 c2 c3:Value):Prop where
 tree:Tree nodes
 ins:∀n∈nodes,qaf W n
 tags:∀(i:Nat) (n:Node),nodes[i]?=some n -> τ n.blk=.node t n.blk/\∀g,n.sl.ownBlock=some g -> τ g=.row t n.blk
 tow:∃r,nodes[0]?=some r/\Blk W bt 102 #[nptr r.blk,c1,c2,c3]
 ttag : τ bt=.tow t
 binj:∀a∈nodes,∀b∈nodes,a.blk=b.blk->a=b
theorem qf2.keep{t:Nat}(h:qf2 τ t W bt nodes c1 c2 c3)(k:Keep T W W')(hT:∀b,b<W.heap.size->T b->¬(τ b).prog t)
  (hτ : ∀b,b<W.heap.size -> τ' b = τ b):qf2 τ' t W' bt nodes c1 c2 c3:=by
 obtain⟨r,hr,hb⟩:=h.tow;have an:∀(i:Nat) (n:Node),nodes[i]?=some n->n.blk<W.heap.size/\∀g,n.sl.ownBlock=some g->g<W.heap.size:=fun i n hn =>
  ⟨(h.ins n (xr2 hn)).lt,fun g hg=>((h.ins n (xr2 hn)).row.lt g hg).2⟩
 refine⟨h.tree,fun n hn=>?_,fun i n hn=>?_,⟨r,hr,?_⟩,?_,h.binj⟩
 ·obtain⟨i,hi⟩:=xre hn;obtain⟨t1,t2⟩:=h.tags i n hi;obtain⟨l1,l2⟩:=an i n hi
  exact(h.ins n hn).keep k (fun hb=>hT _ l1 hb (by rw[t1];rfl)) (fun g hg hb=>hT _ (l2 g hg) hb (by rw[t2 g hg];rfl))
 ·obtain⟨t1,t2⟩:=h.tags i n hn;obtain⟨l1,l2⟩:=an i n hn
  exact⟨by rw[hτ _ l1];exact t1,fun g hg=>by rw[hτ _ (l2 g hg)];exact t2 g hg⟩
 ·exact hb.keep k (fun bg=>hT _ hb.lt bg (by rw[h.ttag];rfl))
 ·rw[hτ _ hb.lt];exact h.ttag
theorem qf2.hung{t:Nat}(h:qf2 τ t W bt nodes c1 c2 c3)(kG:Below W.heap.size W w){q:Nat}(hq:W.heap.size<=q){s:Bs}{b:Int}
  (hv:qas s=true) (hd:qeq s<=4) (dL:(0<=a/\a<=1000)/\(0<=b/\b<=1000)/\(0<=c/\c<=1000)/\(0<=d/\d<=1000)/\(leaf=false->a=0/\b=0))
  (hp:qkx nodes q s leaf a b c d w w') :
  ∃τ' ar,(∀x,x<W.heap.size -> τ' x = τ x)/\(∀x,W.heap.size<=x -> τ' x=.free\/(τ' x).prog t)/\qf2 τ' t w' bt ar c1 c2 c3/\ar.map Node.ent=nodes.map Node.ent++[⟨qab s,leaf,a,b,c,d⟩] /\
   Keep (fun x=>(x<W.heap.size/\((τ x).k=1\/(τ x).k=2)/\(τ x).t=t)) W w'/\(∀n∈nodes,∃n'∈ar,n'.blk=n.blk/\n'.key=n.key)/\(∀x,W.heap.size<=x -> τ' x=.free\/(τ' x).k=1\/(τ' x).k=2):=by
 obtain⟨p,nm,ks,at_,sl,gl,dR,bI,mw,aA,H⟩:=hp.ex;have T:=h.tree;obtain⟨j,hj⟩:=xre gl;have uZ:∀n∈nodes,qaf w n:=fun n hn=>(h.ins n hn).below kG
 have an:∀n∈nodes,n.blk<W.heap.size/\∀g,n.sl.ownBlock=some g->g<W.heap.size:=fun n hn=>⟨(h.ins n hn).lt,fun g hg=>((h.ins n hn).row.lt g hg).2⟩
 obtain⟨p',mg⟩:∃p',p'=p.qd7 at_ q sl:=⟨_,rfl⟩;obtain⟨m,hm⟩:∃m:Node,m={blk:=q,key:=p.key++[nm],leaf:=leaf,n0:=a,n1:=b,b0:=c,b1:=d,up:=some p.blk,sl:=.slice none 0 0,kids:=[]}:=⟨_,rfl⟩;have cR:m.key=p.key++[nm]:=by rw[hm]
 obtain⟨up,dg⟩:∃up:Node->Node,up=fun n=>if n.key=p.key then p' else n:=⟨_,rfl⟩
 have sr:up p=p':=by rw[dg];simp
 have xp:∀n∈nodes,n.key≠p.key->up n=n:=fun n hn hk=>by rw[dg];simp[hk]
 have nt:∀n∈nodes,(n=p/\up n=p')\/(n.key≠p.key/\up n=n):=fun n hn=>by
  by_cases hk:n.key=p.key
  ·obtain rfl:=T.inj n hn p gl hk;exact .inl ⟨rfl,sr⟩
  ·exact .inr ⟨hk,xp n hn hk⟩
 have jx:p'.key=p.key/\p'.leaf=p.leaf/\p'.n0=p.n0/\p'.n1=p.n1/\p'.b0=p.b0/\p'.b1=p.b1/\p'.up=p.up/\p'.blk=p.blk/\p'.sl=sl/\p'.kids=p.kids.take at_++q::p.kids.drop at_:=by rw[mg];simp[Node.qd7]
 have dV:∀n∈nodes,(up n).key=n.key/\(up n).leaf=n.leaf/\(up n).n0=n.n0/\(up n).n1=n.n1/\(up n).b0=n.b0/\(up n).b1=n.b1/\(up n).up=n.up/\(up n).blk=n.blk:=fun n hn=>by
  rcases nt n hn with ⟨rfl,e⟩|⟨_,e⟩
  ·rw[e];exact⟨jx.1,jx.2.1,jx.2.2.1,jx.2.2.2.1,jx.2.2.2.2.1,jx.2.2.2.2.2.1,jx.2.2.2.2.2.2.1,jx.2.2.2.2.2.2.2.1⟩
  ·rw[e];exact⟨rfl,rfl,rfl,rfl,rfl,rfl,rfl,rfl⟩
 have af:∀n,n∈nodes.map up++[m]↔(∃n0∈nodes,n=up n0)\/n=m:=fun n=>by
  simp only[xri,xrq,List.mem_singleton]
  constructor
  ·rintro(⟨n0,h1,rfl⟩|rfl)
   ·exact .inl ⟨n0,h1,rfl⟩
   ·exact .inr rfl
  ·rintro(⟨n0,h1,rfl⟩|rfl)
   ·exact .inl ⟨n0,h1,rfl⟩
   ·exact .inr rfl
 have gN:∀n∈nodes,n.key≠p.key++[nm]:=fun n hn=>by rw[<-bI];exact aA n hn
 have wy:qbx (p.key++[nm])=true:=by rw[<-bI,<- qce];exact hv
 have kV:(nodes.map up++[m]).map (·.key)=nodes.map (·.key)++[p.key++[nm]]:=by
  simp only[List.map_append,List.map_map,List.map_cons,List.map_nil,cR]
  congr 1
  exact List.map_congr_left (fun n hn=>(dV n hn).1)
 obtain⟨τ',gW⟩:∃τ':Nat->Tag,τ'=fun x=>if x<W.heap.size then τ x else if x=q then .node t q else if sl.ownBlock=some x then .row t p.blk else .free:=⟨_,rfl⟩
 have fp:∀x,x<W.heap.size -> τ' x = τ x:=fun x hx=>by rw[gW];simp[hx]
 have CN : τ' q=.node t q:=by rw[gW];simp[Nat.not_lt.2 hq]
 have mj:=h.tags j p hj;have de:∀g,sl.ownBlock=some g -> τ' g=.row t p.blk:=fun g hg=>by
  rcases H.own with e|⟨g',e,bY⟩
  ·rw[e]at hg;rw[fp g ((an p gl).2 g hg)];exact mj.2 g hg
  ·rw[e]at hg;cases hg;have h1:¬g<W.heap.size:=by have:=kG.size;omega
   have h2:g≠q:=fun e2=>by
    have:=H.new.lt
    have:=(H.par.row.lt g (by rw[show(p.qd7 at_ q sl).sl=sl from rfl,e])).2
    have hA:=H.new.at_;obtain⟨_,hr⟩:=H.par.row
    rcases hr with ⟨c_,_⟩|⟨g2,cap,aG,c_,_,eO,_⟩
    ·rw[show(p.qd7 at_ q sl).sl=sl from rfl]at c_;rw[c_]at e;cases e
    ·rw[show(p.qd7 at_ q sl).sl=sl from rfl]at c_;rw[c_]at e;injection e with e;have e3:g2=q:=(show g2=g from e).trans e2;rw[e3]at eO;have h9:=eO.symm.trans hA;injection h9 with h9;injection h9 with _ h9 _
     exact absurd h9 (by decide)
   rw[gW];simp[h1,h2,e]
 have qF:Keep (fun x=>(x<W.heap.size/\((τ x).k=1\/(τ x).k=2)/\(τ x).t=t)) W w':=by
  refine⟨H.keep.os.trans kG.os,H.keep.tape.trans kG.tape,H.keep.output.trans kG.output,Nat.le_trans kG.size H.keep.size,fun x hx hn=>?_⟩
  refine(H.keep.block x (xrg hx kG.size) ?_).trans (kG.block x hx)
  rintro(rfl|rfl|e)
  ·exact hn ⟨hx,by rw[mj.1];simp⟩
  ·omega
  ·exact hn ⟨hx,by rw[mj.2 x e];simp⟩
 have pd:∀n∈nodes,n≠p->qaf w' n:=fun n hn ma=>by
  obtain⟨i,hi⟩:=xre hn;obtain⟨t1,t2⟩:=h.tags i n hi
  refine(uZ n hn).keep H.keep ?_ ?_
  ·rintro(e|e|e)
   ·exact ma (h.binj n hn p gl e)
   ·have:=(an n hn).1;omega
   ·rw[mj.2 _ e]at t1;cases t1
  ·intro g hg;have t3:=t2 g hg
   rintro(e|e|e)
   ·rw[e,mj.1]at t3;cases t3
   ·have:=(an n hn).2 g hg;omega
   ·rw[mj.2 _ e]at t3;injection t3 with _ _ t3;exact ma (h.binj n hn p gl t3.symm)
 have vH:∀a∈nodes.map up++[m],∀b∈nodes.map up++[m],a.blk=b.blk->a=b:=fun a ha b hb e=>by
  have kZ:m.blk=q:=by rw[hm]
  rcases(af a).1 ha with ⟨x,hx,rfl⟩|rfl
  ·rcases(af b).1 hb with ⟨y,hy,rfl⟩|rfl
   ·rw[(dV x hx).2.2.2.2.2.2.2,(dV y hy).2.2.2.2.2.2.2]at e;rw[h.binj x hx y hy e]
   ·rw[(dV x hx).2.2.2.2.2.2.2,kZ]at e;have:=(an x hx).1;omega
  ·rcases(af b).1 hb with ⟨y,hy,rfl⟩|rfl
   ·rw[(dV y hy).2.2.2.2.2.2.2,kZ]at e;have:=(an y hy).1;omega
   ·rfl
 refine⟨τ',nodes.map up++[m],fp,?_,⟨?_,?_,?_,?_,?_,vH⟩,?_,qF,fun n hn=>⟨up n,(af _).2 (.inl ⟨n,hn,rfl⟩),(dV n hn).2.2.2.2.2.2.2,(dV n hn).1⟩,?_⟩
 ·intro x hx;rw[gW];simp only[Nat.not_lt.2 hx,if_false]
  by_cases h1:x=q
  ·right;simp[h1,Tag.prog]
  ·by_cases h2:sl.ownBlock=some x
   ·right;simp[h1,h2,Tag.prog]
   ·left;simp[h1,h2]
 ·-- the tree
  refine⟨?_,?_,?_,?_,?_,?_,?_,?_,?_⟩
  ·obtain⟨r,h0,h1,h2,h3,h4⟩:=T.root;have ni:=xr2 h0;have u:=dV r ni
   refine⟨up r,?_,by rw[u.1];exact h1,by rw[u.2.1];exact h2,by rw[u.2.2.2.2.1];exact h3,by rw[u.2.2.2.2.2.1];exact h4⟩
   rw[xrp (by simp;exact(xr0.1 h0).1)]
   simp[h0]
  ·intro n hn n2 dQ e
   rcases(af n).1 hn with ⟨x,hx,rfl⟩|rfl<;>rcases(af n2).1 dQ with ⟨y,hy,rfl⟩|rfl
   ·rw[(dV x hx).1,(dV y hy).1]at e;rw[T.inj x hx y hy e]
   ·rw[(dV x hx).1,cR]at e;exact absurd e (gN x hx)
   ·rw[(dV y hy).1,cR]at e;exact absurd e.symm (gN y hy)
   ·rfl
  ·rw[kV]
   refine List.nodup_append.2 ⟨T.nodup,by simp,?_⟩
   intro k hk k2 aY e;simp only[List.mem_singleton]at aY;obtain⟨n,hn,rfl⟩:=xrq.1 hk;rw[aY]at e;exact gN n hn e
  ·intro n hn
   rcases(af n).1 hn with ⟨x,hx,rfl⟩|rfl
   ·rw[(dV x hx).1];exact T.ok x hx
   ·rw[cR];refine⟨wy,?_⟩;rw[<-bI];exact hd
  ·intro n hn
   rcases(af n).1 hn with ⟨x,hx,rfl⟩|rfl
   ·obtain⟨_,u1,u2,u3,u4,u5,_⟩:=dV x hx;rw[u1,u2,u3,u4,u5];exact T.num x hx
   ·rw[hm];exact dL
  ·intro n hn hk
   rcases(af n).1 hn with ⟨x,hx,rfl⟩|rfl
   ·rw[(dV x hx).2.2.2.2.2.2.1];exact T.top x hx (by rw[<-(dV x hx).1];exact hk)
   ·rw[cR]at hk;simp at hk
  ·intro n hn k x hk
   rcases(af n).1 hn with ⟨y,hy,rfl⟩|rfl
   ·rw[(dV y hy).1]at hk;obtain⟨pp,h1,h2,h3,h4⟩:=T.par y hy k x hk;obtain⟨v1,v2,_,_,_,_,_,v3⟩:=dV pp h1
    exact⟨up pp,(af _).2 (.inl ⟨pp,h1,rfl⟩),by rw[v1];exact h2,by rw[v2];exact h3,by rw[(dV y hy).2.2.2.2.2.2.1,v3];exact h4⟩
   ·rw[cR]at hk;obtain⟨e1,e2⟩:=List.append_inj' hk rfl
    refine⟨p',(af _).2 (.inl ⟨p,gl,sr.symm⟩),by rw[jx.1];exact e1,by rw[jx.2.1];exact dR,by rw[hm,jx.2.2.2.2.2.2.2.1]⟩
  ·intro n hn
   rcases(af n).1 hn with ⟨y,hy,rfl⟩|rfl
   ·rcases nt y hy with ⟨rfl,e⟩|⟨aW,e⟩
    ·-- the parent
     rw[e]
     refine⟨(ks.map up).take at_++m::(ks.map up).drop at_,?_,?_,?_⟩
     ·rw[jx.2.2.2.2.2.2.2.2.2,H.kids]
      have:(ks.map up).map (·.blk)=ks.map (·.blk):=by
       rw[List.map_map];exact List.map_congr_left (fun n hn=>(dV n ((H.mem n).1 hn).1).2.2.2.2.2.2.2)
      rw[List.map_append,List.map_cons,List.map_take,List.map_drop,this,hm]
     ·intro k;rw[jx.1];have bL:k∈(ks.map up).take at_++m::(ks.map up).drop at_↔k∈ks.map up\/k=m:=by
       simp only[xri,List.mem_cons]
       constructor
       ·rintro(h1|h1|h1)
        ·exact .inl (List.mem_of_mem_take h1)
        ·exact .inr h1
        ·exact .inl (List.mem_of_mem_drop h1)
       ·rintro(h1|h1)
        ·rw[<-List.take_append_drop at_ (ks.map up)]at h1
         rcases xri.1 h1 with h2|h2
         ·exact .inl h2
         ·exact .inr (.inr h2)
        ·exact .inr (.inl h1)
      rw[bL,af]
      constructor
      ·rintro(h1|rfl)
       ·obtain⟨z,hz,rfl⟩:=xrq.1 h1;obtain⟨sK,x,hx⟩:=(H.mem z).1 hz
        exact⟨.inl ⟨z,sK,rfl⟩,x,by rw[(dV z sK).1];exact hx⟩
       ·exact⟨.inr rfl,nm,cR⟩
      ·rintro⟨h1|rfl,x,hx⟩
       ·obtain⟨z,hz,rfl⟩:=h1;rw[(dV z hz).1]at hx
        exact .inl (xrq.2 ⟨z,(H.mem z).2 ⟨hz,x,hx⟩,rfl⟩)
       ·exact .inr rfl
     ·have jd:((ks.map up).take at_++m::(ks.map up).drop at_).map (fun k=>qad k.key)=(ks.map fun k=>qad k.key).take at_++nm::(ks.map fun k=>qad k.key).drop at_:=by
       have:(ks.map up).map (fun k=>qad k.key)=ks.map fun k=>qad k.key:=by
        rw[List.map_map];exact List.map_congr_left (fun n hn=>by simp only[Function.comp];rw[(dV n ((H.mem n).1 hn).1).1])
       rw[List.map_append,List.map_cons,List.map_take,List.map_drop,this,cR,qaq]
      rw[jd];obtain⟨f1,f2,f3,f4⟩:=H.found;have hs:=H.sort;generalize (ks.map fun k=>qad k.key)=ns at hs f1 f2 f3 f4;have gU:=List.take_append_drop at_ ns;rw[<-gU]at hs;obtain⟨s1,s2,s3⟩:=xrx.1 hs
      refine xrx.2 ⟨s1,List.pairwise_cons.2 ⟨?_,s2⟩,?_⟩
      ·intro y hy;obtain⟨i,hi⟩:=xre hy;rw[List.getElem?_drop]at hi;have g1:=f3 (at_+i) y (by omega) hi;have g2:cmpB y nm≠0:=fun e0=>by
        have:=qii _ _ e0
        subst this
        rcases Nat.eq_zero_or_pos i with rfl|dz
        ·have:=f4.2 (by simpa using hi);cases this
        ·have bM:at_<ns.length:=by have:=(xr0.1 hi).1;omega
         have g3:=f3 at_ _ (Nat.le_refl _) (xr1 bM);have g4:=List.pairwise_iff_getElem.1 H.sort;have jT:=hs;rw[gU]at jT;have g5:=List.pairwise_iff_getElem.1 jT at_ (at_+i) bM (xr0.1 hi).1 (by omega);rw[(xr0.1 hi).2]at g5
         omega
       have g6:cmpB nm y = - cmpB y nm:=qk5 _ _
       omega
      ·intro x hx y hy;obtain⟨i,hi⟩:=xre hx;rw[List.getElem?_take]at hi
       split at hi
       ·rename_i bM
        have g1:=f2 i x bM hi
        rcases List.mem_cons.1 hy with rfl|hy
        ·exact g1
        ·exact s3 x hx y hy
       ·cases hi
    ·rw[e];obtain⟨x8,k1,k2,k3⟩:=T.kids y hy
     refine⟨x8.map up,?_,?_,?_⟩
     ·rw[k1,List.map_map];exact List.map_congr_left (fun n hn=>((dV n ((k2 n).1 hn).1).2.2.2.2.2.2.2).symm)
     ·intro k;rw[af]
      constructor
      ·intro h1;obtain⟨z,hz,rfl⟩:=xrq.1 h1;obtain⟨sK,x,hx⟩:=(k2 z).1 hz
       exact⟨.inl ⟨z,sK,rfl⟩,x,by rw[(dV z sK).1];exact hx⟩
      ·rintro⟨h1|rfl,x,hx⟩
       ·obtain⟨z,hz,rfl⟩:=h1;rw[(dV z hz).1]at hx
        exact xrq.2 ⟨z,(k2 z).2 ⟨hz,x,hx⟩,rfl⟩
       ·rw[cR]at hx
        exact absurd (List.append_inj' hx rfl).1.symm aW
     ·have:(x8.map up).map (fun k=>qad k.key)=x8.map fun k=>qad k.key:=by
       rw[List.map_map];exact List.map_congr_left (fun n hn=>by simp only[Function.comp];rw[(dV n ((k2 n).1 hn).1).1])
      rw[this];exact k3
   ·refine⟨[],by rw[hm];rfl,fun k=>?_,by simp⟩
    constructor
    ·intro h1;cases h1
    ·rintro⟨h1,x,hx⟩
     rw[cR]at hx
     rcases(af k).1 h1 with ⟨z,hz,rfl⟩|rfl
     ·rw[(dV z hz).1]at hx;obtain⟨pp,g1,g2,_⟩:=T.par z hz _ _ hx
      exact absurd g2 (gN pp g1)
     ·rw[cR]at hx
      have:=congrArg List.length hx;simp at this
  ·simp;omega
 ·intro n hn
  rcases(af n).1 hn with ⟨y,hy,rfl⟩|rfl
  ·rcases nt y hy with ⟨rfl,e⟩|⟨aW,e⟩
   ·rw[e,mg];exact H.par
   ·rw[e]
    exact pd y hy (fun e2=>by subst e2;exact aW rfl)
  ·rw[hm];exact H.new
 ·intro i n hi
  rcases Nat.lt_or_ge i nodes.length with eX|oL
  ·rw[xrp (by simpa using eX)]at hi;simp only[xrs,Option.map_eq_some_iff]at hi;obtain⟨y,hy,rfl⟩:=hi;have nx:=xr2 hy;obtain⟨t1,t2⟩:=h.tags i y hy
   refine⟨by rw[(dV y nx).2.2.2.2.2.2.2,fp _ (an y nx).1];exact t1,fun g hg=>?_⟩
   rcases nt y nx with ⟨rfl,e⟩|⟨aW,e⟩
   ·rw[e,jx.2.2.2.2.2.2.2.2.1]at hg;rw[(dV _ nx).2.2.2.2.2.2.2];exact de g hg
   ·rw[e]at hg ⊢;rw[fp _ ((an y nx).2 g hg)];exact t2 g hg
  ·rw[xro (by simpa using oL)]at hi;simp only[List.length_map]at hi
   have:i=nodes.length:=by
    rcases Nat.eq_zero_or_pos (i-nodes.length) with h0|h0
    ·omega
    ·rw[List.getElem?_eq_none (by simp;omega)]at hi;cases hi
   subst this
   simp at hi
   subst hi;rw[hm]
   exact⟨CN,fun g hg=>by cases hg⟩
 ·obtain⟨r,h0,hb⟩:=h.tow
  refine⟨up r,?_,?_⟩
  ·rw[xrp (by simp;exact(xr0.1 h0).1)];simp[h0]
  ·rw[(dV r (xr2 h0)).2.2.2.2.2.2.2]
   refine(hb.below kG hb.lt).keep H.keep ?_
   rintro(e|e|e)
   ·have:=h.ttag;rw[e,mj.1]at this;cases this
   ·have:=hb.lt;omega
   ·have:=h.ttag;rw[mj.2 _ e]at this;cases this
 ·obtain⟨r,h0,hb⟩:=h.tow;rw[fp _ hb.lt];exact h.ttag
 ·rw[List.map_append,List.map_map]
  congr 1
  ·exact List.map_congr_left (fun n hn=>by
    obtain⟨u0,u1,u2,u3,u4,u5,_⟩:=dV n hn;simp only[Function.comp,Node.ent,u0,u1,u2,u3,u4,u5])
  ·rw[hm,bI];rfl
 ·intro x hx;rw[gW];simp only[Nat.not_lt.2 hx,if_false]
  by_cases h1:x=q
  ·right;simp[h1]
  ·by_cases h2:sl.ownBlock=some x
   ·right;simp[h1,h2]
   ·left;simp[h1,h2]
end Go.Proofs.YtphclnolomgjoaaGreatDoor
