import Derived.Test.YtphclnolomgjoaaGreatDoorB04
set_option linter.unusedVariables false
set_option linter.unusedSimpArgs false
set_option maxRecDepth 100000
set_option maxHeartbeats 4000000
namespace Go.Proofs.YtphclnolomgjoaaGreatDoor
open Tryz
open Go.RowKit
variable {nodes:List Node}{r:Node}{leaf ok:Bool}{nm:Bs}{a c d:Int}{W W' w w' w1:World}{c1 c2 c3 sl:Value}{bt:Nat}{T:Nat->Prop}
theorem qw1(a:Addr)(w:World):(binOp .neq 97 (.pointer (some a)) (.pointer none)).run prog w=.ok (.bool true) w:=by
 kernel_rfl
theorem qls(T:Tree nodes)(w:World)(hN:∀n∈nodes,qag w n)(hr:r∈nodes)(a_:r.key=[])(bt:Nat)(ht:w.cell? ⟨bt,0,none⟩=some (nptr r.blk))
  (s:ByteArray) (hs:s.size<=2000000) (vb c:Nat) (l:List (Int×Int)) (hl:l.length<=100) (hb:vb<w.heap.size)
  (hc:∀(j:Nat) (x:Int×Int),l[j]?=some x->w.cell? ⟨vb,j*2,none⟩=some (.int .i64 x.1)/\w.cell? ⟨vb,j*2+1,none⟩=some (.int .i64 x.2)) :
  Calls prog 80 #[.pointer (some ⟨bt,0,none⟩),.string s,.slice (some ⟨vb,0,none⟩) l.length c] w fun e w'=>e=.returned (.int .i64 (qbo nodes (bl s) (qbj l)))/\Below w.heap.size w w':=by
 have aA:=fun W=>qd1 s hs W
 rw[qk8]at aA;have de:=fun W (hW:Below w.heap.size w W)=>qf2 vb c l hl W (by have:=hW.size;omega) (fun j x hx=>⟨(hW.cell (p:=⟨vb,j*2,none⟩) hb).trans (hc j x hx).1,(hW.cell (p:=⟨vb,j*2+1,none⟩) hb).trans (hc j x hx).2⟩)
 have fA:=fun W=>qma s W hs
 have cD:=xrb w _ ht;have bG:=fun W (hW:Below w.heap.size w W)=>(hW.cell (p:=⟨bt,0,none⟩) cD).trans ht
 have kl:=fun W (hW:Below w.heap.size w W) n hn=>(hN n hn).below hW
 have aj:=fun W (hW:Below w.heap.size w W) v hv=>qcr T hr a_ s hs W (kl W hW) v hv
 unfold nptr at aj bG;unfold qbo;clear hc;obtain⟨L,hL⟩:∃L,L=l.length:=⟨_,rfl⟩;rw[<-hL]at de ⊢;clear hL
 cases hv:qar (bl s)
 ·rw[hv]at aA;simp only[if_true]at aA ⊢
  go_enter func80,ntmps80
  go_wp2_with (go_at_call 132;refine(aA _).mono ?_;rintro e w1 ⟨rfl,aa⟩)
  go_ret
  exact⟨rfl,aa⟩
 rw[hv]at aA;simp only[Bool.true_eq_false,if_false]at aA ⊢
 by_cases h0:bl s=[]
 ·have hz:s=⟨#[]⟩:=qd8 (h0.trans qhs.symm);simp only[h0,if_true]at aA ⊢;subst hz
  go_enter func80,ntmps80
  go_wp2_with (go_at_call 132;refine(aA _).mono ?_;rintro e w1 ⟨rfl,aa⟩)
  go_ret
  exact⟨rfl,aa⟩
 simp only[h0,if_false]at aA ⊢
 cases kZ:qbj l
 ·rw[kZ]at de;simp only[if_true]
  go_enter func80,ntmps80
  go_wp2_with (first|(go_at_call 132;refine(aA _).mono ?_;rintro e w1 ⟨rfl,aa⟩)|(go_at_call 133;refine(de w1 aa).mono ?_;rintro e w2 ⟨rfl,ag⟩))
  go_ret
  exact⟨rfl,qab aa ag⟩
 rw[kZ]at de;simp only[Bool.true_eq_false,if_false]
 by_cases hd:4<qep (bl s)
 ·simp only[hd,if_true]
  go_enter func80,ntmps80
  go_wp2_with (first|(go_at_call 132;refine(aA _).mono ?_;rintro e w1 ⟨rfl,aa⟩)|(go_at_call 133;refine(de w1 aa).mono ?_;rintro e w2 ⟨rfl,ag⟩)|(go_at_call 134;refine(fA _).mono ?_;rintro e w3 ⟨rfl,gj⟩;subst gj))
  go_ret
  exact⟨rfl,qab aa ag⟩
 simp only[hd,if_false];have gg:=fun W=>qe6 s hs hv h0 W
 cases kY:findKey nodes (qac (bl s)) with
 |some n =>
  simp only[Option.isSome_some,if_true];rw[kY]at aj;simp only[nptr]at aj;clear kY;have eY:=qw1
  go_enter func80,ntmps80
  go_wp2_with (first|(go_at_call 132;refine(aA _).mono ?_;rintro e w1 ⟨rfl,aa⟩)|(go_at_call 133;refine(de w1 aa).mono ?_;rintro e w2 ⟨rfl,ag⟩;have aP:Below w.heap.size w w2:=qab aa ag;have ub:=bG w2 aP)|(go_at_call 134;refine(fA _).mono ?_;rintro e w3 ⟨rfl,gj⟩;subst gj)|(go_at_call 63;refine(aj _ aP (.pointer (some ⟨n.blk,0,none⟩)) rfl).mono ?_;rintro e w4 ⟨rfl,bf⟩))
  go_ret
  exact⟨rfl,qab aP bf⟩
 |none =>
  simp only[Option.isSome_none,Bool.false_eq_true,if_false];rw[kY]at aj;clear kY;have zw:=fun W (hW:Below w.heap.size w W) k=>qna T W (kl W hW) hr a_ bt ((hW.cell (p:=⟨bt,0,none⟩) cD).trans ht) k
  have ee:=fun W (hW:Below w.heap.size w W) (a:ByteArray) (ha:a.size<=2000000)=>qcr T hr a_ a ha W (kl W hW) _ rfl
  unfold nptr at ee
  go_enter func80,ntmps80
  go_wp2_with (first|(go_at_call 132;refine(aA _).mono ?_;clear aA;rintro e w1 ⟨rfl,aa⟩)|(go_at_call 133;refine(de w1 aa).mono ?_;clear de;rintro e w2 ⟨rfl,ag⟩;have aP:Below w.heap.size w w2:=qab aa ag;have ub:=bG w2 aP)|(go_at_call 134;refine(fA _).mono ?_;clear fA;rintro e w3 ⟨rfl,gj⟩;subst gj)|(go_at_call 63;refine(aj _ aP (.pointer none) rfl).mono ?_;clear aj;rintro e w4 ⟨rfl,bf⟩)|(go_at_call 81;refine(gg _).mono ?_;rintro e w5 ⟨⟨sa,qd,rfl,bQ,Cv⟩,bE⟩;have dE:Below w.heap.size w w5:=qab (qab aP bf) bE;have E4:=bG w5 dE))
  refine(ee w5 dE sa (by omega)).mono ?_
  rintro e w6 ⟨rfl,il⟩
  have mC:Below w.heap.size w w6:=qab dE il;have pg:=zw w6 mC (qac (bl sa));unfold nptr at pg;clear zw ee gg bG;generalize (match findKey nodes (qac (bl sa)) with|none=>Value.pointer none|some p=>Value.pointer (some ⟨p.blk,0,none⟩))=vq at pg ⊢
  go_wp2_with (go_at_call 135;refine pg.mono ?_;rintro e w7 ⟨rfl,vJ⟩)
  all_goals go_ret
  all_goals exact⟨qhl (by rw[bQ,List.dropLast_concat]),qab mC vJ⟩
theorem qit{s:Bs}(h:qbo nodes s ok=0):
  qar s=true/\s≠[]/\ok=true/\qep s<=4/\findKey nodes (qac s)=none/\∃p,findKey nodes (qac s).dropLast=some p/\p.leaf=false/\nodes.length<20:=by
 unfold qbo at h
 cases hv:qar s
 ·simp[hv]at h
 by_cases h0:s=[]
 ·rw[hv]at h;simp[h0]at h
 cases cg:ok
 ·simp[hv,h0,cg]at h
 by_cases hd:4<qep s
 ·simp[hv,h0,cg,hd]at h
 cases hf:findKey nodes (qac s) with
 |some n=>simp[hv,h0,cg,hd,hf]at h
 |none =>
  simp[hv,h0,cg,hd,hf]at h
  unfold qsl at h
  cases hp:findKey nodes (qac s).dropLast with
  |none=>simp[hp]at h
  |some p =>
   simp only[hp]at h
   cases hl:p.leaf
   ·by_cases mB:20<=nodes.length
    ·simp[hl,mB]at h
    ·exact⟨rfl,h0,rfl,by omega,rfl,p,rfl,hl,by omega⟩
   ·simp[hl]at h
structure qkx (nodes:List Node) (q:Nat) (s:Bs) (leaf:Bool) (a b c d:Int) (w w':World):Prop where
 ex:∃p nm ks at_ sl,p∈nodes/\p.leaf=false/\qac s=p.key++[nm]/\nodes.length<20/\(∀n∈nodes,n.key≠qac s)/\qgh nodes p q nm leaf a b c d w w' ks at_ sl
theorem qgh.from{p:Node}{q:Nat}{b:Int}{ks:List Node}{at_:Nat}(h:qgh nodes p q nm leaf a b c d w1 w' ks at_ sl)(hb:Below w.heap.size w w1):qgh nodes p q nm leaf a b c d w w' ks at_ sl :=
 ⟨h.kids,h.mem,h.sort,h.found,h.par,h.new,(Keep.new hb).trans h.keep,h.own.imp id (fun ⟨g,h1,h2⟩=>⟨g,h1,Nat.le_trans hb.size h2⟩)⟩
def qz2 (nodes:List Node)(q:Nat)(s:Bs)(ok:Bool)(leaf:Bool)(a b c d:Int)(w:World)(e:Ending)(w':World):Prop :=
 (qbo nodes s ok≠0/\e=.returned (.int .i64 (qbo nodes s ok))/\Below w.heap.size w w')\/(qbo nodes s ok=0/\e=.returned (.int .i64 0)/\qkx nodes q s leaf a b c d w w')
theorem qvc(T:Tree nodes)(w:World)(hN:∀n∈nodes,qag w n)(hr:r∈nodes)(a_:r.key=[])(bt:Nat)(ht:w.cell? ⟨bt,0,none⟩=some (nptr r.blk))
  (s:ByteArray) (hs:s.size<=2000000) (vb cp:Nat) (l:List (Int×Int)) (hl:l.length<=100) (hb:vb<w.heap.size)
  (hc:∀(j:Nat) (x:Int×Int),l[j]?=some x->w.cell? ⟨vb,j*2,none⟩=some (.int .i64 x.1)/\w.cell? ⟨vb,j*2+1,none⟩=some (.int .i64 x.2))
  (q:Nat) (leaf:Bool) (a b c d:Int) (hq:Blk w q 136 #[.string ⟨#[]⟩,.bool leaf,.int .i64 a,.int .i64 b,.int .i64 c,.int .i64 d,.pointer none,.slice none 0 0])
  (lG:∀n∈nodes,q≠n.blk/\n.sl.ownBlock≠some q/\n.sl.ownBlock≠some n.blk) :
  Calls prog 52 #[.pointer (some ⟨bt,0,none⟩),.string s,nptr q,.slice (some ⟨vb,0,none⟩) l.length cp] w (qz2 nodes q (bl s) (qbj l) leaf a b c d w):=by
 have nx:=qls T w hN hr a_ bt ht s hs vb cp l hl hb hc;clear hc;obtain⟨L,hL⟩:∃L,L=l.length:=⟨_,rfl⟩;rw[<-hL]at nx ⊢;clear hL;generalize cg:qbj l=ok at nx ⊢
 by_cases he:qbo nodes (bl s) ok=0
 ·obtain⟨hv,h0,Ch,hd,hf,p,hp,dU,mB⟩:=qit he;have HE:Hid (qbo nodes (bl s) ok=0):=he;rw[he]at nx;clear he;obtain⟨gx,dS⟩:=qan hp;have gg:=fun W=>qe6 s hs hv h0 W
  have cD:=xrb w _ ht;have bG:=fun W (hW:Below w.heap.size w W)=>(hW.cell (p:=⟨bt,0,none⟩) cD).trans ht
  unfold nptr at bG;have kl:=fun W (hW:Below w.heap.size w W) n hn=>(hN n hn).below hW
  have ee:=fun W (hW:Below w.heap.size w W) (sa:ByteArray) (ha:sa.size<=2000000) (hk:qac (bl sa)=(qac (bl s)).dropLast)=>qcr T hr a_ sa ha W (kl W hW) (nptr p.blk) (by rw[hk,hp])
  have ay:∀n∈nodes,n.key≠qac (bl s):=fun n hn e=>by rw[qb0 T hn e]at hf;cases hf
  have iy:=fun W (hW:Below w.heap.size w W) (nm:Bs) (bQ:qbr nm=true) (dR:∀n∈nodes,n.key≠p.key++[nm])=>qsv T W (kl W hW) gx q nm bQ dR leaf a b c d (hq.below hW hq.lt) (lG p gx).1 (lG p gx).2.1 (lG p gx).2.2
  unfold nptr at ee iy ⊢;clear hf lG hq
  go_enter func52,ntmps52
  go_wp2_with (first|(go_at_call 80;refine nx.mono ?_;clear nx;rintro e w1 ⟨rfl,aa⟩)|(go_at_call 81;refine(gg _).mono ?_;clear gg;rintro e w2 ⟨⟨sa,qd,rfl,bQ,Cv⟩,ag⟩;have aP:Below w.heap.size w w2:=qab aa ag;have ub:=bG w2 aP))
  have hk:qac (bl sa)=(qac (bl s)).dropLast:=by rw[bQ,List.dropLast_concat]
  refine(ee w2 aP sa (by omega) hk).mono ?_
  rintro e w3 ⟨rfl,aM⟩
  have bH:Below w.heap.size w w3:=qab aP aM;have wU:qbr (bl qd)=true:=qby (k:=qac (bl s)) (by rw[<-qcd];exact hv) (by rw[bQ];simp);have o_:p.key++[bl qd]=qac (bl s):=by rw[dS,<- hk,bQ]
  have hh:=iy w3 bH (bl qd) wU (fun n hn=>by rw[o_];exact ay n hn);rw[qtz]at hh;clear iy ee bG hk bQ;have Ad:Hid (p.key++[bl qd]=qac (bl s)):=o_;clear o_ dS
  go_wp2_with (go_at_call 82;refine hh.mono ?_;clear hh;rintro e w4 ⟨rfl,ks,at_,sl,aK⟩)
  go_ret
  exact .inr ⟨HE.out,rfl,⟨p,bl qd,ks,at_,sl,gx,dU,Ad.out.symm,mB,ay,aK.from bH⟩⟩
 ·have aW:(qbo nodes (bl s) ok != 0)=true:=by simpa using he
  unfold nptr;generalize hE:qbo nodes (bl s) ok=E at nx aW;have HE:Hid (qbo nodes (bl s) ok=E):=hE;clear hE he hN T ht hr a_ lG hq
  go_enter func52,ntmps52
  go_wp2_with (go_at_call 80;refine nx.mono ?_;rintro e w1 ⟨rfl,aa⟩)
  go_ret
  exact .inl ⟨by rw[HE.out];simpa using aW,qhl HE.out.symm,aa⟩
structure Tag where
 k:Nat
 t:Nat
 i:Nat
variable {τ τ':Nat->Tag}
abbrev Tag.free:Tag:=⟨0,0,0⟩
abbrev Tag.node (t i:Nat):Tag:=⟨1,t,i⟩
abbrev Tag.row (t i:Nat):Tag:=⟨2,t,i⟩
abbrev Tag.tow (t:Nat):Tag:=⟨3,t,0⟩
abbrev Tag.book (t:Nat):Tag:=⟨13,t,0⟩
abbrev Tag.work (t:Nat):Tag:=⟨14,t,0⟩
def Tag.prog(t:Nat):Tag->Prop
 |⟨1,t',_⟩=>t'=t
 |⟨2,t',_⟩=>t'=t
 |⟨3,t',_⟩=>t'=t
 |⟨13,t',_⟩=>t'=t
 |⟨14,t',_⟩=>t'=t
 |_=>False
structure qf1 (τ : Nat->Tag) (t:Nat) (W:World) (bt:Nat) (nodes:List Node) (c1 c2 c3:Value):Prop where
 tree:Tree nodes
 ins:∀n∈nodes,qag W n
 tags:∀(i:Nat) (n:Node),nodes[i]?=some n -> τ n.blk=.node t n.blk/\∀g,n.sl.ownBlock=some g -> τ g=.row t n.blk
 tow:∃r,nodes[0]?=some r/\Blk W bt 102 #[nptr r.blk,c1,c2,c3]
 ttag : τ bt=.tow t
 binj:∀a∈nodes,∀b∈nodes,a.blk=b.blk->a=b
theorem qf1.keep{t:Nat}(h:qf1 τ t W bt nodes c1 c2 c3)(k:Keep T W W')(hT:∀b,b<W.heap.size->T b->¬(τ b).prog t)
  (hτ : ∀b,b<W.heap.size -> τ' b = τ b):qf1 τ' t W' bt nodes c1 c2 c3:=by
 obtain⟨r,hr,hb⟩:=h.tow;have ak:∀(i:Nat) (n:Node),nodes[i]?=some n->n.blk<W.heap.size/\∀g,n.sl.ownBlock=some g->g<W.heap.size:=fun i n hn =>
  ⟨(h.ins n (xr2 hn)).lt,fun g hg=>((h.ins n (xr2 hn)).row.lt g hg).2⟩
 refine⟨h.tree,fun n hn=>?_,fun i n hn=>?_,⟨r,hr,?_⟩,?_,h.binj⟩
 ·obtain⟨i,hi⟩:=xre hn;obtain⟨t1,t2⟩:=h.tags i n hi;obtain⟨l1,l2⟩:=ak i n hi
  exact(h.ins n hn).keep k (fun hb=>hT _ l1 hb (by rw[t1];rfl)) (fun g hg hb=>hT _ (l2 g hg) hb (by rw[t2 g hg];rfl))
 ·obtain⟨t1,t2⟩:=h.tags i n hn;obtain⟨l1,l2⟩:=ak i n hn
  exact⟨by rw[hτ _ l1];exact t1,fun g hg=>by rw[hτ _ (l2 g hg)];exact t2 g hg⟩
 ·exact hb.keep k (fun bh=>hT _ hb.lt bh (by rw[h.ttag];rfl))
 ·rw[hτ _ hb.lt];exact h.ttag
theorem qf1.hung{t:Nat}(h:qf1 τ t W bt nodes c1 c2 c3)(kK:Below W.heap.size W w){q:Nat}(hq:W.heap.size<=q){s:Bs}{b:Int}
  (hv:qar s=true) (hd:qep s<=4) (ef:(0<=a/\a<=1000)/\(0<=b/\b<=1000)/\(0<=c/\c<=1000)/\(0<=d/\d<=1000)/\(leaf=false->a=0/\b=0))
  (hp:qkx nodes q s leaf a b c d w w') :
  ∃τ' ar,(∀x,x<W.heap.size -> τ' x = τ x)/\(∀x,W.heap.size<=x -> τ' x=.free\/(τ' x).prog t)/\qf1 τ' t w' bt ar c1 c2 c3/\ar.map Node.ent=nodes.map Node.ent++[⟨qac s,leaf,a,b,c,d⟩] /\
   Keep (fun x=>(x<W.heap.size/\((τ x).k=1\/(τ x).k=2)/\(τ x).t=t)) W w'/\(∀n∈nodes,∃n'∈ar,n'.blk=n.blk/\n'.key=n.key)/\(∀x,W.heap.size<=x -> τ' x=.free\/(τ' x).k=1\/(τ' x).k=2):=by
 obtain⟨p,nm,ks,at_,sl,gx,dU,bQ,mB,ay,H⟩:=hp.ex;have T:=h.tree;obtain⟨j,hj⟩:=xre gx;have vd:∀n∈nodes,qag w n:=fun n hn=>(h.ins n hn).below kK
 have ak:∀n∈nodes,n.blk<W.heap.size/\∀g,n.sl.ownBlock=some g->g<W.heap.size:=fun n hn=>⟨(h.ins n hn).lt,fun g hg=>((h.ins n hn).row.lt g hg).2⟩
 obtain⟨p',ml⟩:∃p',p'=p.qd4 at_ q sl:=⟨_,rfl⟩;obtain⟨m,hm⟩:∃m:Node,m={blk:=q,key:=p.key++[nm],leaf:=leaf,n0:=a,n1:=b,b0:=c,b1:=d,up:=some p.blk,sl:=.slice none 0 0,kids:=[]}:=⟨_,rfl⟩;have df:m.key=p.key++[nm]:=by rw[hm]
 obtain⟨up,di⟩:∃up:Node->Node,up=fun n=>if n.key=p.key then p' else n:=⟨_,rfl⟩
 have so:up p=p':=by rw[di];simp
 have xq:∀n∈nodes,n.key≠p.key->up n=n:=fun n hn hk=>by rw[di];simp[hk]
 have n8:∀n∈nodes,(n=p/\up n=p')\/(n.key≠p.key/\up n=n):=fun n hn=>by
  by_cases hk:n.key=p.key
  ·obtain rfl:=T.inj n hn p gx hk;exact .inl ⟨rfl,so⟩
  ·exact .inr ⟨hk,xq n hn hk⟩
 have jx:p'.key=p.key/\p'.leaf=p.leaf/\p'.n0=p.n0/\p'.n1=p.n1/\p'.b0=p.b0/\p'.b1=p.b1/\p'.up=p.up/\p'.blk=p.blk/\p'.sl=sl/\p'.kids=p.kids.take at_++q::p.kids.drop at_:=by rw[ml];simp[Node.qd4]
 have dX:∀n∈nodes,(up n).key=n.key/\(up n).leaf=n.leaf/\(up n).n0=n.n0/\(up n).n1=n.n1/\(up n).b0=n.b0/\(up n).b1=n.b1/\(up n).up=n.up/\(up n).blk=n.blk:=fun n hn=>by
  rcases n8 n hn with ⟨rfl,e⟩|⟨_,e⟩
  ·rw[e];exact⟨jx.1,jx.2.1,jx.2.2.1,jx.2.2.2.1,jx.2.2.2.2.1,jx.2.2.2.2.2.1,jx.2.2.2.2.2.2.1,jx.2.2.2.2.2.2.2.1⟩
  ·rw[e];exact⟨rfl,rfl,rfl,rfl,rfl,rfl,rfl,rfl⟩
 have af:∀n,n∈nodes.map up++[m]↔(∃n0∈nodes,n=up n0)\/n=m:=fun n=>by
  simp only[xri,xrq,List.mem_singleton]
  constructor
  ·rintro(⟨n0,h1,rfl⟩|rfl)
   ·exact .inl ⟨n0,h1,rfl⟩
   ·exact .inr rfl
  ·rintro(⟨n0,h1,rfl⟩|rfl)
   ·exact .inl ⟨n0,h1,rfl⟩
   ·exact .inr rfl
 have gP:∀n∈nodes,n.key≠p.key++[nm]:=fun n hn=>by rw[<-bQ];exact ay n hn
 have wI:qbx (p.key++[nm])=true:=by rw[<-bQ,<- qcd];exact hv
 have lg:(nodes.map up++[m]).map (·.key)=nodes.map (·.key)++[p.key++[nm]]:=by
  simp only[List.map_append,List.map_map,List.map_cons,List.map_nil,df]
  congr 1
  exact List.map_congr_left (fun n hn=>(dX n hn).1)
 obtain⟨τ',gY⟩:∃τ':Nat->Tag,τ'=fun x=>if x<W.heap.size then τ x else if x=q then .node t q else if sl.ownBlock=some x then .row t p.blk else .free:=⟨_,rfl⟩
 have fr:∀x,x<W.heap.size -> τ' x = τ x:=fun x hx=>by rw[gY];simp[hx]
 have CH : τ' q=.node t q:=by rw[gY];simp[Nat.not_lt.2 hq]
 have mo:=h.tags j p hj;have dh:∀g,sl.ownBlock=some g -> τ' g=.row t p.blk:=fun g hg=>by
  rcases H.own with e|⟨g',e,cd⟩
  ·rw[e]at hg;rw[fr g ((ak p gx).2 g hg)];exact mo.2 g hg
  ·rw[e]at hg;cases hg;have h1:¬g<W.heap.size:=by have:=kK.size;omega
   have h2:g≠q:=fun e2=>by
    have:=H.new.lt
    have:=(H.par.row.lt g (by rw[show(p.qd4 at_ q sl).sl=sl from rfl,e])).2
    have hA:=H.new.at_;obtain⟨_,hr⟩:=H.par.row
    rcases hr with ⟨dd,_⟩|⟨g2,cap,aH,dd,_,eR,_⟩
    ·rw[show(p.qd4 at_ q sl).sl=sl from rfl]at dd;rw[dd]at e;cases e
    ·rw[show(p.qd4 at_ q sl).sl=sl from rfl]at dd;rw[dd]at e;injection e with e;have e3:g2=q:=(show g2=g from e).trans e2;rw[e3]at eR;have h9:=eR.symm.trans hA;injection h9 with h9;injection h9 with _ h9 _
     exact absurd h9 (by decide)
   rw[gY];simp[h1,h2,e]
 have qF:Keep (fun x=>(x<W.heap.size/\((τ x).k=1\/(τ x).k=2)/\(τ x).t=t)) W w':=by
  refine⟨H.keep.os.trans kK.os,H.keep.tape.trans kK.tape,H.keep.output.trans kK.output,Nat.le_trans kK.size H.keep.size,fun x hx hn=>?_⟩
  refine(H.keep.block x (xrg hx kK.size) ?_).trans (kK.block x hx)
  rintro(rfl|rfl|e)
  ·exact hn ⟨hx,by rw[mo.1];simp⟩
  ·omega
  ·exact hn ⟨hx,by rw[mo.2 x e];simp⟩
 have oZ:∀n∈nodes,n≠p->qag w' n:=fun n hn mg=>by
  obtain⟨i,hi⟩:=xre hn;obtain⟨t1,t2⟩:=h.tags i n hi
  refine(vd n hn).keep H.keep ?_ ?_
  ·rintro(e|e|e)
   ·exact mg (h.binj n hn p gx e)
   ·have:=(ak n hn).1;omega
   ·rw[mo.2 _ e]at t1;cases t1
  ·intro g hg;have t3:=t2 g hg
   rintro(e|e|e)
   ·rw[e,mo.1]at t3;cases t3
   ·have:=(ak n hn).2 g hg;omega
   ·rw[mo.2 _ e]at t3;injection t3 with _ _ t3;exact mg (h.binj n hn p gx t3.symm)
 have vK:∀a∈nodes.map up++[m],∀b∈nodes.map up++[m],a.blk=b.blk->a=b:=fun a ha b hb e=>by
  have ln:m.blk=q:=by rw[hm]
  rcases(af a).1 ha with ⟨x,hx,rfl⟩|rfl
  ·rcases(af b).1 hb with ⟨y,hy,rfl⟩|rfl
   ·rw[(dX x hx).2.2.2.2.2.2.2,(dX y hy).2.2.2.2.2.2.2]at e;rw[h.binj x hx y hy e]
   ·rw[(dX x hx).2.2.2.2.2.2.2,ln]at e;have:=(ak x hx).1;omega
  ·rcases(af b).1 hb with ⟨y,hy,rfl⟩|rfl
   ·rw[(dX y hy).2.2.2.2.2.2.2,ln]at e;have:=(ak y hy).1;omega
   ·rfl
 refine⟨τ',nodes.map up++[m],fr,?_,⟨?_,?_,?_,?_,?_,vK⟩,?_,qF,fun n hn=>⟨up n,(af _).2 (.inl ⟨n,hn,rfl⟩),(dX n hn).2.2.2.2.2.2.2,(dX n hn).1⟩,?_⟩
 ·intro x hx;rw[gY];simp only[Nat.not_lt.2 hx,if_false]
  by_cases h1:x=q
  ·right;simp[h1,Tag.prog]
  ·by_cases h2:sl.ownBlock=some x
   ·right;simp[h1,h2,Tag.prog]
   ·left;simp[h1,h2]
 ·-- the tree
  refine⟨?_,?_,?_,?_,?_,?_,?_,?_,?_⟩
  ·obtain⟨r,h0,h1,h2,h3,h4⟩:=T.root;have nx:=xr2 h0;have u:=dX r nx
   refine⟨up r,?_,by rw[u.1];exact h1,by rw[u.2.1];exact h2,by rw[u.2.2.2.2.1];exact h3,by rw[u.2.2.2.2.2.1];exact h4⟩
   rw[xrp (by simp;exact(xr0.1 h0).1)]
   simp[h0]
  ·intro n hn n2 dR e
   rcases(af n).1 hn with ⟨x,hx,rfl⟩|rfl<;>rcases(af n2).1 dR with ⟨y,hy,rfl⟩|rfl
   ·rw[(dX x hx).1,(dX y hy).1]at e;rw[T.inj x hx y hy e]
   ·rw[(dX x hx).1,df]at e;exact absurd e (gP x hx)
   ·rw[(dX y hy).1,df]at e;exact absurd e.symm (gP y hy)
   ·rfl
  ·rw[lg]
   refine List.nodup_append.2 ⟨T.nodup,by simp,?_⟩
   intro k hk k2 aY e;simp only[List.mem_singleton]at aY;obtain⟨n,hn,rfl⟩:=xrq.1 hk;rw[aY]at e;exact gP n hn e
  ·intro n hn
   rcases(af n).1 hn with ⟨x,hx,rfl⟩|rfl
   ·rw[(dX x hx).1];exact T.ok x hx
   ·rw[df];refine⟨wI,?_⟩;rw[<-bQ];exact hd
  ·intro n hn
   rcases(af n).1 hn with ⟨x,hx,rfl⟩|rfl
   ·obtain⟨_,u1,u2,u3,u4,u5,_⟩:=dX x hx;rw[u1,u2,u3,u4,u5];exact T.num x hx
   ·rw[hm];exact ef
  ·intro n hn hk
   rcases(af n).1 hn with ⟨x,hx,rfl⟩|rfl
   ·rw[(dX x hx).2.2.2.2.2.2.1];exact T.top x hx (by rw[<-(dX x hx).1];exact hk)
   ·rw[df]at hk;simp at hk
  ·intro n hn k x hk
   rcases(af n).1 hn with ⟨y,hy,rfl⟩|rfl
   ·rw[(dX y hy).1]at hk;obtain⟨pp,h1,h2,h3,h4⟩:=T.par y hy k x hk;obtain⟨v1,v2,_,_,_,_,_,v3⟩:=dX pp h1
    exact⟨up pp,(af _).2 (.inl ⟨pp,h1,rfl⟩),by rw[v1];exact h2,by rw[v2];exact h3,by rw[(dX y hy).2.2.2.2.2.2.1,v3];exact h4⟩
   ·rw[df]at hk;obtain⟨e1,e2⟩:=List.append_inj' hk rfl
    refine⟨p',(af _).2 (.inl ⟨p,gx,so.symm⟩),by rw[jx.1];exact e1,by rw[jx.2.1];exact dU,by rw[hm,jx.2.2.2.2.2.2.2.1]⟩
  ·intro n hn
   rcases(af n).1 hn with ⟨y,hy,rfl⟩|rfl
   ·rcases n8 y hy with ⟨rfl,e⟩|⟨aW,e⟩
    ·-- the parent
     rw[e]
     refine⟨(ks.map up).take at_++m::(ks.map up).drop at_,?_,?_,?_⟩
     ·rw[jx.2.2.2.2.2.2.2.2.2,H.kids]
      have:(ks.map up).map (·.blk)=ks.map (·.blk):=by
       rw[List.map_map];exact List.map_congr_left (fun n hn=>(dX n ((H.mem n).1 hn).1).2.2.2.2.2.2.2)
      rw[List.map_append,List.map_cons,List.map_take,List.map_drop,this,hm]
     ·intro k;rw[jx.1];have bD:k∈(ks.map up).take at_++m::(ks.map up).drop at_↔k∈ks.map up\/k=m:=by
       simp only[xri,List.mem_cons]
       constructor
       ·rintro(h1|h1|h1)
        ·exact .inl (List.mem_of_mem_take h1)
        ·exact .inr h1
        ·exact .inl (List.mem_of_mem_drop h1)
       ·rintro(h1|h1)
        ·rw[<-List.take_append_drop at_ (ks.map up)]at h1
         rcases xri.1 h1 with h2|h2
         ·exact .inl h2
         ·exact .inr (.inr h2)
        ·exact .inr (.inl h1)
      rw[bD,af]
      constructor
      ·rintro(h1|rfl)
       ·obtain⟨z,hz,rfl⟩:=xrq.1 h1;obtain⟨sM,x,hx⟩:=(H.mem z).1 hz
        exact⟨.inl ⟨z,sM,rfl⟩,x,by rw[(dX z sM).1];exact hx⟩
       ·exact⟨.inr rfl,nm,df⟩
      ·rintro⟨h1|rfl,x,hx⟩
       ·obtain⟨z,hz,rfl⟩:=h1;rw[(dX z hz).1]at hx
        exact .inl (xrq.2 ⟨z,(H.mem z).2 ⟨hz,x,hx⟩,rfl⟩)
       ·exact .inr rfl
     ·have jc:((ks.map up).take at_++m::(ks.map up).drop at_).map (fun k=>qad k.key)=(ks.map fun k=>qad k.key).take at_++nm::(ks.map fun k=>qad k.key).drop at_:=by
       have:(ks.map up).map (fun k=>qad k.key)=ks.map fun k=>qad k.key:=by
        rw[List.map_map];exact List.map_congr_left (fun n hn=>by simp only[Function.comp];rw[(dX n ((H.mem n).1 hn).1).1])
       rw[List.map_append,List.map_cons,List.map_take,List.map_drop,this,df,qaq]
      rw[jc];obtain⟨f1,f2,f3,f4⟩:=H.found;have hs:=H.sort;generalize (ks.map fun k=>qad k.key)=ns at hs f1 f2 f3 f4;have gW:=List.take_append_drop at_ ns;rw[<-gW]at hs;obtain⟨s1,s2,s3⟩:=xrx.1 hs
      refine xrx.2 ⟨s1,List.pairwise_cons.2 ⟨?_,s2⟩,?_⟩
      ·intro y hy;obtain⟨i,hi⟩:=xre hy;rw[List.getElem?_drop]at hi;have g1:=f3 (at_+i) y (by omega) hi;have g2:cmpB y nm≠0:=fun e0=>by
        have:=qic _ _ e0
        subst this
        rcases Nat.eq_zero_or_pos i with rfl|dC
        ·have:=f4.2 (by simpa using hi);cases this
        ·have bN:at_<ns.length:=by have:=(xr0.1 hi).1;omega
         have g3:=f3 at_ _ (Nat.le_refl _) (xr1 bN);have g4:=List.pairwise_iff_getElem.1 H.sort;have jW:=hs;rw[gW]at jW;have g5:=List.pairwise_iff_getElem.1 jW at_ (at_+i) bN (xr0.1 hi).1 (by omega);rw[(xr0.1 hi).2]at g5
         omega
       have g6:cmpB nm y = - cmpB y nm:=qk5 _ _
       omega
      ·intro x hx y hy;obtain⟨i,hi⟩:=xre hx;rw[List.getElem?_take]at hi
       split at hi
       ·rename_i bN
        have g1:=f2 i x bN hi
        rcases List.mem_cons.1 hy with rfl|hy
        ·exact g1
        ·exact s3 x hx y hy
       ·cases hi
    ·rw[e];obtain⟨xA,k1,k2,k3⟩:=T.kids y hy
     refine⟨xA.map up,?_,?_,?_⟩
     ·rw[k1,List.map_map];exact List.map_congr_left (fun n hn=>((dX n ((k2 n).1 hn).1).2.2.2.2.2.2.2).symm)
     ·intro k;rw[af]
      constructor
      ·intro h1;obtain⟨z,hz,rfl⟩:=xrq.1 h1;obtain⟨sM,x,hx⟩:=(k2 z).1 hz
       exact⟨.inl ⟨z,sM,rfl⟩,x,by rw[(dX z sM).1];exact hx⟩
      ·rintro⟨h1|rfl,x,hx⟩
       ·obtain⟨z,hz,rfl⟩:=h1;rw[(dX z hz).1]at hx
        exact xrq.2 ⟨z,(k2 z).2 ⟨hz,x,hx⟩,rfl⟩
       ·rw[df]at hx
        exact absurd (List.append_inj' hx rfl).1.symm aW
     ·have:(xA.map up).map (fun k=>qad k.key)=xA.map fun k=>qad k.key:=by
       rw[List.map_map];exact List.map_congr_left (fun n hn=>by simp only[Function.comp];rw[(dX n ((k2 n).1 hn).1).1])
      rw[this];exact k3
   ·refine⟨[],by rw[hm];rfl,fun k=>?_,by simp⟩
    constructor
    ·intro h1;cases h1
    ·rintro⟨h1,x,hx⟩
     rw[df]at hx
     rcases(af k).1 h1 with ⟨z,hz,rfl⟩|rfl
     ·rw[(dX z hz).1]at hx;obtain⟨pp,g1,g2,_⟩:=T.par z hz _ _ hx
      exact absurd g2 (gP pp g1)
     ·rw[df]at hx
      have:=congrArg List.length hx;simp at this
  ·simp;omega
 ·intro n hn
  rcases(af n).1 hn with ⟨y,hy,rfl⟩|rfl
  ·rcases n8 y hy with ⟨rfl,e⟩|⟨aW,e⟩
   ·rw[e,ml];exact H.par
   ·rw[e]
    exact oZ y hy (fun e2=>by subst e2;exact aW rfl)
  ·rw[hm];exact H.new
 ·intro i n hi
  rcases Nat.lt_or_ge i nodes.length with eW|oI
  ·rw[xrp (by simpa using eW)]at hi;simp only[xrs,Option.map_eq_some_iff]at hi;obtain⟨y,hy,rfl⟩:=hi;have pB:=xr2 hy;obtain⟨t1,t2⟩:=h.tags i y hy
   refine⟨by rw[(dX y pB).2.2.2.2.2.2.2,fr _ (ak y pB).1];exact t1,fun g hg=>?_⟩
   rcases n8 y pB with ⟨rfl,e⟩|⟨aW,e⟩
   ·rw[e,jx.2.2.2.2.2.2.2.2.1]at hg;rw[(dX _ pB).2.2.2.2.2.2.2];exact dh g hg
   ·rw[e]at hg ⊢;rw[fr _ ((ak y pB).2 g hg)];exact t2 g hg
  ·rw[xro (by simpa using oI)]at hi;simp only[List.length_map]at hi
   have:i=nodes.length:=by
    rcases Nat.eq_zero_or_pos (i-nodes.length) with h0|h0
    ·omega
    ·rw[List.getElem?_eq_none (by simp;omega)]at hi;cases hi
   subst this
   simp at hi
   subst hi;rw[hm]
   exact⟨CH,fun g hg=>by cases hg⟩
 ·obtain⟨r,h0,hb⟩:=h.tow
  refine⟨up r,?_,?_⟩
  ·rw[xrp (by simp;exact(xr0.1 h0).1)];simp[h0]
  ·rw[(dX r (xr2 h0)).2.2.2.2.2.2.2]
   refine(hb.below kK hb.lt).keep H.keep ?_
   rintro(e|e|e)
   ·have:=h.ttag;rw[e,mo.1]at this;cases this
   ·have:=hb.lt;omega
   ·have:=h.ttag;rw[mo.2 _ e]at this;cases this
 ·obtain⟨r,h0,hb⟩:=h.tow;rw[fr _ hb.lt];exact h.ttag
 ·rw[List.map_append,List.map_map]
  congr 1
  ·exact List.map_congr_left (fun n hn=>by
    obtain⟨u0,u1,u2,u3,u4,u5,_⟩:=dX n hn;simp only[Function.comp,Node.ent,u0,u1,u2,u3,u4,u5])
  ·rw[hm,bQ];rfl
 ·intro x hx;rw[gY];simp only[Nat.not_lt.2 hx,if_false]
  by_cases h1:x=q
  ·right;simp[h1]
  ·by_cases h2:sl.ownBlock=some x
   ·right;simp[h1,h2]
   ·left;simp[h1,h2]
end Go.Proofs.YtphclnolomgjoaaGreatDoor
