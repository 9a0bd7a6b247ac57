import Derived.Test.YtphclnolomgjoaaGreatDoorE15
import Derived.Test.YtphclnolomgjoaaGreatDoorE14
import Derived.Test.YtphclnolomgjoaaGreatDoorE08
set_option linter.unusedVariables false
set_option linter.unusedSimpArgs false
set_option maxRecDepth 100000
set_option maxHeartbeats 4000000
namespace Go.Proofs.YtphclnolomgjoaaGreatDoor
open Tryz
open Go.RowKit
variable {T:Nat->Prop}{W' d j w w':World}{F1 F2 K M br bt c c2 cW cap n size:Nat}{a2 ao:Option Addr}{Ws:List Wk}{a cnt' last' m st zo:Int}{q r z A p B C ev fM v va vw:Value}{k l ws zh:List Pw}{s:SS}{u ns xs:List Value}{D ms:List Int}{e':Ending}{zt:List (Int×Int)}{e:TypeId}{dW dX:Array Value}
abbrev yd.rwrk (t:Nat):yd:=⟨5,t,1⟩
structure Tw where
 bt:Nat
 za:List zc
 zn:Int
 vw:Value
 va:Value
 ws:List Pw
 zh:List Pw
 br:Nat
 g:Nat
 cap:Nat
 L:List zx
 ao:Option Addr
 cW:Nat
 Ws:List Wk
 zo:Int
 st:Int
def Tw.wv(x:Tw):Value:=.slice x.ao x.Ws.length x.cW
theorem zy.zf{W:World}{g:Nat}{L:List zx}(h:zy W br g cap L ao cW Ws zo st)(a:zd T W W')(c:¬T br)(d:¬T g)(h3:∀b,(Value.slice ao Ws.length cW).ownBlock=some b->¬T b):zy W' br g cap L ao cW Ws zo st :=
 ⟨h.ref.zf a c d,s8 h.yc a h3,h.ne1⟩
theorem zy.lts{W:World}{g:Nat}{L:List zx}(h:zy W br g cap L ao cW Ws zo st):br<W.heap.size/\g<W.heap.size/\∀b,(Value.slice ao Ws.length cW).ownBlock=some b->b<W.heap.size:=⟨h.ref.zl.lt,(h.ref.row.lt g rfl).2,fun b hb=>UI h.yc hb⟩
structure TwS (τ : Nat->yd) (W:World) (t:Nat) (x:Tw):Prop where
 P:UJ τ t W x.bt x.za x.zn x.vw x.va x.ws x.zh
 R:zy W x.br x.g x.cap x.L x.ao x.cW x.Ws x.zo x.st
 tr : τ x.br=.ref t
 tg : τ x.g=.rrow t
 tw:∀b,x.wv.ownBlock=some b -> τ b=.rwrk t
def Yi (l:List Tw):List Value:=l.flatMap fun x=>[vP x.bt,vP x.br]
theorem c5:∀(l:List Tw) (t:Nat) (x y:Tw),l[t]?=some x->y.bt=x.bt->y.br=x.br->Yi (l.set t y)=Yi l
 | [],_,_,_,h,_,_=>by simp at h
 |a::l,0,x,y,h,b,c=>by simp at h;subst h;simp[Yi,b,c]
 |a::l,t+1,x,y,h,b,c=>by
  have d:=c5 l t x y (j_ h) b c;simp only[Yi,UD,List.flatMap_cons]at d ⊢;rw[d]
structure StAt (i:Nat) (τ : Nat->yd) (W:World) (bw:Nat) (f:List Tw) (N:Nat) (p A C z B:Value) (ns u:List Value) (ms D:List Int):Prop where
 law:Xp τ W bw p A C z B ns u ms D
 n1:ns.length<=N
 n2:u.length<=N
 row:W.ownsRow 0 128 2 p f.length (Yi f)
 tT:∀g,p.ownBlock=some g -> τ g=.lawT
 tw:∀(t:Nat) x,f[t]?=some x->TwS τ W t x
 lo:∀b,b<i -> τ b=.free
 le:i<=W.heap.size
def St (i:Nat)(τ : Nat->yd)(W:World)(bw:Nat)(f:List Tw)(N:Nat):Prop:=∃p A C z B ns u ms D,StAt i τ W bw f N p A C z B ns u ms D
theorem UJ.cy{τ τ':Nat->yd}{t:Nat}{W:World}{za:List zc}{zn:Int}(h:UJ τ t W bt za zn vw va ws zh)(l:∀b,b<W.heap.size -> τ b≠.free -> τ' b = τ b):UJ τ' t W bt za zn vw va ws zh:=by
 obtain⟨l1,l2,m⟩:=h.lts;have zb:∀b k,b<W.heap.size -> τ b=k->k.k≠0 -> τ' b=k:=fun b k hb f a=>by rw[l b hb (by rw[f];intro e;rw[e]at a;exact a rfl)];exact f
 refine⟨⟨h.pr.tree,h.pr.yj,fun i n d=>?_,h.pr.tow,zb _ _ l1 h.pr.ui s_,h.pr.uk⟩,h.bk,fun b hb=>zb _ _ (l2 b hb) (h.vf b hb) s_,fun p hp=>zb _ _ (m p hp) (h.ptag p hp) s_⟩
 obtain⟨o,q⟩:=h.pr.tags i n d;have j:=h.pr.yj n (Uq d)
 exact⟨zb _ _ j.lt o s_,fun g c=>zb _ _ (j.row.lt g c).2 (q g c) s_⟩
theorem TwS.cy{τ τ':Nat->yd}{W:World}{t:Nat}{x:Tw}(h:TwS τ W t x)(d:∀b,b<W.heap.size -> τ b≠.free -> τ' b = τ b):TwS τ' W t x:=by
 obtain⟨l1,l2,f⟩:=h.R.lts;have zb:∀b k,b<W.heap.size -> τ b=k->k.k≠0 -> τ' b=k:=fun b k hb c a=>by rw[d b hb (by rw[c];intro e;rw[e]at a;exact a rfl)];exact c
 exact⟨h.P.cy d,h.R,zb _ _ l1 h.tr s_,zb _ _ l2 h.tg s_,fun b hb=>zb _ _ (f b hb) (h.tw b hb) s_⟩
theorem TwS.zf{τ τ':Nat->yd}{W:World}{t:Nat}{x:Tw}(h:TwS τ W t x)(e:zd T W W')(a:∀b,b<W.heap.size->T b->¬(τ b).prog t/\¬(τ b).refs t)(c:∀b,b<W.heap.size -> τ' b = τ b):TwS τ' W' t x:=by
 obtain⟨l1,l2,f⟩:=h.R.lts;have i:(τ x.br).refs t:=by rw[h.tr];rfl
 have k:(τ x.g).refs t:=by rw[h.tg];rfl
 have j:∀b,x.wv.ownBlock=some b->(τ b).refs t:=fun b hb=>by rw[h.tw b hb];rfl
 exact⟨h.P.zf e (fun b hb d=>(a b hb d).1) c,h.R.zf e (fun hb=>(a _ l1 hb).2 i) (fun hb=>(a _ l2 hb).2 k) (fun b hb d=>(a _ (f b hb) d).2 (j b hb)),by rw[c _ l1];exact h.tr,by rw[c _ l2];exact h.tg,fun b hb=>by rw[c _ (f b hb)];exact h.tw b hb⟩
structure Vo (τ : Nat->yd) (W:World) (τ':Nat->yd) (w':World):Prop where
 old:∀b,b<W.heap.size -> τ' b = τ b
 zf:zd (fun b=>b<W.heap.size /\ τ b≠.free) W w'
theorem Vo.refl(τ : Nat->yd)(W:World):Vo τ W τ W:=⟨fun _ _=>rfl,zd.refl _ _⟩
theorem Vo.trans{τ τ1 τ2:Nat->yd}{W:World}(h:Vo τ W τ1 d)(k:Vo τ1 d τ2 j):Vo τ W τ2 j:=by
 have a:=h.zf.size
 refine⟨fun b hb=>by rw[k.old b o_,h.old b hb],h.zf.step k.zf (fun b hb e=>⟨hb,?_⟩)⟩
 rw[h.old b hb]at e
 exact e.2
theorem Vo.below{τ : Nat->yd}{W:World}(hb:Bw W W'):Vo τ W (Vq τ W.heap.size) W':=⟨fun b h=>VK h,zd.new hb⟩
theorem Vo.own{τ τ1 τ2:Nat->yd}{W:World}{o:Option Nat}(h:Vo τ W τ1 d)(k:OwnT τ1 d o τ2 j)(a:∀b,o=some b->W.heap.size<=b):Vo τ W τ2 j:=by
 have f:=h.zf.size
 refine⟨fun b hb=>by rw[k.old b o_ (fun e=>by have:=a b e;omega),h.old b hb],h.zf.step k.zf (fun b hb e=>⟨hb,?_⟩)⟩
 obtain⟨_,e⟩:=e
 rcases e with e|e
 ·rw[h.old b hb]at e;intro c;rw[c]at e;exact e
 ·have:=a b e;omega
theorem St.zf{i:Nat}{τ τ':Nat->yd}{W:World}{bw:Nat}{f:List Tw}{N:Nat}(h:St i τ W bw f N)(c:zd T W W')(e:∀b,b<W.heap.size->T b -> τ b=.free)(d:∀b,b<W.heap.size -> τ' b = τ b):St i τ' W' bw f N:=by
 obtain⟨p,A,C,z,B,ns,u,ms,D,h⟩:=h
 refine⟨p,A,C,z,B,ns,u,ms,D,⟨h.law.zf c (fun b hb j=>by rw[e b hb j];exact fun h=>h) d,h.n1,h.n2,?_,?_,?_,?_,Nat.le_trans h.le c.size⟩⟩
 ·exact s8 h.row c (fun g a m=>by have:=e g (UI h.row a) m;rw[h.tT g a]at this;cases this)
 ·exact fun g a=>by rw[d _ (UI h.row a)];exact h.tT g a
 ·exact fun t x k=>(h.tw t x k).zf c (fun b hb l=>by rw[e b hb l];exact⟨fun h=>h,fun h=>h⟩) d
 ·exact fun b hb=>by rw[d _ (VJ hb h.le)];exact h.lo b hb
theorem St.below{i:Nat}{τ : Nat->yd}{W:World}{bw:Nat}{f:List Tw}{N:Nat}(h:St i τ W bw f N)(hb:Bw W W'):St i (Vq τ W.heap.size) W' bw f N :=
 h.zf (T:=fun _=>False) (zd.new hb) (fun _ _ h=>h.elim) (fun b hb=>VK hb)
theorem St.mm{i:Nat}{τ τ':Nat->yd}{W:World}{bw:Nat}{f:List Tw}{N:Nat}(h:St i τ W bw f N){t:Nat}{x:Tw}(n:f[t]?=some x){m:List zc} 
  (m1:∀b,b<W.heap.size -> τ' b = τ b) (G:UJ τ' t w' x.bt m last' q r l k) (c:zd (fun b=>b<W.heap.size/\(τ b).prog t) W w') :
  Vo τ W τ' w'/\St i τ' w' bw (f.set t {x with za:=m,zn:=last',vw:=q,va:=r,ws:=l,zh:=k}) N:=by
 obtain⟨p,A,C,z,B,ns,u,ms,D,h⟩:=h;have E:=(Uy.1 n).1
 refine⟨⟨m1,c.mono (fun b hb=>⟨hb.1,fun e=>by have:=hb.2;rw[e]at this;exact this⟩)⟩,⟨p,A,C,z,B,ns,u,ms,D,⟨h.law.zf c ?_ m1,h.n1,h.n2,?_,?_,?_,?_,Nat.le_trans h.le c.size⟩⟩⟩
 ·intro b hb ⟨_,hp⟩ y;have H:=yd.Yy hp;have q2:=yd.aZ y;omega
 ·rw[List.length_set,c5 f t x {x with za:=m,zn:=last',vw:=q,va:=r,ws:=l,zh:=k} n rfl rfl]
  refine s8 h.row c (fun g d hp=>?_)
  have:=h.tT g d
  have v:=hp.2;rw[this]at v;exact v
 ·intro g d;rw[m1 _ (UI h.row d)];exact h.tT g d
 ·intro s I j
  by_cases e:s=t
  ·subst e;rw[List.getElem?_set_self E]at j
   cases j
   have a:=h.tw s x n;obtain⟨l1,l2,F⟩:=a.R.lts
   refine⟨G,a.R.zf c ?_ ?_ ?_,by rw[m1 _ l1];exact a.tr,by rw[m1 _ l2];exact a.tg,fun b hb=>by rw[m1 _ (F b hb)];exact a.tw b hb⟩
   ·rintro⟨_,hp⟩;rw[a.tr]at hp;exact hp
   ·rintro⟨_,hp⟩;rw[a.tg]at hp;exact hp
   ·rintro b hb ⟨_,hp⟩;rw[a.tw b hb]at hp;exact hp
  ·rw[List.getElem?_set_ne (fun w=>e w.symm)]at j
   refine(h.tw s I j).zf c ?_ m1
   rintro b hb ⟨_,hp⟩
   constructor
   ·intro o
    exact e ((yd.Yy o).2.symm.trans (yd.Yy hp).2)
   ·intro o;have H:=yd.Yy hp;have q2:=yd.YF o;omega
 ·intro b hb;rw[m1 _ (VJ hb h.le)];exact h.lo b hb
open Classical in
theorem St.mn{i:Nat}{τ : Nat->yd}{W:World}{bw:Nat}{f:List Tw}{N:Nat}(h:St i τ W bw f N){t:Nat}{x:Tw}(hx:f[t]?=some x){L':List zx}{sl:Value}(hM:V_ W x.br x.g x.wv.ownBlock L' cnt' s sl w'):
  ∃τ' g' cap' gC iU,Vo τ W τ' w'/\St i τ' w' bw (f.set t {x with g:=g',cap:=cap',L:=L',ao:=gC,cW:=iU,Ws:=s.Ws,zo:=cnt',st:=s.st}) N/\zd (fun b=>b<W.heap.size/\(τ b).refs t) W w':=by
 obtain⟨p,A,C,z,B,ns,u,ms,D,h⟩:=h;obtain⟨⟨g',cap',gC,iU,r1,r3,r4⟩,r2,_,_⟩:=hM;have jb:=(Uy.1 hx).1;have hh:=h.tw t x hx;obtain⟨l1,l2,l3⟩:=hh.R.lts;obtain⟨τ',ij⟩:∃τ':Nat->yd,τ'=fun b=>if b<W.heap.size then τ b else if b=g' then .rrow t else if (Value.slice gC s.Ws.length iU).ownBlock=some b then .rwrk t else .free:=⟨_,rfl⟩
 have m1:∀b,b<W.heap.size -> τ' b = τ b:=fun b hb=>by rw[ij];simp[hb]
 have hT:∀b,b<W.heap.size->(b=x.br\/b=x.g\/x.wv.ownBlock=some b)->(τ b).refs t:=by
  rintro b hb (rfl|rfl|e)
  ·rw[hh.tr];rfl
  ·rw[hh.tg];rfl
  ·rw[hh.tw b e];rfl
 refine⟨τ',g',cap',gC,iU,⟨m1,r2.X4 (fun b hb aP=>⟨hb,fun e=>by have:=hT b hb aP;rw[e]at this;exact this⟩)⟩,⟨p,A,C,z,B,ns,u,ms,D,⟨h.law.zf r2 ?_ m1,h.n1,h.n2,?_,?_,?_,?_,Nat.le_trans h.le r2.size⟩⟩,r2.X4 (fun b hb aP=>⟨hb,hT b hb aP⟩)⟩
 ·intro b hb hp hl;have hp:=hT b hb hp;have q1:=yd.YF hp;have q2:=yd.aZ hl;omega
 ·rw[List.length_set,c5 f t x {x with g:=g',cap:=cap',L:=L',ao:=gC,cW:=iU,Ws:=s.Ws,zo:=cnt',st:=s.st} hx rfl rfl]
  refine s8 h.row r2 (fun g hg hp=>?_)
  have:=hT g (UI h.row hg) hp
  rw[h.tT g hg]at this;exact this
 ·intro g hg;rw[m1 _ (UI h.row hg)];exact h.tT g hg
 ·intro t' x' mV
  by_cases e:t'=t
  ·subst e;rw[List.getElem?_set_self jb]at mV
   cases mV
   refine⟨hh.P.zf r2 ?_ m1,r1,by rw[m1 _ l1];exact hh.tr,?_,?_⟩
   ·intro b hb hp hq;have hp:=hT b hb hp;have q1:=yd.YF hp;have q2:=yd.Yy hq;omega
   ·rcases r3 with e|j7
    ·show τ' g'=_
     rw[e,m1 _ l2];exact hh.tg
    ·show τ' g'=_
     rw[ij];simp[Nat.not_lt.2 j7]
   ·intro b hb
    rcases Nat.lt_or_ge b W.heap.size with ak|j7
    ·rw[m1 b ak];exact hh.tw b ((r4 b hb).1 ak)
    ·have aX:=(r1.ne1 b hb).2;rw[ij];simp only[Nat.not_lt.2 j7,if_false,if_neg aX]
     exact if_pos hb
  ·rw[List.getElem?_set_ne (fun e2=>e e2.symm)]at mV
   refine(h.tw t' x' mV).zf r2 ?_ m1
   intro b hb hp;have hp:=hT b hb hp
   constructor
   ·intro lX;have q1:=yd.YF hp;have q2:=yd.Yy lX;omega
   ·intro lX
    exact e ((yd.YF lX).2.symm.trans (yd.YF hp).2)
 ·intro b hb;rw[m1 _ (VJ hb h.le)];exact h.lo b hb
theorem St.told{i:Nat}{τ : Nat->yd}{W:World}{bw:Nat}{f:List Tw}{N:Nat}(h:StAt i τ W bw f N p A C z B ns u ms D){o:Option Nat}(n:∀b,o=some b -> τ b=.free/\i<=b){e:Ending}(s:ax τ W o bw p M e w'):
  ∃τ',OwnT τ W o τ' w'/\St i τ' w' bw f M:=by
 obtain⟨_,τ',F,H,E,G,J,I,L,K,c,r,w,v⟩:=s;have m:=c.zf;have k:∀b,τ b≠.free->o≠some b:=fun b hb e=>hb (n b e).1
 refine⟨τ',c,⟨p,F,H,E,G,J,I,L,K,⟨r,w,v,?_,?_,?_,?_,Nat.le_trans h.le m.size⟩⟩⟩
 ·exact s8 h.row m (fun g j hp=>by
   have d:=h.tT g j
   rcases hp.2 with e|e
   ·rw[d]at e;exact e
   ·rw[(n g e).1]at d;cases d)
 ·intro g j;have d:=h.tT g j;rw[c.old _ (UI h.row j) (k g (by rw[d];simp))];exact d
 ·intro t x y
  refine((h.tw t x y).cy (τ' := τ') (fun b hb l=>c.old b hb (k b l))).zf m ?_ (fun _ _=>rfl)
  rintro b hb ⟨_,a⟩
  rcases a with a|a
  ·have l : τ b≠.free:=fun e=>by rw[e]at a;exact a
   rw[c.old b hb (k b l)]
   constructor
   ·intro hp;have q:=yd.Yy hp;have q2:=yd.hv a;omega
   ·intro hp;have q:=yd.YF hp;have q2:=yd.hv a;omega
  ·rcases c.new b (.inr a) with e|e
   ·rw[e];exact⟨fun h=>h,fun h=>h⟩
   ·constructor
    ·intro hp;have q:=yd.Yy hp;have q2:=yd.aZ e;omega
    ·intro hp;have q:=yd.YF hp;have q2:=yd.aZ e;omega
 ·intro b hb;rw[c.old _ (VJ hb h.le) (fun e=>by have:=(n b e).2;omega)];exact h.lo b hb
theorem yl.waits{za:List zc}(R:yl za Ws ws zh)(T:zr za)(c:U_ za){n:zc}(d:n∈za):(U6 ws n.ze).map (·.x)=UR Ws n.zb Ws.length:=by
 unfold U6 UR;rw[List.take_length];have a:(ws.filter fun p=>p.q == n.ze)=ws.filter fun p=>decide (p.x.zb=n.zb):=List.filter_congr fun p hp=>R.aD T c d (UM _ hp)
 have b:(ws.filter fun p=>decide (p.x.zb=n.zb)).map (·.x)=(ws.map (·.x)).filter fun y=>decide (y.zb=n.zb):=by rw[List.filter_map];rfl
 rw[a,b,R.w,List.filter_filter]
theorem yl.iN{za:List zc}(R:yl za Ws ws zh)(T:zr za)(a:U_ za){n:zc}(b:n∈za):WE (U6 ws n.ze)=WJ (UR Ws n.zb Ws.length)/\(U6 ws n.ze).length=(UR Ws n.zb Ws.length).length:=by
 have h:=R.waits T a b
 refine⟨?_,by rw[<-h];simp⟩
 rw[<-h];unfold WE WJ;rw[List.map_map]
 rfl
theorem yl.told{za:List zc}(R:yl za Ws ws zh)(T:zr za)(b:xm Ws){n:zc}(c:n∈za)(v:Value):
  WU (kN n.zb) n.zj (xt za n.zb) (xr za n.zb) n.b0 n.b1 (yf (pun zh n.zb)) (yg (pun zh n.zb)) v=#[vG (sb (kN n.zq.zb)),.bool n.zq.zj,vI (xj (Uz (za.map zc.zq) (kN n.zq.zb))),vI (xi (Uz (za.map zc.zq) (kN n.zq.zb))),vI n.zq.b0,vI n.zq.b1,vI (yf (Ut Ws (kN n.zq.zb))),vI (yg (Ut Ws (kN n.zq.zb))),v]:=by
 have a:=(T.ok n c).1;unfold WU;rw[(Xz T a).1,(Xz T a).2,(R.use b a).1,(R.use b a).2]
 rfl
theorem yl.work{za:List zc}(R:yl za Ws ws zh)(j:vr Ws st){e:Ending}(b:WrkR ws zh m w e w')(y:cq Ws m e'):e=e'/\Bw w w':=by
 obtain⟨v,a1,a2,_⟩:=R.a;unfold WrkR at b
 rcases y with ⟨x,g,i,rfl⟩|⟨u,rfl⟩
 ·cases c:V1 zh m with
  |some p =>
   simp only[c]at b;have hp:p∈zh:=List.mem_of_find?_eq_some c;have n:p.x.zm=m:=by have:=List.find?_some c;simpa using this
   have o:p.x∈v.map (·.yi 0):=by rw[<-a1];exact VF hp
   obtain⟨z,A,s⟩:=UC.1 o;have f:=Vu.1 (a2.mem_iff.1 A);have h:z=x:=YL j.nums f.1 g (by rw[i,<- n,<- s];rfl);subst h;have k:decide (0<z.st)=true:=f.2;rw[<-s]at b;rw[k]
   exact b
  |none =>
   simp only[c]at b
   cases d:V1 ws m with
   |some p =>
    simp only[d]at b;have hp:p∈ws:=List.mem_of_find?_eq_some d;have n:p.x.zm=m:=by have:=List.find?_some d;simpa using this
    have o:p.x∈Ws.filter fun x=>x.st == 0:=by rw[<-R.w];exact VF hp
    have f:=Vu.1 o;have h:p.x=x:=YL j.nums f.1 g (by rw[i,n]);have k:decide (0<x.st)=false:=by have l:=f.2;rw[h]at l;simp at l;simp[l]
    rw[h]at b;rw[k]
    exact b
   |none =>
    exfalso
    have:=(R.nums (fun x g=>(j.st x g).1)).mem_iff.2 (VF g)
    obtain⟨q,hq,r⟩:=UC.1 this
    rcases UU.1 hq with h3|h3
    ·have:=List.find?_eq_none.1 d q h3;simp[r,i]at this
    ·have:=List.find?_eq_none.1 c q h3;simp[r,i]at this
 ·have t:=R.lost j u;have c:V1 zh m=none:=by
   cases c:V1 zh m with
   |none=>rfl
   |some p=>simp[tp,c,zi]at t
  have d:V1 ws m=none:=by
   cases d:V1 ws m with
   |none=>rfl
   |some p=>simp[tp,c,d,xd,zi]at t
  simp only[c,d]at b
  exact b
theorem dL{f:SS->Option SS}{I:SS->Prop}(hI:∀s a,I s->f s=some a->I a/\a.st=s.st+1):∀(n:Nat) (s:SS),I s->I (wW f n s)/\s.st<=(wW f n s).st/\(wW f n s).st<=s.st+n
 |0,s,h=>⟨h,Int.le_refl _,by simp[wW]⟩
 |n+1,s,h=>by
  unfold wW
  cases c:f s with
  |none=>exact⟨h,Int.le_refl _,by simp only;omega⟩
  |some a =>
   obtain⟨b,d⟩:=hI s a h c;obtain⟨h3,e,g⟩:=dL hI n a b
   simp only
   exact⟨h3,o_,o_⟩
theorem hD(L:List zx)(h:ye s):ye ⟨(UH L s).Ws,(UH L s).st,[]⟩/\s.st<=(UH L s).st/\(UH L s).st<=s.st+48:=by
 have i:s.Ws.length<=24:=h.yh.yh.len;obtain⟨a1,a2,g⟩:=dL (f:=ej L) (I:=ye) (fun a b c d=>⟨(c.own d).1,(c.own d).2.2.1⟩) s.Ws.length s h;obtain⟨b1,b2,b3⟩:=dL (f:=VL L) (I:=ye) (fun a b c d=>⟨(c.idle d).1,(c.idle d).2.2.1⟩) s.Ws.length _ a1;have e:UH L s=wW (VL L) s.Ws.length (wW (ej L) s.Ws.length s):=rfl;rw[e]
 exact⟨⟨b1.yh,b1.st0,b1.wy⟩,o_,o_⟩
structure ud (za:List zc) (Ws:List Wk) (zo st:Int) (ws zh:List Pw):Prop where
 tree:zr za
 rel:yl za Ws ws zh
 inv:ye ⟨Ws,st,[]⟩
 wkl:ue za Ws zo
 cnt0:0<=zo
theorem ud.settled{za:List zc}(T:zr za)(I:ye ⟨Ws,st,[]⟩)(L:ue za Ws zo)(a:0<=zo)(R:yl za (UH (za.map zc.zq) ⟨Ws,st,[]⟩).Ws l k):
  ud za (UH (za.map zc.zq) ⟨Ws,st,[]⟩).Ws zo (UH (za.map zc.zq) ⟨Ws,st,[]⟩).st l k :=
 ⟨T,R,(hD _ I).1,L.of (rp _ ⟨Ws,st,[]⟩),a⟩
theorem ud.lR{za:List zc}(C:ud za Ws zo st ws zh){s:Bs}{b:Int}(g:zS za (ws.length+zh.length) s (Uu a b)=0):
  ye ⟨Ws++[VR zo s a b],st,[]⟩/\ue za (Ws++[VR zo s a b]) (zo+1):=by
 obtain⟨n,i,f,h,c⟩:=dj g;obtain⟨e,d⟩:=VZ i;rw[C.rel.length C.inv.yh]at c
 exact⟨ye.append C.tree C.inv C.wkl C.cnt0 e f d h c,C.wkl.append C.cnt0 e f d a b⟩
theorem ud.finish{za:List zc}(C:ud za Ws zo st ws zh)(i:Nat):ye ⟨Ws.take i++Ws.drop (i+1),st,[]⟩/\ue za (Ws.take i++Ws.drop (i+1)) zo :=
 ⟨⟨C.inv.yh.sub (aT Ws i),C.inv.st0,C.inv.wy.sub (aT Ws i)⟩,C.wkl.sub (aT Ws i)⟩
theorem ue.grown{za a:List zc}{x:zx}(h:ue za Ws zo)(g:a.map zc.zq=za.map zc.zq++[x]):ue a Ws zo :=
 ⟨fun y j=>by
  obtain⟨n,i,c,d⟩:=h.zj y j
  have:n.zq∈a.map zc.zq:=by rw[g];exact UM _ (VF i)
  obtain⟨b,f,e⟩:=UC.1 this;have k:b.zb=n.zb:=congrArg zx.zb e;have l:b.zj=n.zj:=congrArg zx.zj e
  exact⟨b,f,k.trans c,l.trans d⟩,h.zm⟩
structure US (K:Nat) (x:Tw):Prop where
 L:x.L=x.za.map zc.zq
 zo:x.zo=x.zn
 com:ud x.za x.Ws x.zo x.st x.ws x.zh
 cntK:x.zo<=K
 stK:x.st<=48*K
theorem US.mono{a:Nat}{x:Tw}(h:US K x)(b:K<=a):US a x:=⟨h.L,h.zo,h.com,by have:=h.cntK;omega,by have:=h.stK;omega⟩
def VI (i:Nat)(τ : Nat->yd)(W:World)(bw:Nat)(k K:Nat)(e:Ending)(w':World):Prop :=
 e=vR (.bool true)/\∃τ' a,Vo τ W τ' w'/\St i τ' w' bw a (200*K)/\(∀x∈a,US K x)/\k<=a.length/\a.length<=k+1
structure Out where
 err:Int
 L:List zx
 Ws:List Wk
 zo:Int
 st:Int
 zt:List (Int×Int)
def vm (τ : Nat->yd)(t:Nat)(W:World)(bt:Nat)(o:Out)(ev:Value)(w':World):Prop :=
 ∃τ' a q r l k,(∀b,b<W.heap.size -> τ' b = τ b)/\(∀b,W.heap.size<=b -> τ' b=.free\/(τ' b).prog t)/\UJ τ' t w' bt a o.zo q r l k/\a.map zc.zq=o.L/\ud a o.Ws o.zo o.st l k /\
  w'.ownsRow 0 60 2 ev o.zt.length (UZ o.zt)/\(∀b,ev.ownBlock=some b->W.heap.size<=b /\ τ' b=.free)/\zd (fun b=>b<W.heap.size/\(τ b).prog t) W w'
def Mid (i:Nat)(τ : Nat->yd)(W:World)(bw:Nat)(f:List Tw)(t:Nat)(x:Tw)(N:Nat)(o:Out)(ev:Value)(w':World):Prop :=
 ∃τ' a q r l k,Vo τ W τ' w'/\St i τ' w' bw (f.set t {x with za:=a,zn:=o.zo,vw:=q,va:=r,ws:=l,zh:=k}) N/\a.map zc.zq=o.L/\ud a o.Ws o.zo o.st l k /\
  w'.ownsRow 0 60 2 ev o.zt.length (UZ o.zt)/\(∀b,ev.ownBlock=some b->W.heap.size<=b /\ τ' b=.free)
def ve (i:Nat)(τ : Nat->yd)(W:World)(bw k N K:Nat)(zt:List (Int×Int))(ev fM:Value)(w':World):Prop :=
 ∃τ' a,Vo τ W τ' w'/\St i τ' w' bw a N/\(∀x∈a,US K x)/\a.length=k/\w'.ownsRow 0 60 2 ev zt.length (UZ zt)/\w'.ownsRow 0 60 2 fM zt.length (UZ zt)/\(∀b,ev.ownBlock=some b->W.heap.size<=b /\ τ' b=.free)
section
variable {i:Nat}{τ : Nat->yd}{W:World}{bw:Nat}{f:List Tw}{N:Nat}{t:Nat}{x:Tw}{o:Out}
theorem h9(h:St i τ W bw f N)(hb:Bw W d)(p:f[t]?=some x)(m:vm (Vq τ W.heap.size) t d x.bt o ev w'):
  zd (fun b=>b<W.heap.size) d w'/\Mid i τ W bw f t x N o ev w':=by
 obtain⟨τ',j,q,r,l,k,m1,B,v,w,y,z,e,g⟩:=m;have A:=hb.size;have n:zd (fun b=>b<W.heap.size) d w':=by
  refine g.mono (fun b a=>?_)
  rcases Nat.lt_or_ge b W.heap.size with c|c
  ·exact c
  ·have:=a.2;rw[XJ c]at this;exact this.elim
 obtain⟨s,u⟩:=(h.below hb).mm p m1 v g
 exact⟨n,τ',j,q,r,l,k,(Vo.below hb).trans s,u,w,y,z,fun b a=>⟨by have:=(e b a).1;omega,(e b a).2⟩⟩
theorem Mid.below(h:Mid i τ W bw f t x N o ev d)(hb:Bw d j):Mid i τ W bw f t x N o ev j:=by
 obtain⟨τ',g,q,r,l,k,m1,m,n,p,c,e⟩:=h
 refine⟨Vq τ' d.heap.size,g,q,r,l,k,m1.trans (Vo.below hb),m.below hb,n,p,s8 (T:=fun _=>False) c (zd.new hb) (fun _ _ h=>h),fun b a=>⟨(e b a).1,?_⟩⟩
 rw[VK (UI c a)];exact(e b a).2
theorem ve.below{k:Nat}(h:ve i τ W bw k N K zt ev fM d)(hb:Bw d j):ve i τ W bw k N K zt ev fM j:=by
 obtain⟨τ',g,m1,l,m,n,c,f,e⟩:=h
 refine⟨Vq τ' d.heap.size,g,m1.trans (Vo.below hb),l.below hb,m,n,s8 (T:=fun _=>False) c (zd.new hb) (fun _ _ h=>h),s8 (T:=fun _=>False) f (zd.new hb) (fun _ _ h=>h),fun b a=>⟨(e b a).1,?_⟩⟩
 rw[VK (UI c a)];exact(e b a).2
theorem g9{sl:Value}(D:f[t]?=some x)(A:∀y∈f,US K y)(a:x.br<W.heap.size/\x.g<W.heap.size/\∀b,x.wv.ownBlock=some b->b<W.heap.size)(h:Mid i τ W bw f t x N o ev d)(M:o.zo<=K+1)(O:o.st<=48*(K+1))
  (c:V_ d x.br x.g x.wv.ownBlock o.L o.zo ⟨o.Ws,o.st,o.zt⟩ sl w'):zd (fun b=>b<W.heap.size) d w'/\ve i τ W bw f.length N (K+1) o.zt ev sl w':=by
 obtain⟨τ',n,q,r,l,k,m1,G,H,I,u,m⟩:=h;have C:=(Uy.1 D).1;have B:zd (fun b=>b<W.heap.size) d w':=c.zf.mono (fun b w=>by rcases w with rfl|rfl|e;exact a.1;exact a.2.1;exact a.2.2 b e);have v:(f.set t {x with za:=n,zn:=o.zo,vw:=q,va:=r,ws:=l,zh:=k})[t]?=some {x with za:=n,zn:=o.zo,vw:=q,va:=r,ws:=l,zh:=k}:=by rw[List.getElem?_set_self C]
 obtain⟨τ2,g',cap',J,P,p,E,F⟩:=G.mn v (L':=o.L) (cnt':=o.zo) (s:=⟨o.Ws,o.st,o.zt⟩) (sl:=sl) c
 refine⟨B,τ2,_,m1.trans p,E,?_,s_,s8 u F (fun b hb e=>?_),c.row,fun b hb=>⟨(m b hb).1,?_⟩⟩
 ·rw[List.set_set];intro z j
  rcases List.mem_or_eq_of_mem_set j with j|rfl
  ·exact(A z j).mono o_
  ·exact⟨H.symm,rfl,I,by simp only;omega,by simp only;omega⟩
 ·have:=e.2;rw[(m b hb).2]at this;exact this
 ·rw[p.old b (UI u hb)];exact(m b hb).2
theorem sU{k:Nat}{a:Option Addr}(o:n=zt.length)(M:K<=2000000)(E:n<=990)(L:i<=W.heap.size)(h:ve i τ W bw k (200*K) (K+1) zt (.slice a n c) (.slice a2 n c2) d)(er:Int):
  Calls prog 68 #[vP bw,.slice a n c,vI er,.slice a2 n c2,vI er] d (VI i τ W bw k (K+1)):=by
 obtain⟨τ',r,m1,⟨p,A,C,z,B,ns,u,ms,D,g⟩,y,rfl,q,l,j⟩:=h;rw[<-o]at q l
 refine(jz g.law (200*K) o_ g.n1 g.n2 o E q l (fun b hb=>(j b hb).2) er).mono ?_
 intro e w' m;obtain⟨τ2,v,J,t,x,s,w,G,F,I,H,f⟩:=St.told g (fun b hb=>⟨(j b hb).2,by have:=(j b hb).1;omega⟩) m
 exact⟨m.1,τ2,r,m1.own v (fun b hb=>(j b hb).1),⟨J,t,x,s,w,G,F,I,H,f.law,by have:=f.n1;omega,by have:=f.n2;omega,f.row,f.tT,f.tw,f.lo,f.le⟩,y,Nat.le_refl _,Nat.le_succ _⟩
theorem Xs{W:World}(h:W.ownsRow 0 e size v n xs):∃a c,v=.slice a n c:=by
 rcases h.2 with ⟨rfl,rfl⟩|⟨g,cap,b,rfl,_⟩
 ·exact⟨none,0,rfl⟩
 ·exact⟨_,cap,rfl⟩
theorem r9(I:K<=2000000)(h:St i τ W bw f (200*K))(H:∀y∈f,US K y)(m:f[t]?=some x)(q:n=o.zt.length)(X:n<=990)(O:o.zo<=K+1)(S:o.st<=48*(K+1))
  {mk1 mk2:Value->Value}
  (hp:∀τ1 d,UJ τ1 t d x.bt x.za x.zn x.vw x.va x.ws x.zh->Calls prog F1 dW d fun e w'=>∃ev,e=vR (mk1 ev)/\vm τ1 t d x.bt o ev w')
  (Q:∀d,zy d x.br x.g x.cap x.L x.ao x.cW x.Ws x.zo x.st->Calls prog F2 dX d fun e w'=>∃sl,e=vR (mk2 sl)/\V_ d x.br x.g x.wv.ownBlock o.L o.zo ⟨o.Ws,o.st,o.zt⟩ sl w') :
  ∃(M1:Option Addr->Nat->World->Prop) (M2:Option Addr->Nat->Option Addr->Nat->World->Prop),
   (∀d,Bw W d->Calls prog F1 dW d fun e w'=>∃a c,e=vR (mk1 (.slice a n c))/\zd (fun b=>b<W.heap.size) d w'/\M1 a c w') /\
   (∀a c d j,M1 a c d->Bw d j->Calls prog F2 dX j fun e w'=>∃a2 c2,e=vR (mk2 (.slice a2 n c2))/\zd (fun b=>b<W.heap.size) j w'/\M2 a c a2 c2 w') /\
   (∀a c a2 c2 d j,M2 a c a2 c2 d->Bw d j->Calls prog 68 #[vP bw,.slice a n c,vI o.err,.slice a2 n c2,vI o.err] j (VI i τ W bw f.length (K+1))):=by
 obtain⟨p,A,C,z,B,ns,u,ms,D,s⟩:=id h;have v:=s.tw t x m
 refine⟨fun a c=>Mid i τ W bw f t x (200*K) o (.slice a n c),fun a c a2 c2=>ve i τ W bw f.length (200*K) (K+1) o.zt (.slice a n c) (.slice a2 n c2),fun d hb=>?_,fun a c d j k hb=>?_,fun a c a2 c2 d j k hb=>sU q I X s.le (k.below hb) _⟩
 ·have J:=v.P.zf (τ':=Vq τ W.heap.size) (T:=fun _=>False) (zd.new hb) (fun _ _ h=>h.elim) (fun b hb=>VK hb)
  refine(hp _ d J).mono ?_
  rintro e w' ⟨ev,rfl,k⟩
  obtain⟨a,c,rfl⟩:∃a c,ev=.slice a n c:=by
   obtain⟨_,_,_,_,_,_,_,_,_,_,_,l,_⟩:=k;rw[<-q]at l
   exact Xs l
  exact⟨a,c,rfl,h9 h hb m k⟩
 ·have E:=(Uy.1 m).1;have w:=k.below hb;obtain⟨τ1,G,V,N,yg,U,ca,⟨ja,Z,ba,Y,aa,ga,ea,ia,ha,F⟩,da⟩:=id w;have M:=(F.tw t {x with za:=G,zn:=o.zo,vw:=V,va:=N,ws:=yg,zh:=U} (by rw[List.getElem?_set_self E])).R
  refine(Q j M).mono ?_
  rintro e w' ⟨sl,rfl,r⟩
  obtain⟨a2,c2,rfl⟩:∃a2 c2,sl=.slice a2 n c2:=by
   have l:=r.row;rw[<-q]at l
   exact Xs l
  exact⟨a2,c2,rfl,g9 m H v.R.lts w O S r⟩
end
end Go.Proofs.YtphclnolomgjoaaGreatDoor
