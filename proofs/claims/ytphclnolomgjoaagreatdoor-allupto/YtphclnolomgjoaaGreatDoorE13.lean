import Derived.Test.YtphclnolomgjoaaGreatDoorE12
set_option linter.unusedVariables false
set_option linter.unusedSimpArgs false
set_option maxRecDepth 100000
set_option maxHeartbeats 4000000
namespace Go.Proofs.YtphclnolomgjoaaGreatDoor
open Tryz
section
open Go.RowKit Go.Shelf
variable {W W':World}{F b hb n q:Nat}{L M N f E:Value}{T:Nat->Prop}{vs vs':Array Value}{G s0:SS}{H J:List Pw}{hp:Option Addr}{C st:Int}{y:Wk}{p:Pw}{P:Program}
theorem yp.zf{v:Value}{m:List Ak}(h:yp W hb f v m)(a:zd T W W')(c:¬T hb)(d:∀b,v.ownBlock=some b->¬T b):yp W' hb f v m:=⟨h.zl.zf a c,s8 h.row a d,h.ne⟩
theorem yp.isC{v:Value}{m:List Ak}(h:yp W hb f v m):∀b,(b=hb\/v.ownBlock=some b)->vg W b:=fun b e=>by
 rcases e with rfl|e
 ·exact⟨_,_,_,h.zl⟩
 ·exact Yh h.row e
theorem yp.Xk{v:Value}{m:List Ak}(h:yp W hb f v m){t:TypeId}(a:zg W b t vs)(c:t≠254)(d:t≠226):¬(b=hb\/v.ownBlock=some b):=by
 rintro(e|e)
 ·exact Wh a h.zl c e
 ·exact UY h.row a (fun e=>d e.symm) e
structure GD (za:List zc) (rr bt:Nat) (r:zc) (zw:Value) (w:World) (D:Nat) (B:List (Nat×Array Value)) (z u t:Value) (yf l:List Pw) (fin:SS) (k:Nat) (A:World) (v:Value) (m:List Ak) (vw va ev:Value) (ws zh:List Pw) (s:SS):Prop where
 hp:yp A (w.heap.size+1) (.func (.func 176) #[] #[]) v m
 heap:Vt ltA m
 mem:∀p∈m,p.p∈ws++zh
 ld:yu A za rr bt r zw vw va ev ws zh s.zt
 rel:yl za s.Ws ws zh
 inv:ye s
 it:fin=wW (VL (za.map zc.zq)) k s
 ms:VO s.Ws<=k
 bd:s.zt.length+k<=2000
 st:V9 rr bt w A z u t vw va ev
 out:Wj za rr bt vw va ev ws zh (fun y=>y=w.heap.size+1\/v.ownBlock=some y)
 low:∀b,v.ownBlock=some b->w.heap.size<=b
 sub:∀p∈ws++zh,p∈yf++l
 b1:zz A w.heap.size 186 (vP rr)
 b3:zz A (w.heap.size+1+1) 223 (vP (w.heap.size+1))
 d:A.heap[D]?=some (.deferred (some []))
 fs:∀x∈B,zg A x.1 226 x.2/\v.ownBlock≠some x.1/\x.1≠w.heap.size+1
section
variable {za:List zc}{rr bt:Nat}{r:zc}{zw:Value}{w:World}{D:Nat}{B:List (Nat×Array Value)}{z u t:Value}{yf l:List Pw}{fin:SS}{k:Nat}{A o:World}{v:Value}{m:List Ak}{vw va ev:Value}{ws zh:List Pw}{s:SS}
theorem GD.below(h:GD za rr bt r zw w D B z u t yf l fin k A v m vw va ev ws zh s)(hb:Bw A o):GD za rr bt r zw w D B z u t yf l fin k o v m vw va ev ws zh s :=
 ⟨h.hp.below hb,h.heap,h.mem,h.ld.below hb,h.rel,h.inv,h.it,h.ms,h.bd,h.st.below hb,h.out,h.low,h.sub,h.b1.below hb h.b1.lt,h.b3.below hb h.b3.lt,(hb.block D (Vz.1 h.d).1).trans h.d,fun x a=>⟨(h.fs x a).1.below hb (h.fs x a).1.lt,(h.fs x a).2⟩⟩
theorem GD.aq(h:GD za rr bt r zw w D B z u t yf l fin k A v m vw va ev ws zh s){f:List Ak}(hp:yp o (w.heap.size+1) (.func (.func 176) #[] #[]) E f)(H:Vt ltA f)(I:∀p∈f,p.p∈ws++zh)(a:zd (fun y=>y=w.heap.size+1\/v.ownBlock=some y) A o)(j:E.ownBlock=v.ownBlock\/∃g,E.ownBlock=some g/\A.heap.size<=g):GD za rr bt r zw w D B z u t yf l fin k o E f vw va ev ws zh s:=by
 have K:∀b,(b=w.heap.size+1\/v.ownBlock=some b)->w.heap.size<=b:=fun b e=>e.elim (fun e=>by omega) (h.low b)
 have L:=h.st.zf.size
 refine⟨hp,H,I,h.ld.zf a h.out,h.rel,h.inv,h.it,h.ms,h.bd,⟨h.st.zf.Vf a (fun b hb e=>by have:=K b e;omega),h.st.new⟩,?_,?_,h.sub,h.b1.zf a (h.hp.Xk h.b1 d_ d_),h.b3.zf a (h.hp.Xk h.b3 d_ d_),Z2 a h.d h.hp.isC,fun x J=>?_⟩
 ·rcases j with e|⟨g,e,i⟩
  ·rw[e];exact h.out
  ·have F:=h.out.mono (T':=fun y=>y=w.heap.size+1) (fun b e=>.inl e);have G:=h.ld.lt (T:=fun y=>E.ownBlock=some y) (fun b c=>by rw[e]at c;cases c;exact i)
   exact F.or G
 ·intro b hb
  rcases j with e|⟨g,e,i⟩
  ·rw[e]at hb;exact h.low b hb
  ·rw[e]at hb;cases hb;omega
 ·obtain⟨n,q,C⟩:=h.fs x J
  refine⟨n.zf a (fun e=>e.elim C q),?_,C⟩
  rcases j with e|⟨g,e,i⟩
  ·rw[e];exact q
  ·rw[e];intro c;cases c;have:=n.lt;omega
theorem GD.en(h:GD za rr bt r zw w D B z u t yf l fin k A v m vw va ev ws zh s){k':Nat}(n:yu o za rr bt r zw L M N J H G.zt)(c:V9 rr bt A o vw va ev L M N)(g:∀p∈J++H,p∈ws++zh)(y:∀p∈ws++zh,p∈J++H)(q:yl za G.Ws J H)(C:ye G)(j:fin=wW (VL (za.map zc.zq)) k' G)(i:VO G.Ws<=k')(E:G.zt.length+k'<=2000):GD za rr bt r zw w D B z u t yf l fin k' o v m L M N J H G:=by
 have a:=c.zf;have F:∀b,(b=w.heap.size+1\/v.ownBlock=some b)->b<A.heap.size:=fun b e=>e.elim (fun e=>by have:=h.hp.zl.lt;omega) (fun e=>UI h.hp.row e)
 refine⟨h.hp.zf a (h.out.ldt (.inl rfl)) (fun b hb=>h.out.ldt (.inr hb)),h.heap,fun p hp=>y p.p (h.mem p hp),n,q,C,j,i,E,h.st.trans c,h.out.step c F g,h.low,fun p hp=>h.sub p (g p hp),h.b1.zf a (h.ld.Xk h.b1 d_ d_ d_ d_),h.b3.zf a (h.ld.Xk h.b3 d_ d_ d_ d_),Z2 a h.d h.ld.isC,fun x f=>⟨(h.fs x f).1.zf a (h.ld.Xk (h.fs x f).1 d_ d_ d_ d_),(h.fs x f).2⟩⟩
def akx (a:Ak):Wk×Int:=(a.p.x,a.s)
theorem yu.befq{w:World}{za:List zc}{rr bt:Nat}{r:zc}{zw vw va ev:Value}{ws zh:List Pw}{zt:List (Int×Int)}(h:yu w za rr bt r zw vw va ev ws zh zt)(g:Wj za rr bt vw va ev ws zh T){m:List Ak}(d:∀p∈m,p.p∈ws++zh):uo w T m ltA:=fun W f a e b hb=>by
 have c:=h.zf f g
 exact pg (c.pin (d a e)).zl (c.pin (d b hb)).zl
def H1 (za:List zc)(rr bt:Nat)(r:zc)(zw:Value)(w:World)(D:Nat)(B:List (Nat×Array Value))(z u t:Value)(yf l:List Pw)(fin:SS)(q:Nat)(hp:Option Addr)(C:Int)(sb:Bool)(A:World):Prop :=
 ∃k v m vw va ev ws zh s,GD za rr bt r zw w D B z u t yf l fin k A v m vw va ev ws zh s /\
  ((sb=false/\fin=s)\/(sb=true/\2*k+m.length+1<=q/\∃a:Ak,hp=some (vA a.p.ze 0)/\C=a.s/\a.p∈ws++zh/\V8 (za.map zc.zq) s.Ws (akx a::m.map akx)/\∀b∈m,ltA b a=false))
theorem gL{L:List zx}{s:SS}(I:ye s){c:List (Wk×Int)}(g:V8 L s.Ws c):c.length<=24:=by
 have d:∀p∈c,p.1∈s.Ws:=fun p hp=>(VG (g.hd p hp).1).1
 have l:(c.map fun p=>p.1.zm).Nodup:=by
  have f:=g.nd;rw[List.nodup_iff_pairwise_ne,List.pairwise_map]at f ⊢
  exact f.imp_of_mem (fun {a b} i hb h e=>h (by rw[YL I.yh.nums (d _ i) (d _ hb) e]))
 have:=YD l (l':=s.Ws.map (·.zm)) (fun x j=>by
  obtain⟨y,k,rfl⟩:=UC.1 j
  exact UC.2 ⟨y.1,d y k,rfl⟩)
 have m:=I.yh.yh.len
 simp at this
 omega
theorem GD.pop(h:GD za rr bt r zw w D B z u t yf l fin k A v m vw va ev ws zh s)(d:V8 (za.map zc.zq) s.Ws (m.map akx)):
  Calls prog 179 #[vP (w.heap.size+1)] A fun e o=>∃hp C sb,e=vR (.tuple #[.agg #[.pointer hp,vI C],.bool sb])/\H1 za rr bt r zw w D B z u t yf l fin (2*k+m.length) hp C sb o:=by
 have H:=gL h.inv d
 simp at H
 refine(lN ah h.hp o_ h.heap (h.ld.befq h.out h.mem)).mono ?_
 rintro e o (⟨n,rfl,hb⟩|⟨a,E,I,q,rfl,c,h3,x,y,F⟩)
 ·subst n
  refine⟨_,_,_,rfl,k,v,[],vw,va,ev,ws,zh,s,h.below hb,.inl ⟨rfl,?_⟩⟩
  rw[h.it]
  exact Yu (d.ends h.inv) k
 ·have i:=h.heap.min ah q (by cases f:ltA a a with|false=>rfl|true=>have:=ah.asymm _ _ f;rw[f]at this;exact this);have g:=c.length_eq
  simp at g
  refine⟨_,_,_,rfl,k,E,I,vw,va,ev,ws,zh,s,h.aq x h3 (fun p hp=>h.mem p (c.mem_iff.1 (V3 _ hp))) y (.inl F),.inr ⟨rfl,o_,a,rfl,rfl,h.mem a (c.mem_iff.1 (List.mem_cons_self ..)),?_,fun b hb=>?_⟩⟩
  ·exact d.perm (c.symm.map akx)
  ·obtain⟨j,G⟩:=Vh (c.mem_iff.1 (V3 a hb))
   exact i j b G
theorem GD.mark(h:GD za rr bt r zw w D B z u t yf l fin k A v m vw va ev ws zh s)(hb:Bw A o)(c:zg o A.heap.size 226 vs):GD za rr bt r zw w D [(A.heap.size,vs)] z u t yf l fin k o v m vw va ev ws zh s:=by
 have a:=h.below hb
 refine⟨a.hp,a.heap,a.mem,a.ld,a.rel,a.inv,a.it,a.ms,a.bd,a.st,a.out,a.low,a.sub,a.b1,a.b3,a.d,fun x b=>?_⟩
 simp at b
 subst b
 exact⟨c,fun e=>by have:=UI h.hp.row e;simp at this,by have:=h.hp.zl.lt;simp;omega⟩
theorem GD.fblk(h:GD za rr bt r zw w D [(F,vs)] z u t yf l fin k A v m vw va ev ws zh s):zg A F 226 vs:=(h.fs (F,vs) s_).1
theorem GD.setF(h:GD za rr bt r zw w D [(F,vs)] z u t yf l fin k A v m vw va ev ws zh s)(c:zd (fun b=>b=F) A o)(y:zg o F 226 vs')(E:w.heap.size<=F):GD za rr bt r zw w D [(F,vs')] z u t yf l fin k o v m vw va ev ws zh s:=by
 obtain⟨a,f,i⟩:=h.fs (F,vs) s_
 simp only at a f i
 have C:Wj za rr bt vw va ev ws zh (fun b=>b=F):=by
  refine⟨fun n j=>⟨?_,?_⟩,?_,?_,?_,?_,?_,?_⟩
  ·exact Wh (show zg A n.ze 136 n.cells from(h.ld.yj n j).zl) a d_
  ·rintro g B rfl;exact UY (h.ld.yj n j).row a d_ B
  ·exact Wh h.ld.ld.rnd.zl a d_
  ·exact Wh h.ld.ld.bk.zl a d_
  ·rintro b hb rfl;exact UY h.ld.ld.bk.yc a d_ hb
  ·rintro b hb rfl;exact UY h.ld.ld.bk.yr a d_ hb
  ·rintro b hb rfl;exact UY h.ld.ld.rnd.row a d_ hb
  ·intro p hp;exact Wh (h.ld.ld.bk.zu p hp) a d_
 refine⟨h.hp.zf c (fun e=>i e.symm) (fun b hb e=>f (by rw[<-e];exact hb)),h.heap,h.mem,h.ld.zf c C,h.rel,h.inv,h.it,h.ms,h.bd,⟨h.st.zf.Vf c (fun b hb e=>by omega),h.st.new⟩,h.out,h.low,h.sub,h.b1.zf c (Wh h.b1 a d_),h.b3.zf c (Wh h.b3 a d_),Z2 c h.d (fun b e=>⟨vs,226,(0,0),by subst e;exact a⟩),fun x q=>?_⟩
 simp at q
 subst q
 exact⟨y,f,i⟩
theorem H1.setF{sb:Bool}(h:H1 za rr bt r zw w D [(F,vs)] z u t yf l fin q hp C sb A)(g:zd (fun b=>b=F) A o)(f:zg o F 226 vs')(a:w.heap.size<=F):H1 za rr bt r zw w D [(F,vs')] z u t yf l fin q hp C sb o:=by
 obtain⟨k,s,n,j,e,m,yg,i,p,d,c⟩:=h
 exact⟨k,s,n,j,e,m,yg,i,p,d.setF g f a,c⟩
theorem H1.ze{sb:Bool}(h:H1 za rr bt r zw w D [(F,vs)] z u t yf l fin q hp C sb A):zg A F 226 vs:=by
 obtain⟨k,j,g,e,c,f,yg,d,i,a,b⟩:=h
 exact(a.fs (F,vs) s_).1
theorem GD.popN(h:GD za rr bt r zw w D B z u t yf l fin k A v m vw va ev ws zh s)(a:V8 (za.map zc.zq) s.Ws (m.map akx))(vs:Array Value):
  Calls prog 179 #[vP (w.heap.size+1)] (A.alloc (.cells vs 226)) fun e o=>∃hp C sb,e=vR (.tuple #[.agg #[.pointer hp,vI C],.bool sb])/\H1 za rr bt r zw w D [(A.heap.size,vs)] z u t yf l fin (2*k+m.length) hp C sb o :=
 (h.mark ((Below.refl _ _).alloc (Nat.le_refl _) _) (zg.new A 226 vs)).pop a
end
theorem zr.lQ{za:List zc}(T:zr za):ez (za.map zc.zq):=by
 obtain⟨r,a,b,d,h3,c⟩:=T.root
 exact⟨r.zq,UC.2 ⟨r,Uq a,rfl⟩,b,h3,c⟩
section
variable {za:List zc}{Ws:List Wk}{ws zh:List Pw}
theorem yl.sO(R:yl za Ws ws zh)(T:zr za)(g:U_ za){l:List zc}(a:l.Perm za):((U7 ws l).map (·.x.zb)).Nodup:=by
 have c:(l.map (·.zb)).Nodup:=(a.map _).nodup_iff.2 T.nodup;have f:((U7 ws l).map (·.x.zb)).Sublist (l.map (·.zb)):=by
  have d:∀n∈l,n∈za:=fun n h=>a.mem_iff.1 h
  clear c a
  induction l with
  |nil=>exact List.Sublist.slnil
  |cons n l j =>
   have b:=j (fun m i=>d m (V3 _ i));have e:U7 ws (n::l)=(Vn ws n.ze).toList++U7 ws l:=by
    unfold U7
    cases h:Vn ws n.ze<;>simp[List.filterMap_cons,h]
   rw[e]
   cases h:Vn ws n.ze with
   |none=>simpa using b.cons n.zb
   |some p =>
    have:=(R.YX T g (d n (List.mem_cons_self ..)) h).2
    simp only[Option.toList_some,List.singleton_append,List.map_cons];rw[this]
    exact b.cons_cons _
 exact f.nodup c
theorem yl.q8(R:yl za Ws ws zh)(T:zr za)(f:U_ za){l:List zc}(g:l.Perm za)(c:Vr Ws y.zb=some y):∃p∈U7 ws l,p.x=y:=by
 obtain⟨g1,g2,_⟩:=VG c;have h:y∈ws.map (·.x):=by rw[R.w];exact Vu.2 ⟨g1,by simp[g2]⟩
 obtain⟨j,e,i⟩:=UC.1 h;obtain⟨n,d,_,b⟩:=R.zj j (UM _ e);rw[i]at b;have a:=R.head T f d;rw[b,c]at a
 cases hq:Vn ws n.ze with
 |none=>unfold Vn at hq;rw[hq]at a;cases a
 |some p =>
  have k:=hq;unfold Vn at hq;rw[hq]at a
  refine⟨p,?_,by simpa using a⟩
  unfold U7
  exact List.mem_filterMap.2 ⟨n,g.mem_iff.2 d,k⟩
theorem yl.lG(R:yl za Ws ws zh)(T:zr za)(c:U_ za)(h:vr Ws st){l:List zc}(d:l.Perm za){m:List Ak}(e:m.Perm ((U7 ws l).map fun p=>⟨p,WT za zh p.x⟩)):V8 (za.map zc.zq) Ws (m.map akx):=by
 have f:∀x∈Ws,WT za zh x=shp (za.map zc.zq) Ws x:=fun x k=>R.share T h.yh (h.yh.ok x k).1
 have o:∀p∈U7 ws l,Vr Ws p.x.zb=some p.x:=fun p hp=>by
  unfold U7 at hp;obtain⟨n,j,h3⟩:=List.mem_filterMap.1 hp;obtain⟨g1,g2⟩:=R.YX T c (d.mem_iff.1 j) h3;rw[g2];exact g1
 refine⟨?_,fun q hq=>?_,fun y b g=>?_⟩
 ·have b:=R.sO T c d;have g:((m.map akx).map fun p=>p.1.zb).Perm ((U7 ws l).map (·.x.zb)):=by
   rw[List.map_map]
   have:=e.map (fun a:Ak=>a.p.x.zb)
   rw[List.map_map]at this
   exact this
  exact g.nodup_iff.2 b
 ·obtain⟨a,i,rfl⟩:=UC.1 hq;obtain⟨p,hp,rfl⟩:=UC.1 (e.mem_iff.1 i);have h3:=o p hp
  exact⟨h3,f p.x (VG h3).1⟩
 ·obtain⟨p,hp,rfl⟩:=R.q8 T c d b
  refine UC.2 ⟨⟨p,WT za zh p.x⟩,e.mem_iff.2 (UC.2 ⟨p,hp,rfl⟩),?_⟩
  show(p.x,WT za zh p.x)=_
  rw[f p.x (VG b).1]
end
section
variable {za:List zc}{rr bt:Nat}{r:zc}{zw:Value}{w:World}{D:Nat}{B:List (Nat×Array Value)}{z u t:Value}{yf l:List Pw}{fin:SS}{k:Nat}{A o:World}{v:Value}{m:List Ak}{vw va ev:Value}{ws zh:List Pw}{s:SS}
theorem GD.fits(a:zr za)(d:U_ za)(h:GD za rr bt r zw w D B z u t yf l fin k A v m vw va ev ws zh s)(hp:p∈ws++zh):
  Calls prog 180 #[vP rr,vP p.ze] A fun e o=>e=vR (.bool (Vm (za.map zc.zq) s.Ws p.x))/\Bw A o:=by
 obtain⟨n,b,f,c⟩:=h.ld.lf p hp
 have:=q0 a d h.ld.rd (h.ld.pin hp) b f
 rw[h.rel.fits a h.inv.yh.yh b c]at this
 exact this
theorem GD.l6(d:zr za)(h:GD za rr bt r zw w D B z u t yf l fin k A v m vw va ev ws zh s){a:Ak}(o:a.p∈ws++zh)(f:V8 (za.map zc.zq) s.Ws (akx a::m.map akx))(E:Vm (za.map zc.zq) s.Ws a.p.x=true)(n:∀b∈m,ltA b a=false):
  ∃(G:SS) (i:Nat),ws[i]?=some a.p/\G.zt=s.zt++[(1,a.p.x.zm)]/\yl za G.Ws (ws.take i++ws.drop (i+1)) (zh++[a.p])/\ye G/\V8 (za.map zc.zq) G.Ws (XB (za.map zc.zq) G.Ws a.p.x.zb++m.map akx) /\
  ∃k',k=k'+1/\fin=wW (VL (za.map zc.zq)) k' G/\VO G.Ws<=k'/\G.zt.length+k'<=2000:=by
 obtain⟨b,d1,g,e,j⟩:=V8.does (x:=a.p.x) (sx:=a.s) d.ents d.lQ f h.inv E (fun q hq=>by
  obtain⟨c,y,rfl⟩:=UC.1 hq
  exact n c y)
 obtain⟨i1,i2,i3,i4,i5⟩:=h.inv.idle e;have F:=(f.hd _ (List.mem_cons_self ..)).1;obtain⟨i,C⟩:=h.rel.idx h.inv.yh o F;have H:=h.ms;have I:=h.bd;obtain⟨k',rfl⟩:∃k',k=k'+1:=⟨k-1,o_⟩
 exact⟨Xj b a.p.x s,i,C,rfl,h.rel.admit h.inv.yh h.inv.st0 C d1 g rfl,i1,j,k',rfl,by rw[h.it];exact aW e k',o_,o_⟩
theorem GD.eF(c:zr za)(i:U_ za)(h:GD za rr bt r zw w D B z u t yf l fin k A v m vw va ev ws zh s){n:zc}(F:n∈za)(hp:Vn ws n.ze=some p)(g:V8 (za.map zc.zq) s.Ws (XB (za.map zc.zq) s.Ws n.zb++m.map akx)):
  Calls prog 177 #[vP (w.heap.size+1),akv ⟨p,WT za zh p.x⟩] A fun e o=>e=vT #[]/\∃E a,a.length=m.length+1/\GD za rr bt r zw w D B z u t yf l fin k o E a vw va ev ws zh s/\V8 (za.map zc.zq) s.Ws (a.map akx):=by
 have y:=gL h.inv g
 simp at y
 obtain⟨f,K⟩:=h.rel.YX c i F hp;have d:p∈ws++zh:=UM _ (ZX hp)
 refine(jN ah h.hp o_ h.heap ⟨p,WT za zh p.x⟩ (h.ld.befq h.out (fun q hq=>by
  rcases UU.1 hq with e|e
  ·exact h.mem q e
  ·simp at e;subst e;exact d))).mono ?_
 rintro e o ⟨j,E,a,b,G,H,I,J⟩
 refine⟨j,E,a,by have:=b.length_eq;simpa using this,h.aq H G (fun q hq=>?_) I J,?_⟩
 ·rcases UU.1 (b.mem_iff.1 hq) with e|e
  ·exact h.mem q e
  ·simp at e;subst e;exact d
 ·refine g.perm ?_
  have C:XB (za.map zc.zq) s.Ws n.zb=[akx ⟨p,WT za zh p.x⟩]:=by
   unfold XB;rw[f]
   simp only
   rw[<-h.rel.share c h.inv.yh.yh (h.inv.yh.yh.ok p.x (VG f).1).1]
   rfl
  rw[C]
  have:=b.map akx
  rw[List.map_append]at this
  exact List.perm_append_comm.trans this.symm
theorem GD.lL(c:zr za)(d:U_ za)(h:GD za rr bt r zw w D B z u t yf l fin k A v m vw va ev ws zh s){n:zc}(f:n∈za)(hp:Vn ws n.ze=none)(a:V8 (za.map zc.zq) s.Ws (XB (za.map zc.zq) s.Ws n.zb++m.map akx)):V8 (za.map zc.zq) s.Ws (m.map akx):=by
 have b:=h.rel.head c d f;unfold Vn at hp;rw[hp]at b;have e:XB (za.map zc.zq) s.Ws n.zb=[]:=by
  unfold XB;rw[<-b];rfl
 rw[e]at a
 exact a
end
attribute [local go_sem] Oper.semAt_some
section
variable {w:World}{za:List zc}{rr bt:Nat}{r:zc}{zw vw va ev:Value}{ws zh:List Pw}{zt:List (Int×Int)}
theorem sr(f:Value)(d:∃a b c,f=.func a b c)(w:World):Calls prog 167 #[f] w fun e w'=>e=vR (vP w.heap.size)/\w'=w.alloc (.cells #[f,v0_] 247):=by
 obtain⟨a,b,c,rfl⟩:=d
 go_enter func167,ntmps167
 go_wp2_with fail
 go_ret
 exact⟨rfl,rfl⟩
theorem yu.outD(h:yu w za rr bt r zw vw va ev ws zh zt){D:Nat}{x:Option (List Deferred)}(c:w.heap[D]?=some (.deferred x)):Wj za rr bt vw va ev ws zh (fun b=>b=D):=by
 have zb:∀b,vg w b->b≠D:=fun b ⟨vs,t,f,hb⟩ e=>by subst e;rw[c]at hb;cases hb
 exact⟨fun n a=>⟨zb _ ⟨_,_,_,(h.yj n a).zl⟩,fun g d=>zb _ (Yh (h.yj n a).row d)⟩,zb _ ⟨_,_,_,h.ld.rnd.zl⟩,zb _ ⟨_,_,_,h.ld.bk.zl⟩,fun b hb=>zb _ (Yh h.ld.bk.yc hb),fun b hb=>zb _ (Yh h.ld.bk.yr hb),fun b hb=>zb _ (Yh h.ld.rnd.row hb),fun p hp=>zb _ ⟨_,_,_,h.ld.bk.zu p hp⟩⟩
theorem gH(ws:List Pw)(l:List zc):(U7 ws l).length<=l.length:=by
 unfold U7;exact List.length_filterMap_le ..
theorem cP(a:zr za){ch:zc->List zc}(b:xy za ch)(d:r∈za)(c:r.zb=[]):(dfs ch 4 r).Perm za:=by
 have:=Y2 a b a.nd d
 rw[c]at this
 refine this.trans (List.Perm.of_eq ?_)
 rw[List.filter_eq_self];intro m _
 rfl
theorem nu(z:zr za)(ra:U_ za){ch:zc->List zc}(Ea:xy za ch)(h:yu w za rr bt r zw vw va ev ws zh zt)(Ja:r∈za)(Zb:r.zb=[])(R:yl za s0.Ws ws zh)(I:ye s0)(Pa:s0.zt=zt)(Uc:zt.length<=100):
  Calls prog 130 #[vP rr] w fun e w'=>e=vT #[]/\∃L M N J H,yu w' za rr bt r zw L M N J H (VN (za.map zc.zq) s0).zt/\yl za (VN (za.map zc.zq) s0).Ws J H/\V9 rr bt w w' vw va ev L M N/\(∀p∈J++H,p∈ws++zh):=by
 generalize bb:VN (za.map zc.zq) s0=fin;have db:Hid (VN (za.map zc.zq) s0=fin):=bb;clear bb;have Q:∀k:Nat,Fence.wide.depth.isSome=true->1<=k:=fun k h=>by simp[Fence.wide]at h
 have Va:=sr (.func (.func 168) #[] #[]) ⟨_,_,_,rfl⟩
 refine(UK (n:=3)).1 ?_
 refine callsIn_of_wp_marks func130 rfl trivial ?_ rfl
 simp only[ntmps130,zC,Nat.reduceAdd,Nat.reduceSub];have Qa:=fun W (ba:Bw w W)=>h8 z Ea (h.below ba).rw_ Ja
 unfold zi at Qa;obtain⟨t,O⟩:∃t,t=((w.alloc (.cells #[vP rr] 186)).alloc (.cells #[.func (.func 168) #[] #[],v0_] 247)).alloc (.cells #[vP (w.heap.size+1)] 216):=⟨_,rfl⟩;have Xb:Bw w t:=by rw[O];exact cl
 have ec:t.heap.size=w.heap.size+3:=by rw[O];simp
 have Ca:zz t w.heap.size 186 (vP rr):=by rw[O];exact((zz.new w 186 _).alloc _).alloc _
 have Kb:yy t (w.heap.size+1) (.func (.func 168) #[] #[]) v0_ []:=by
  refine⟨?_,⟨rfl,.inl ⟨rfl,rfl⟩⟩,by simp[Value.ownBlock]⟩
  have:=(zg.new (w.alloc (.cells #[vP rr] 186)) 247 #[.func (.func 168) #[] #[],v0_]).alloc (.cells #[vP (w.heap.size+1)] 216)
  rw[Vv]at this;rw[O];exact this
 have Ta:zz t (w.heap.size+1+1) 216 (vP (w.heap.size+1)):=by
  have:=zz.new ((w.alloc (.cells #[vP rr] 186)).alloc (.cells #[.func (.func 168) #[] #[],v0_] 247)) 216 (vP (w.heap.size+1))
  rw[Vv,Vv]at this;rw[O];exact this
 have c1:=Ca.cell;rw[O]at c1
 gi_wp2_with (first
  |((first|refine⟨trivial,Q _,?_⟩|refine⟨trivial,?_⟩);gi_at_call 167;refine(UK.2 (Va _)).mono ?_;rintro e Vb ⟨rfl,rfl⟩)
  |((first|refine⟨trivial,Q _,?_⟩|refine⟨trivial,?_⟩);gi_at_call 169;refine(UK.2 (Qa _ Vy)).mono ?_;rintro e Vb ⟨rfl,rfl,na⟩))
 obtain⟨W,ba⟩:∃W,W=t.alloc (.cells #[vP rr] 186):=⟨_,rfl⟩;have fc:W.heap.size=w.heap.size+4:=by rw[ba];simp[ec]
 have pa:Bw t W:=by rw[ba];exact cl
 have eb:Bw w W:=s5 Xb pa;have Ob:=Ca.below pa Ca.lt;have Pb:=Ta.below pa Ta.lt;have Lb:=Kb.below pa;simp only[Vv]at na;simp only[<-O,<- ba]at na ⊢;have hq:=na (fun b=>b=w.heap.size+1) (fun b e=>by omega) (h.lt (fun b e=>by omega)).rw_;have rb:(U7 ws (dfs ch 4 r)).length<=20:=Nat.le_trans (gH ws (dfs ch 4 r)) (an z Ea Ja);have aa:∀p∈U7 ws (dfs ch 4 r),p∈ws++zh:=fun p hp=>UM _ (gI hp)
 have Hb:=cP z Ea Ja Zb;generalize dfs ch 4 r=Wa at hq rb aa Hb;have qa:∀m:List Pw,m.Perm ((U7 ws Wa).filter fun p=>ub za zh p.x)->VA (za.map zc.zq) s0.Ws (m.map (·.x)):=fun m wc=>R.mj z ra I.yh Hb wc
 generalize U7 ws Wa=X at hq rb aa qa;clear na Qa ba O c1 Ca Ta Kb Va;have la:∀b,b<W.heap.size->¬(False\/(W.heap.size<=b/\b<W.heap.size+2+4)):=fun b hb e=>by rcases e with e|e;exact e;omega
 refine Y6 (T:=fun b=>b=w.heap.size+1) (S:=fun _=>False) rfl (enters_of func206 k_ rfl) hq (Below.refl _ _) (fun _=>rfl) (fun b e=>e.elim) (fun b e=>by omega)
  (fun (pre:List Pw) A=>(∃v m,yy A (w.heap.size+1) (.func (.func 168) #[] #[]) v m/\Vt ltP m/\m.Perm (pre.filter fun p=>ub za zh p.x)/\(∀b,v.ownBlock=some b->W.heap.size+2+4<=b))/\zz A w.heap.size 186 (vP rr)/\zz A (w.heap.size+1+1) 216 (vP (w.heap.size+1))/\Bw w A)
  (fun c (pre:List Pw) A=>False)
  (fun pre A B Ka ha=>by
   obtain⟨⟨v,m,g1,g2,g3,g4⟩,U,V,D⟩:=Ka
   exact⟨⟨v,m,g1.zf ha (la _ o_) (fun b hb e=>by have:=g4 b hb;rcases e with e|e;exact e;omega),g2,g3,g4⟩,U.zf ha (la _ o_),V.zf ha (la _ o_),D.trans (ha.ya D.size (fun b Tc=>la b o_))⟩)
  (fun c pre A B Ka ha=>Ka)
  ⟨⟨_,[],Lb,fun j a b jd oc=>by simp at oc,s_,by simp[Value.ownBlock]⟩,Ob,Pb,eb⟩
  (fun x=>{tmps:=#[vP rr,vP w.heap.size,vP (w.heap.size+1+1),vP x.ze,undef,undef,vP (w.heap.size+1),vP rr,.func (.func 206) #[] #[vP (w.heap.size+1+1+1)],vP x.ze,undef,undef,undef,undef,undef,undef,undef,undef,undef,undef,undef,undef,undef,undef,undef,undef,undef,undef,undef,undef,undef,undef,undef,undef,undef,undef,undef,undef,undef,undef,undef,undef,undef],defers:=[]}) ?assign ?body ?done ?stop
 case assign =>
  intro l x W K mc
  gi_wp2
  exact mc
 case stop =>
  rintro c pre A ma La Ha
  exact La.elim
 case body =>
  rintro l2 pre x Rc ⟨⟨v,m,g1,g2,g3,g4⟩,U,V,D⟩ gd ma
  have Fc:=h.below D;have Ra:m.length<=50:=by
   have:=g3.length_eq
   have s:=Wt (fun p=>ub za zh p.x) pre;have kc:=ma.length_le
   simp at kc
   omega
  have Sa:=gi z ra Fc g1 g2 Ra (fun p hp=>aa p (ma.subset (UM _ (Vu.1 (g3.mem_iff.1 hp)).1))) (h.lt (fun b e=>by
   rcases e with e|e
   ·omega
   ·have:=g4 b e;omega)) (some x) (fun p e=>by cases e;exact aa x (ma.subset s_))
  have c1:=U.cell;have c2:=V.cell;have Sb:Hid (m.Perm (pre.filter fun p=>ub za zh p.x)):=g3;have Rb:Hid (tx za zh (some x)=[x].filter fun p=>ub za zh p.x):=by
   show tx za zh (some x)=_
   unfold tx
   cases La:ub za zh x.x<;>simp[La]
  clear g3 hq qa;simp only[xd]at Sa;unfold zi at Sa
  gi_wp2_with ((first|refine⟨trivial,Q _,?_⟩|refine⟨trivial,?_⟩);gi_at_call 170;refine(CallsIn.inRound l2 (UK.2 Sa)).mono ?_;rintro e Sc ⟨rfl,E,G,Ic,Jc,Kc,Da,Lc⟩)
  refine⟨Da.mono (fun b e=>?_),⟨E,G,Kc,Jc,?_,fun b hb=>?_⟩,U.zf Da (fun e=>?_),V.zf Da (fun e=>?_),D.trans (Da.ya D.size (fun b hb e=>?_))⟩
  ·rcases e with e|e
   ·exact .inl e
   ·exact .inr (g4 b e)
  ·rw[List.filter_append,<- Rb.out]
   exact Ic.trans (Sb.out.append_right _)
  ·rcases Lc with e|⟨g,ib,hc⟩
   ·rw[e]at hb;exact g4 b hb
   ·rw[ib]at hb;cases hb;omega
  ·rcases e with e|e
   ·omega
   ·have:=g4 _ e;omega
  ·rcases e with e|e
   ·omega
   ·have:=g4 _ e;omega
  ·rcases e with e|e
   ·omega
   ·have:=g4 _ e;omega
 case done =>
  rintro A ⟨⟨v,m,g1,g2,g3,g4⟩,U,V,D⟩ Ha
  have ga:=qa m g3;have Ra:m.length<=20:=by
   have:=g3.length_eq
   have s:=Wt (fun p=>ub za zh p.x) X
   omega
  have mb:∀p∈m,p∈ws++zh:=fun p hp=>aa p (Vu.1 (g3.mem_iff.1 hp)).1
  have nb:=h.below D;have sa:=h.lt (T:=fun y=>y=w.heap.size+1\/v.ownBlock=some y) (fun b e=>by
   rcases e with e|e
   ·omega
   ·have:=g4 b e;omega)
  have c1:=U.cell;have c2:=V.cell;have Za:GC za rr bt r zw w W.heap.size vw va ev ws zh fin s0.Ws.length A v m vw va ev ws zh s0:=⟨g1,g2,mb,by rw[Pa];exact nb,R,I,db.out.symm,jF _ _,by have:=I.yh.yh.len;rw[Pa];omega,(V9.refl _ _ _ _ _ _).below D,sa,fun b hb=>by have:=g4 b hb;omega,fun _ e=>e,U,V,Ha⟩;have Bb:=Za.pop z ga;generalize ic:s0.Ws.length=vb at Bb;clear qa aa hq g3 db ic Za ga g1 g2 g4 nb sa Ra mb R I Pa Ob Pb Lb eb Ha
  gi_wp2_with ((first|refine⟨trivial,Q _,?_⟩|refine⟨trivial,?_⟩);gi_at_call 171;refine(UK.2 Bb).mono ?_;rintro e Mc ⟨pb,Ib,rfl,ob⟩)
  gi_loopg [4,5] vb (fun q pb Ib wr=>∃k,k<=q/\G1 za rr bt r zw w W.heap.size vw va ev ws zh fin k pb Ib wr)
  case atStart=>exact⟨vb,Nat.le_refl _,ob⟩
  case round =>
   clear ob;obtain⟨k,Ya,Gc,Cb,tc,nc,Ac,yg,qc,P,f,jc⟩:=hrel
   rcases jc with ⟨rfl,rfl,Mb⟩|⟨rfl,a,rfl,ja,ga,kb⟩
   ·have Ua:Hid (fin=P):=Mb;clear Mb
    gi_wp2_with fail
    have hd:=f.d;rw[fc]at hd
    refine⟨s_,.inl ⟨_,_,rfl,run_takeDeferred hd,?_⟩⟩
    have Xa:zd (fun b=>b=w.heap.size+4) wr (wr.putObj (w.heap.size+4) (.deferred none)):=(zd.refl (fun b=>b=w.heap.size+4) _).putObj rfl _
    refine⟨.tuple #[],by simp[results,results130,go_sem],rfl,tc,nc,Ac,yg,qc,?_,?_,⟨f.st.zf.Vf Xa (fun b hb e=>by omega),f.st.new⟩,f.sub⟩
    ·rw[Ua.out];exact f.ld.zf Xa (f.ld.outD hd)
    ·rw[Ua.out];exact f.rel
   ·obtain⟨Cc,Dc,Ec,r4,r5,Db,k',rfl,Eb,Fb,Gb⟩:=f.owned ja ga kb;obtain⟨n,Ia,qb,gb⟩:=f.ld.lf a ja;have Fa:=rM z ra f.ld ja Ia qb gb f.rel Cc Dc;have c1:=f.b1.cell;unfold zi at Fa;clear c2 kb ga
    gi_upto_region 10 with (first
     |((first|refine⟨trivial,Q _,?_⟩|refine⟨trivial,?_⟩);gi_at_call 172;refine(UK.2 Fa).mono ?_;rintro e qd ⟨rfl,kd,ed,dd,u,da,m1,yb,Oa,Ab,ta⟩;clear Fa;obtain⟨i,C,jb⟩:=r4 _ _ yb (ta ja);have Ga:=m1.admit Ec C;have cc:=(f.b1.zf Oa.zf (f.ld.Xk f.b1 d_ d_ d_ d_)).cell;unfold zi at Ga)
     |((first|refine⟨trivial,Q _,?_⟩|refine⟨trivial,?_⟩);gi_at_call 173;refine(UK.2 Ga).mono ?_;rintro e F ⟨rfl,Aa,Ba,ka,n1,n2⟩;clear Ga))
    have sc:∀p∈(u.take i++u.drop (i+1))++(da++[a]),p∈u++da:=fun p hp=>by
     rcases UU.1 hp with s|s
     ·exact UM _ (XI s)
     ·rcases UU.1 s with s|s
      ·exact U8 _ s
      ·simp at s;subst s;exact UM _ (Uq C)
    have ia:∀p∈u++da,p∈(u.take i++u.drop (i+1))++(da++[a]):=fun p hp=>by
     rcases UU.1 hp with s|s
     ·rcases List.mem_cons.1 ((YW C).mem_iff.1 s) with rfl|s
      ·simp
      ·exact UM _ s
     ·exact U8 _ (UM _ s)
    have Z:GC za rr bt r zw w W.heap.size vw va ev ws zh fin k' F Gc Cb Aa Ba ka (u.take i++u.drop (i+1)) (da++[a]) (VS (za.map zc.zq) a.x P):=f.en n1 (Oa.trans n2) (fun p hp=>Ab (sc p hp)) (fun p hp=>ia p (ta hp)) jb r5 Eb Fb Gb;generalize u.take i++u.drop (i+1)=Y at Z ia;generalize da++[a]=ua at Z ia;have Ma:∀W',Bw F W'->Calls prog 174 #[.pointer (some (vA bt 1)),vP a.q] W' fun e w'=>e=vR (xd (Vn Y n.ze))/\Below W'.heap.size W' w':=fun W' ea=>by
     have:=(Z.below ea).ld.rw_.head Ia
     rw[show a.q=n.ze from qb.symm];exact this
    have ab:VA (za.map zc.zq) (VS (za.map zc.zq) a.x P).Ws (z6 (za.map zc.zq) (VS (za.map zc.zq) a.x P).Ws n.zb++Cb.map (·.x)):=by rw[gb];exact Db
    have Na:∀W',Bw F W'->Calls prog 170 #[vP rr,vP (w.heap.size+1),xd (Vn Y n.ze)] W' fun e o=>e=vT #[]/\∃E G,GC za rr bt r zw w W.heap.size vw va ev ws zh fin k' o E G Aa Ba ka Y ua (VS (za.map zc.zq) a.x P)/\VA (za.map zc.zq) (VS (za.map zc.zq) a.x P).Ws (G.map (·.x)):=fun W' ea=>(Z.below ea).eF z ra Ia ab
    have Bc:a∈Y++ua:=ia a (ta ja);have oa:∀(W':World) (E:Value) (G:List Pw),GC za rr bt r zw w W.heap.size vw va ev ws zh fin k' W' E G Aa Ba ka Y ua (VS (za.map zc.zq) a.x P)->W'.cell? (vA w.heap.size 0)=some (vP rr)/\W'.cell? (vA (w.heap.size+1+1) 0)=some (vP (w.heap.size+1))/\W'.cell? (vA rr 1)=some (.pointer (some (vA bt 1)))/\W'.cell? (vA a.ze 1)=some (vP a.q):=fun W' E G ca=>⟨ca.b1.cell,ca.b3.cell,ca.ld.cells.2.1,(ca.ld.pin Bc).cells.2.1⟩
    obtain⟨ib,hc,Vc,Wc⟩:=oa _ _ _ Z;have cb:∀W',Bw F W'->_:=fun W' ea=>oa _ _ _ (Z.below ea)
    generalize xd (Vn Y n.ze)=od at Ma Na;have Nb:=fun (W':World) (E:Value) (G:List Pw) (ca:GC za rr bt r zw w W.heap.size vw va ev ws zh fin k' W' E G Aa Ba ka Y ua (VS (za.map zc.zq) a.x P)) sa=>ca.pop z sa
    have Qb:Hid (k'+1<=_):=Ya;clear f m1 yb Oa Ab ta n1 n2 jb r4 r5 Db ab Eb Fb Gb C ia Ya c1 cc
    refine wpIn_wide.2 ?_
    go_region_held3 (fun w'=>w'.cell? (vA w.heap.size 0)=some (vP rr)/\w'.cell? (vA (w.heap.size+1+1) 0)=some (vP (w.heap.size+1))/\w'.cell? (vA rr 1)=some (.pointer (some (vA bt 1)))/\w'.cell? (vA a.ze 1)=some (vP a.q)) (go_keep)
     (first
     |(go_at_call 174;refine(Ma _ ?_).mono ?_;(focus exact cl);rintro e Hc ⟨rfl,Yb⟩;have Wb:Bw F Hc:=s5 cl Yb;obtain⟨Xc,Yc,Zc,cd⟩:=cb _ Wb)
     |(go_at_call 170;refine(Na _ ?_).mono ?_;(focus exact cl);rintro e sd ⟨rfl,pd,Qc,Jb,Tb⟩;obtain⟨g1,g2,g3,g4⟩:=oa _ _ _ Jb))
    have Ub:=Nb _ _ _ Jb Tb;clear Na Ma Nb cb oa Z
    gi_wp2_with ((first|refine⟨trivial,Q _,?_⟩|refine⟨trivial,?_⟩);gi_at_call 171;refine(UK.2 Ub).mono ?_;rintro e Nc ⟨Oc,Pc,rfl,vc⟩)
    gi_roundg k'
    case measure=>have:=Qb.out;omega
    case rel=>exact⟨k',Nat.le_refl _,vc⟩
end
attribute [local go_sem] Oper.semAt_some
section
variable {w:World}{za:List zc}{rr bt:Nat}{r:zc}{zw vw va ev:Value}{ws zh:List Pw}{zt:List (Int×Int)}
theorem cN{F:Fence}{c:Code}{Q:Exit->Act->World->Prop}{a:Act}{w:World}(h:c.wpIn F n P (Exit.then (fun a w=>Q .normal a w) (fun _ _ _=>False)) a w):c.wpIn F n P Q a w :=
 wpIn_mono h (fun e a w hq=>by cases e with|normal=>exact hq|_=>exact hq.elim)
theorem ss(f:Value)(d:∃a b c,f=.func a b c)(w:World):Calls prog 175 #[f] w fun e w'=>e=vR (vP w.heap.size)/\w'=w.alloc (.cells #[f,v0_] 254):=by
 obtain⟨a,b,c,rfl⟩:=d
 go_enter func175,ntmps175
 go_wp2_with fail
 go_ret
 exact⟨rfl,rfl⟩
theorem mS(Q:zr za)(pa:U_ za){ch:zc->List zc}(Fb:xy za ch)(h:yu w za rr bt r zw vw va ev ws zh zt)(Ma:r∈za)(Hb:r.zb=[])(R:yl za s0.Ws ws zh)(I:ye s0)(ec:s0.zt=zt)(Sd:zt.length<=1000)(ma:Nat)(Tc:VO s0.Ws<=ma)(Ud:ma<=100):
  Calls prog 131 #[vP rr] w fun e w'=>e=vT #[]/\∃L M N J H,yu w' za rr bt r zw L M N J H (wW (VL (za.map zc.zq)) ma s0).zt/\yl za (wW (VL (za.map zc.zq)) ma s0).Ws J H/\V9 rr bt w w' vw va ev L M N/\(∀p∈J++H,p∈ws++zh):=by
 generalize Oc:wW (VL (za.map zc.zq)) ma s0=fin;have Qc:Hid (wW (VL (za.map zc.zq)) ma s0=fin):=Oc;clear Oc;have ca:∀k:Nat,Fence.wide.depth.isSome=true->1<=k:=fun k h=>by simp[Fence.wide]at h
 have Ac:=ss (.func (.func 176) #[] #[]) ⟨_,_,_,rfl⟩
 refine(UK (n:=3)).1 ?_
 refine callsIn_of_wp_marks func131 rfl trivial ?_ rfl
 simp only[ntmps131,zC,Nat.reduceAdd,Nat.reduceSub];have fc:=fun W (Ba:Bw w W)=>h8 Q Fb (h.below Ba).rw_ Ma
 unfold zi at fc;obtain⟨V,ka⟩:∃V,V=((w.alloc (.cells #[vP rr] 186)).alloc (.cells #[.func (.func 176) #[] #[],v0_] 254)).alloc (.cells #[vP (w.heap.size+1)] 223):=⟨_,rfl⟩;have Qd:Bw w V:=by rw[ka];exact cl
 have Vd:V.heap.size=w.heap.size+3:=by rw[ka];simp
 have qb:zz V w.heap.size 186 (vP rr):=by rw[ka];exact((zz.new w 186 _).alloc _).alloc _
 have kd:yp V (w.heap.size+1) (.func (.func 176) #[] #[]) v0_ []:=by
  refine⟨?_,⟨rfl,.inl ⟨rfl,rfl⟩⟩,by simp[Value.ownBlock]⟩
  have:=(zg.new (w.alloc (.cells #[vP rr] 186)) 254 #[.func (.func 176) #[] #[],v0_]).alloc (.cells #[vP (w.heap.size+1)] 223)
  rw[Vv]at this;rw[ka];exact this
 have qc:zz V (w.heap.size+1+1) 223 (vP (w.heap.size+1)):=by
  have:=zz.new ((w.alloc (.cells #[vP rr] 186)).alloc (.cells #[.func (.func 176) #[] #[],v0_] 254)) 223 (vP (w.heap.size+1))
  rw[Vv,Vv]at this;rw[ka];exact this
 have c1:=qb.cell;rw[ka]at c1
 gi_wp2_with (first
  |((first|refine⟨trivial,ca _,?_⟩|refine⟨trivial,?_⟩);gi_at_call 175;refine(UK.2 (Ac _)).mono ?_;rintro e Gb ⟨rfl,rfl⟩)
  |((first|refine⟨trivial,ca _,?_⟩|refine⟨trivial,?_⟩);gi_at_call 169;refine(UK.2 (fc _ Vy)).mono ?_;rintro e Gb ⟨rfl,rfl,Za⟩))
 obtain⟨W,Ba⟩:∃W,W=V.alloc (.cells #[vP rr] 186):=⟨_,rfl⟩;have Wd:W.heap.size=w.heap.size+4:=by rw[Ba];simp[Vd]
 have ab:Bw V W:=by rw[Ba];exact cl
 have Sc:Bw w W:=s5 Qd ab;have Ad:=qb.below ab qb.lt;have Bd:=qc.below ab qc.lt;have od:=kd.below ab;simp only[Vv]at Za;simp only[<-ka,<- Ba]at Za ⊢;have hq:=Za (fun b=>b=w.heap.size+1) (fun b e=>by omega) (h.lt (fun b e=>by omega)).rw_;have cd:(U7 ws (dfs ch 4 r)).length<=20:=Nat.le_trans (gH ws (dfs ch 4 r)) (an Q Fb Ma);have ta:∀p∈U7 ws (dfs ch 4 r),p∈ws++zh:=fun p hp=>UM _ (gI hp)
 have jd:=cP Q Fb Ma Hb;generalize dfs ch 4 r=Bc at hq cd ta jd;have bb:∀m:List Ak,m.Perm ((U7 ws Bc).map fun p=>⟨p,WT za zh p.x⟩)->V8 (za.map zc.zq) s0.Ws (m.map akx):=fun m pe=>R.lG Q pa I.yh jd pe
 generalize U7 ws Bc=X at hq cd ta bb;clear Za fc Ba ka c1 qb qc kd Ac;have Wa:∀b,b<W.heap.size->¬(False\/(W.heap.size<=b/\b<W.heap.size+2+4)):=fun b hb e=>by rcases e with e|e;exact e;omega
 refine Y6 (T:=fun b=>b=w.heap.size+1) (S:=fun _=>False) rfl (enters_of func206 k_ rfl) hq (Below.refl _ _) (fun _=>rfl) (fun b e=>e.elim) (fun b e=>by omega)
  (fun (pre:List Pw) A=>(∃v m,yp A (w.heap.size+1) (.func (.func 176) #[] #[]) v m/\Vt ltA m/\m.Perm (pre.map fun p=>⟨p,WT za zh p.x⟩)/\(∀b,v.ownBlock=some b->W.heap.size+2+4<=b))/\zz A w.heap.size 186 (vP rr)/\zz A (w.heap.size+1+1) 223 (vP (w.heap.size+1))/\Bw w A)
  (fun c (pre:List Pw) A=>False)
  (fun pre A B Ub la=>by
   obtain⟨⟨v,m,g1,g2,g3,g4⟩,Y,Z,aa⟩:=Ub
   exact⟨⟨v,m,g1.zf la (Wa _ o_) (fun b hb e=>by have:=g4 b hb;rcases e with e|e;exact e;omega),g2,g3,g4⟩,Y.zf la (Wa _ o_),Z.zf la (Wa _ o_),aa.trans (la.ya aa.size (fun b Me=>Wa b o_))⟩)
  (fun c pre A B Ub la=>Ub)
  ⟨⟨_,[],od,fun j a b Qe fe=>by simp at fe,s_,by simp[Value.ownBlock]⟩,Ad,Bd,Sc⟩
  (fun x=>{tmps:=#[vP rr,vP w.heap.size,vP (w.heap.size+1+1),vP x.ze,undef,undef,undef,vP (w.heap.size+1),vP rr,.func (.func 206) #[] #[vP (w.heap.size+1+1+1)],vP x.ze,undef,undef,undef,undef,undef,undef,undef,undef,undef,undef,undef,undef,undef,undef,undef,undef,undef,undef,undef,undef,undef,undef,undef,undef,undef,undef,undef,undef,undef,undef,undef,undef,undef,undef,undef,undef,undef,undef,undef,undef,undef,undef,undef],defers:=[]}) ?assign ?body ?done ?stop
 case assign =>
  intro l x W K qa
  gi_wp2
  exact qa
 case stop =>
  rintro c pre A Xa Vb Rb
  exact Vb.elim
 case body =>
  rintro l2 pre x z ⟨⟨v,m,g1,g2,g3,g4⟩,Y,Z,aa⟩ Pe Xa
  have hc:m.length<=50:=by
   have:=g3.length_eq
   have ee:=Xa.length_le
   simp at this ee
   omega
  have Ec:x∈ws++zh:=ta x (Xa.subset s_);have da:=fun W' (f:Bw w W')=>gV Q pa (h.below f).rd Ma Hb (h.below f).cells.1 ((h.below f).pin Ec)
  have ea:=fun W' (f:Bw z W')=>jN ah (g1.below f) hc g2 ⟨x,WT za zh x.x⟩ ((h.below (s5 aa f)).befq (h.lt (fun b e=>by
   rcases e with e|e
   ·omega
   ·have:=g4 b e;omega)) (fun p hp=>by
    rcases UU.1 hp with e|e
    ·obtain⟨kc,Zb,rfl⟩:=UC.1 (g3.mem_iff.1 e)
     exact ta kc (Xa.subset (UM _ Zb))
    ·simp at e;subst e;exact Ec))
  have c1:=Y.cell;have c2:=Z.cell;have Ed:Hid (m.Perm (pre.map fun p=>⟨p,WT za zh p.x⟩)):=g3;have Pb:∀W',Bw z W'->W'.cell? (vA w.heap.size 0)=some (vP rr)/\W'.cell? (vA (w.heap.size+1+1) 0)=some (vP (w.heap.size+1)):=fun W' f=>⟨(Y.below f Y.lt).cell,(Z.below f Z.lt).cell⟩
  have cb:∀ {W':World},zd (fun y=>y=w.heap.size+1\/v.ownBlock=some y) z W'->W'.cell? (vA w.heap.size 0)=some (vP rr)/\W'.cell? (vA (w.heap.size+1+1) 0)=some (vP (w.heap.size+1))/\zz W' w.heap.size 186 (vP rr)/\zz W' (w.heap.size+1+1) 223 (vP (w.heap.size+1)):=fun {W'} la=>by
   have jb:=Y.zf la (g1.Xk Y d_ d_);have q2:=Z.zf la (g1.Xk Z d_ d_)
   exact⟨jb.cell,q2.cell,jb,q2⟩
  generalize td:WT za zh x.x=sx at da ea;have Kd:Hid (WT za zh x.x=sx):=td;clear td;clear g3 hq bb;unfold akv zi at da ea
  gi_upto_region 4 with fail
  refine cN ?_
  refine YA (fun W'=>W'.cell? (vA w.heap.size 0)=some (vP rr)/\W'.cell? (vA (w.heap.size+1+1) 0)=some (vP (w.heap.size+1))) k_ k_ (Pb z.drew (Below.refl _ _).drew) (fun Ka=>?_)
  refine wpAnyH_take (i:=0) (v:=vP (w.heap.size+1)) rfl k_ k_ k_ (fun _ _ _ h=>absurd h.1 e_) (Or.inl ⟨r_,?_⟩) Ka ?_
  ·intro w' Ha;obtain⟨ba,s2⟩:=Ha
   go_simp
  try simp only[Ux,Uv,Uw,Act.put,UF,UE,UD]
  refine wpAnyH_take (i:=1) (v:=vP rr) rfl k_ k_ k_ (fun _ _ _ h=>absurd h.1 e_) (Or.inl ⟨r_,?_⟩) Ka ?_
  ·intro w' Ha;obtain⟨ba,s2⟩:=Ha
   go_simp
  try simp only[Ux,Uv,Uw,Act.put,UF,UE,UD]
  refine wpAnyH_take (i:=2) (v:=vP x.ze) rfl k_ k_ k_ (fun _ _ _ h=>absurd h.1 e_) (Or.inl ⟨r_,?_⟩) Ka ?_
  ·intro w' Ha;obtain⟨ba,s2⟩:=Ha
   go_simp
  try simp only[Ux,Uv,Uw,Act.put,UF,UE,UD]
  refine wpAnyH_ready (rs:=[3]) k_ s_ ?_
  refine AllReadyH.cons rfl (fun Hd qa=>?_) AllReadyH.nil
  rw[if_pos r_]
  try simp only[Ux,Uv,Uw]
  go_simp
  refine(da _ (s5 aa cl)).mono ?_
  rintro e Gb ⟨rfl,O⟩
  have Ya:Bw z Gb:=s5 (show Bw z z.drew by exact cl) O
  refine qa.out _ _ (Pb _ Ya) (fun Ka=>?_)
  clear qa
  try simp only[Ux,Uv,Uw,Act.put,UF,UE,UD]
  refine wpAnyH_ready (rs:=[4]) k_ s_ ?_
  refine AllReadyH.cons rfl (fun Hd qa=>?_) AllReadyH.nil
  rw[if_pos r_]
  try simp only[Ux,Uv,Uw]
  go_simp
  refine(ea _ Ya).mono ?_
  rintro e Nc ⟨rfl,E,He,Ce,De,Ee,Fe,Ge⟩
  have Wb:zd (fun y=>y=w.heap.size+1\/v.ownBlock=some y) z Nc:=(zd.new Ya).trans Fe;obtain⟨jb,q2,qe,re⟩:=cb Wb
  refine qa.out _ _ ⟨jb,q2⟩ (fun Ka=>?_)
  clear qa
  refine wpAnyH_done k_ ⟨rfl,?_⟩ _
  clear ea da cb Pb
  refine show zd (fun b=>b=w.heap.size+1\/W.heap.size+2+4<=b) z Nc/\_ from⟨Wb.mono (fun b e=>?_),⟨E,He,Ee,De,?_,fun b hb=>?_⟩,qe,re,aa.trans (Wb.ya aa.size (fun b hb e=>?_))⟩
  ·rcases e with e|e
   ·exact .inl e
   ·exact .inr (g4 b e)
  ·rw[List.map_append];have e:[x].map (fun p=>(⟨p,WT za zh p.x⟩:Ak))=[⟨x,sx⟩]:=by rw[<-Kd.out];rfl
   rw[e]
   exact Ce.trans (Ed.out.append_right _)
  ·rcases Ge with e|⟨g,Ia,db⟩
   ·rw[e]at hb;exact g4 b hb
   ·rw[Ia]at hb;cases hb;have:=Ya.size;omega
  ·rcases e with e|e
   ·omega
   ·have:=g4 _ e;omega
 case done =>
  rintro A ⟨⟨v,m,g1,g2,g3,g4⟩,Y,Z,aa⟩ Rb
  have ra:=bb m g3;have hc:m.length<=20:=by
   have:=g3.length_eq
   simp at this
   omega
  have Uc:∀p∈m,p.p∈ws++zh:=fun p hp=>by
   obtain⟨kc,Zb,rfl⟩:=UC.1 (g3.mem_iff.1 hp)
   exact ta kc Zb
  have Xc:=h.below aa;have Yc:=h.lt (T:=fun y=>y=w.heap.size+1\/v.ownBlock=some y) (fun b e=>by
   rcases e with e|e
   ·omega
   ·have:=g4 b e;omega)
  have c1:=Y.cell;have c2:=Z.cell;have Jc:GD za rr bt r zw w W.heap.size [] vw va ev ws zh fin ma A v m vw va ev ws zh s0:=⟨g1,g2,Uc,by rw[ec];exact Xc,R,I,Qc.out.symm,Tc,by rw[ec];omega,(V9.refl _ _ _ _ _ _).below aa,Yc,fun b hb=>by have:=g4 b hb;omega,fun _ e=>e,Y,Z,Rb,fun x Vb=>by simp at Vb⟩;have mc:=Jc.pop ra;generalize 2*ma+m.length=gd at mc;clear bb ta hq g3 Qc Jc ra g1 g2 g4 Xc Yc hc Uc R I ec Ad Bd od Sc Rb Tc Ud Sd
  gi_wp2_with ((first|refine⟨trivial,ca _,?_⟩|refine⟨trivial,?_⟩);gi_at_call 179;refine(UK.2 mc).mono ?_;rintro e Qa ⟨pb,kb,Mc,rfl,Tb⟩)
  obtain⟨rb,nb⟩:∃rb,rb=Qa.alloc (.cells #[.pointer pb,vI kb] 226):=⟨_,rfl⟩;have Sb:H1 za rr bt r zw w W.heap.size [(Qa.heap.size,#[.pointer pb,vI kb])] vw va ev ws zh fin gd pb kb Mc rb:=by
   obtain⟨k,ob,sa,Na,La,Oa,yg,P,ba,o,eb⟩:=Tb
   exact⟨k,ob,sa,Na,La,Oa,yg,P,ba,o.mark (by rw[nb];exact cl) (by rw[nb];exact zg.new _ _ _),eb⟩
  have Ra:w.heap.size<=Qa.heap.size:=by
   obtain⟨k,ob,sa,Na,La,Oa,yg,P,ba,o,eb⟩:=Tb
   have:=o.b1.lt;omega
  simp only[<-nb];clear nb Tb;generalize Qa.heap.size=Dd at Sb Ra ⊢
  gi_loopg [4,5] gd (fun q se te wr=>∃F hp C sb,se=vP F/\te=.bool sb/\w.heap.size<=F/\H1 za rr bt r zw w W.heap.size [(F,#[.pointer hp,vI C])] vw va ev ws zh fin q hp C sb wr)
  case atStart=>exact⟨Dd,pb,kb,Mc,rfl,rfl,Ra,Sb⟩
  case round =>
   clear Sb Ra mc c1 c2;obtain⟨F,hp,C,sb,rfl,rfl,Ra,k,ob,sa,Na,La,Oa,yg,P,ba,o,eb⟩:=hrel
   rcases eb with ⟨rfl,sd⟩|⟨rfl,Qb,a,rfl,rfl,cc,ra,Kb⟩
   ·have sc:Hid (fin=ba):=sd;clear sd
    gi_wp2_with fail
    have hd:=o.d;rw[Wd]at hd
    refine⟨s_,.inl ⟨_,_,rfl,run_takeDeferred hd,?_⟩⟩
    have Gc:zd (fun b=>b=w.heap.size+4) wr (wr.putObj (w.heap.size+4) (.deferred none)):=(zd.refl (fun b=>b=w.heap.size+4) _).putObj rfl _
    refine⟨.tuple #[],by simp[results,results131,go_sem],rfl,Na,La,Oa,yg,P,?_,?_,⟨o.st.zf.Vf Gc (fun b hb e=>by omega),o.st.new⟩,o.sub⟩
    ·rw[sc.out];exact o.ld.zf Gc (o.ld.outD hd)
    ·rw[sc.out];exact o.rel
   ·have Pa:=o.fits Q pa cc;have Cb:Hid (2*k+sa.length+1<=_):=Qb;have D:∀W',Bw wr W'->W'.cell? (vA w.heap.size 0)=some (vP rr)/\W'.cell? (vA (w.heap.size+1+1) 0)=some (vP (w.heap.size+1))/\W'.cell? (vA F 0)=some (vP a.p.ze)/\W'.cell? (vA F 1)=some (vI a.s):=fun W' f=>⟨(o.below f).b1.cell,(o.below f).b3.cell,(o.below f).fblk.cell 0,(o.below f).fblk.cell 1⟩
    obtain⟨Ia,db,Ib,Jb⟩:=D wr (Below.refl _ _)
    cases hfw:Vm (za.map zc.zq) ba.Ws a.p.x with
    |false =>
     rw[hfw]at Pa;have Ld:=ra.drop hfw;have me:=fun W' (f:Bw wr W')=>(o.below f).popN Ld #[vP a.p.ze,vI a.s]
     clear ra Kb Qb
     gi_wp2_with (first
      |((first|refine⟨trivial,ca _,?_⟩|refine⟨trivial,?_⟩);gi_at_call 180;refine(UK.2 Pa).mono ?_;rintro e ja ⟨rfl,O⟩;obtain⟨Lb,Mb,Nb,Ob⟩:=D ja O;have Gd:=me ja O;have ae:=(D (ja.alloc (.cells #[vP a.p.ze,vI a.s] 226)) (O.alloc O.size _)).2.1)
      |((first|refine⟨trivial,ca _,?_⟩|refine⟨trivial,?_⟩);gi_at_call 179;refine(UK.2 Gd).mono ?_;rintro e Cd ⟨Va,Sa,Nd,rfl,ed⟩;have U:=ed.ze;have Rc:=U.cell;have Wc:=U.frozen))
     have Ae:=ed.setF (vs':=#[.pointer Va,vI Sa]) (((zd.refl (fun b=>b=ja.heap.size) Cd).setCell (p:=vA ja.heap.size 0) rfl (.pointer Va)).setCell (p:=vA ja.heap.size 1) rfl (vI Sa)) (by have:=(U.set 0 (.pointer Va)).set 1 (vI Sa);simpa using this) (by have:=O.size;have:=o.b1.lt;omega)
     gi_roundg (2*k+sa.length)
     case measure=>have:=Cb.out;omega
     case rel=>exact⟨_,Va,Sa,Nd,rfl,rfl,by have:=O.size;have:=o.b1.lt;omega,Ae⟩
    |true =>
     rw[hfw]at Pa;obtain⟨G,i,ib,wc,Lc,Kc,Bb,k',rfl,Fc,Hc,tc⟩:=o.l6 Q cc ra hfw Kb;obtain⟨n,gb,ke,cb⟩:=o.ld.lf a.p cc;have vc:ba.zt.length<=10000:=by have:=o.bd;omega
     have Ja:=fun W' (f:Bw wr W')=>(o.below f).ld.admit vc ib
     rw[<-cb]at Bb;have Zc:∀p∈(yg.take i++yg.drop (i+1))++(P++[a.p]),p∈yg++P:=fun p hp=>by
      rcases UU.1 hp with u|u
      ·exact UM _ (XI u)
      ·rcases UU.1 u with u|u
       ·exact U8 _ u
       ·simp at u;subst u;exact UM _ (Uq ib)
     have dd:∀p∈yg++P,p∈(yg.take i++yg.drop (i+1))++(P++[a.p]):=fun p hp=>by
      rcases UU.1 hp with u|u
      ·rcases List.mem_cons.1 ((YW ib).mem_iff.1 u) with rfl|u
       ·simp
       ·exact UM _ u
      ·exact U8 _ (UM _ u)
     have hgo:∀W' Ta Da Aa ua,Bw wr W'->yu Ta za rr bt r zw Da Aa ua (yg.take i++yg.drop (i+1)) (P++[a.p]) (ba.zt++[(1,a.p.x.zm)])->V9 rr bt W' Ta Na La Oa Da Aa ua->GD za rr bt r zw w W.heap.size [(F,#[vP a.p.ze,vI a.s])] vw va ev ws zh fin k' Ta ob sa Da Aa ua (yg.take i++yg.drop (i+1)) (P++[a.p]) G:=fun W' Ta Da Aa ua f ie Td=>(o.below f).en (by rw[wc];exact ie) Td Zc dd Lc Kc Fc Hc tc
     have nc:a.p∈(yg.take i++yg.drop (i+1))++(P++[a.p]):=s_;unfold zi at Ja;clear ra Kb Qb Lc Kc Fc Hc tc Zc dd vc wc ib;generalize yg.take i++yg.drop (i+1)=Ea at Ja hgo nc;generalize P++[a.p]=ic at Ja hgo nc
     gi_upto_region 10 with (first
      |((first|refine⟨trivial,ca _,?_⟩|refine⟨trivial,?_⟩);gi_at_call 180;refine(UK.2 Pa).mono ?_;rintro e ja ⟨rfl,O⟩;obtain⟨Lb,Mb,Nb,Ob⟩:=D ja O;have qd:=Ja ja O)
      |((first|refine⟨trivial,ca _,?_⟩|refine⟨trivial,?_⟩);gi_at_call 173;refine(UK.2 qd).mono ?_;rintro e na ⟨rfl,Da,Aa,ua,n1,n2⟩;have Fa:=hgo _ _ _ _ _ O n1 n2;clear qd Ja hgo n1 n2))
     clear D Ia db Ib Jb Lb Mb Nb Ob Pa;have Ie:w.heap.size<=na.heap.size:=by have:=Fa.b1.lt;omega
     have D:∀ {k v m} (W':World),GD za rr bt r zw w W.heap.size [(F,#[vP a.p.ze,vI a.s])] vw va ev ws zh fin k W' v m Da Aa ua Ea ic G->W'.cell? (vA w.heap.size 0)=some (vP rr)/\W'.cell? (vA (w.heap.size+1+1) 0)=some (vP (w.heap.size+1))/\W'.cell? (vA F 0)=some (vP a.p.ze)/\W'.cell? (vA F 1)=some (vI a.s)/\W'.cell? (vA rr 1)=some (.pointer (some (vA bt 1)))/\W'.cell? (vA a.p.ze 1)=some (vP a.p.q):=fun W' Ca=>⟨Ca.b1.cell,Ca.b3.cell,Ca.fblk.cell 0,Ca.fblk.cell 1,Ca.ld.cells.2.1,(Ca.ld.pin nc).cells.2.1⟩
     obtain⟨Ia,db,Ib,Jb,Xd,Yd⟩:=D na Fa;have Xb:∀W',Bw na W'->Calls prog 174 #[.pointer (some (vA bt 1)),vP a.p.q] W' fun e w'=>e=vR (xd (Vn Ea n.ze))/\Below W'.heap.size W' w':=fun W' f=>by
      have:=(Fa.below f).ld.rw_.head gb
      rw[show a.p.q=n.ze from ke.symm];exact this
     have Pc:∀W',Bw na W'->_:=fun W' f=>D W' (Fa.below f)
     generalize pd:xd (Vn Ea n.ze)=jc at Xb;have Ic:Hid (xd (Vn Ea n.ze)=jc):=pd;clear pd
     refine wpIn_wide.2 ?_
     go_region_held3 (fun w'=>w'.cell? (vA w.heap.size 0)=some (vP rr)/\w'.cell? (vA F 0)=some (vP a.p.ze)/\w'.cell? (vA rr 1)=some (.pointer (some (vA bt 1)))/\w'.cell? (vA a.p.ze 1)=some (vP a.p.q)) (go_keep)
      (first|(go_at_call 174;refine(Xb _ ?_).mono ?_;(focus exact cl);rintro e t ⟨rfl,Pd⟩;have Vc:Bw na t:=s5 cl Pd;obtain⟨Lb,Mb,Nb,Ob,ae,Oe⟩:=Pc _ Vc))
     have ga:=Fa.below Vc;clear Xb Pc Fa Ia db Ib Jb Xd Yd;have Cc:w.heap.size<=t.heap.size:=by have:=ga.b1.lt;omega
     have mb:∀W',Bw t W'->_:=fun W' f=>D W' (ga.below f)
     have Yb:=fun W=>ZV (W:=W)
     have oc:=fun W (p:Pw)=>ZD (W:=W) (x:=p)
     cases hhp:Vn Ea n.ze with
     |none =>
      have Db:=ga.popN (ga.lL Q pa gb hhp Bb) #[vP a.p.ze,vI a.s];have de:=(mb (t.alloc (.cells #[vP a.p.ze,vI a.s] 226)) cl).2.1;have Jd:=Yb t;have yb:jc=.pointer none:=by rw[<-Ic.out,hhp];rfl
      subst yb;clear mb D Yb oc
      gi_wp2_with ((first|refine⟨trivial,ca _,?_⟩|refine⟨trivial,?_⟩);gi_at_call 179;refine(UK.2 Db).mono ?_;rintro e vb ⟨ha,ia,Eb,rfl,Ga⟩;have U:=Ga.ze;have Rc:=U.cell;have Wc:=U.frozen)
      have Ab:=Ga.setF (vs':=#[.pointer ha,vI ia]) (((zd.refl (fun b=>b=t.heap.size) vb).setCell (p:=vA t.heap.size 0) rfl (.pointer ha)).setCell (p:=vA t.heap.size 1) rfl (vI ia)) (by have:=(U.set 0 (.pointer ha)).set 1 (vI ia);simpa using this) Cc
      gi_roundg (2*k'+sa.length)
      case measure=>have:=Cb.out;omega
      case rel=>exact⟨_,ha,ia,Eb,rfl,rfl,Cc,Ab⟩
     |some p =>
      obtain⟨Ye,Re⟩:=ga.rel.YX Q pa gb hhp;have Zd:p∈Ea++ic:=UM _ (ZX hhp);have da:∀W',Bw t W'->_:=fun W' f=>gV Q pa (ga.below f).ld.rd Ma Hb (ga.below f).ld.cells.1 ((ga.below f).ld.pin Zd)
      have ea:∀W',Bw t W'->_:=fun W' f=>(ga.below f).eF Q pa gb hhp Bb
      have Jd:=oc t p;generalize WT za ic p.x=sx at da ea;unfold akv zi at da ea;have yb:jc=vP p.ze:=by rw[<-Ic.out,hhp];rfl
      subst yb;clear Yb oc
      gi_upto_region 12 with fail
      refine wpIn_wide.2 ?_
      go_region_held3 (fun w'=>w'.cell? (vA w.heap.size 0)=some (vP rr)/\w'.cell? (vA (w.heap.size+1+1) 0)=some (vP (w.heap.size+1))) (go_keep)
       (first
       |(go_at_call 178;refine(da _ ?_).mono ?_;(focus exact cl);rintro e Be ⟨rfl,je⟩;have oe:Bw t Be:=s5 cl je;obtain⟨g1,g2,g3,g4,Je,Ke⟩:=mb _ oe)
       |(go_at_call 177;refine(ea _ ?_).mono ?_;(focus exact cl);rintro e oa ⟨rfl,Ze,Od,Le,Ua,Md⟩;obtain⟨Se,Te,Ue,Ve,We,Xe⟩:=D oa Ua))
      have Db:=Ua.popN Md #[vP a.p.ze,vI a.s];have de:=(D _ (Ua.below (show Bw oa (oa.alloc (.cells #[vP a.p.ze,vI a.s] 226)) by exact cl))).2.1;have Dc:w.heap.size<=oa.heap.size:=by have:=Ua.b1.lt;omega
      clear da ea mb D
      gi_wp2_with ((first|refine⟨trivial,ca _,?_⟩|refine⟨trivial,?_⟩);gi_at_call 179;refine(UK.2 Db).mono ?_;rintro e vb ⟨ha,ia,Eb,rfl,Ga⟩;have U:=Ga.ze;have Rc:=U.cell;have Wc:=U.frozen)
      have Ab:=Ga.setF (vs':=#[.pointer ha,vI ia]) (((zd.refl (fun b=>b=oa.heap.size) vb).setCell (p:=vA oa.heap.size 0) rfl (.pointer ha)).setCell (p:=vA oa.heap.size 1) rfl (vI ia)) (by have:=(U.set 0 (.pointer ha)).set 1 (vI ia);simpa using this) Dc
      gi_roundg (2*k'+Od.length)
      case measure=>have:=Cb.out;omega
      case rel=>exact⟨_,ha,ia,Eb,rfl,rfl,Dc,Ab⟩
end
end
section
open Go.RowKit
variable {W W' w:World}{bt:Nat}{va vw:Value}{ws zh:List Pw}{s0:SS}
structure yt (W:World) (za:List zc) (bt:Nat) (r:zc) (zw vw va:Value) (ws zh:List Pw):Prop where
 yj:∀n∈za,UA W n
 bk:xh W bt (zi r.ze) zw vw va ws zh
 lf:∀p∈ws++zh,∃n∈za,n.ze=p.q/\n.zb=p.x.zb
 nm:∀p∈ws++zh,(0<=p.x.d0/\p.x.d0<=1000)/\(0<=p.x.d1/\p.x.d1<=1000)
theorem yt.below{za:List zc}{r:zc}{zw:Value}(h:yt W za bt r zw vw va ws zh)(hb:Bw W W'):yt W' za bt r zw vw va ws zh :=
 ⟨fun n a=>(h.yj n a).below hb,h.bk.zf (T:=fun _=>False) (zd.new hb) id (fun _ _=>id) (fun _ _=>id) (fun _ _=>id),h.lf,h.nm⟩
theorem bn{f:SS->Option SS}{I:SS->Prop}(c:Nat)(hI:∀s a,I s->f s=some a->I a/\a.zt.length<=s.zt.length+c):∀(n:Nat) (s:SS),I s->I (wW f n s)/\(wW f n s).zt.length<=s.zt.length+c*n
 |0,s,h=>⟨h,by simp[wW]⟩
 |n+1,s,h=>by
  unfold wW
  cases d:f s with
  |none=>exact⟨h,Nat.le_add_right _ _⟩
  |some a =>
   obtain⟨b,e⟩:=hI s a h d;obtain⟨h3,g⟩:=bn c hI n a b
   refine⟨h3,?_⟩
   have:c*(n+1)=c*n+c:=by rw[Nat.mul_add,Nat.mul_one]
   simp only
   omega
theorem qM{za:List zc}(q:zr za)(y:U_ za){r:zc}{zw:Value}(h:yt w za bt r zw vw va ws zh)(z:r∈za)(v:r.zb=[])(R:yl za s0.Ws ws zh)(I:ye s0)(B:s0.zt=[]):
  Calls prog 79 #[zi r.ze,.pointer (some (vA bt 1))] w fun e w'=>∃j k g c a,e=vR g/\yt w' za bt r zw j k c a/\w'.ownsRow 0 60 2 g (UH (za.map zc.zq) s0).zt.length (UZ (UH (za.map zc.zq) s0).zt)/\yl za (UH (za.map zc.zq) s0).Ws c a/\zd (wz bt vw va) w w'/\(∀b,j.ownBlock=some b\/k.ownBlock=some b->vw.ownBlock=some b\/va.ownBlock=some b\/w.heap.size<=b)/\(∀b,g.ownBlock=some b->w.heap.size<=b)/\(∀p∈c++a,p∈ws++zh):=by
 obtain⟨ch,u⟩:=q.ch;have Z:=I.yh.yh.len;obtain⟨D,b1⟩:=bn (f:=ej (za.map zc.zq)) (I:=ye) 25 (fun s V d i=>⟨(d.own i).1,(d.own i).2.2.2.2⟩) s0.Ws.length s0 I;have X:(VN (za.map zc.zq) s0).zt.length<=1000:=by
  unfold VN;rw[B]at b1
  have:25*s0.Ws.length<=600:=o_
  simp at b1
  omega
 have C:ye (VN (za.map zc.zq) s0):=D;have x:UH (za.map zc.zq) s0=wW (VL (za.map zc.zq)) s0.Ws.length (VN (za.map zc.zq) s0):=rfl;have E:(VN (za.map zc.zq) s0).Ws.length=s0.Ws.length:=by
  unfold VN
  exact ZZ (I:=fun s=>ye s/\s.Ws.length=s0.Ws.length) (fun s V d i=>⟨(d.1.own i).1,by rw[(d.1.own i).2.2.2.1];exact d.2⟩) _ _ ⟨I,rfl⟩ |>.2
 rw[x];have ba:=h.bk.zl.lt;have Y:yu (w.alloc (.cells #[zi r.ze,.pointer (some (vA bt 1)),v0_] 188)) za w.heap.size bt r zw vw va v0_ ws zh []:=by
  have l:Bw w (w.alloc (.cells #[zi r.ze,.pointer (some (vA bt 1)),v0_] 188)):=cl
  exact⟨fun n K=>(h.yj n K).below l,⟨h.bk.zf (T:=fun _=>False) (zd.new l) id (fun _ _=>id) (fun _ _=>id) (fun _ _=>id),⟨zg.new _ _ _,⟨rfl,.inl ⟨rfl,rfl⟩⟩⟩⟩,h.lf,h.nm⟩
 have m:=nu q y u Y z v R I B s_;have o:=fun W j k g c a (J:yu W za w.heap.size bt r zw j k g c a (VN (za.map zc.zq) s0).zt) (H:yl za (VN (za.map zc.zq) s0).Ws c a)=>mS q y u J z v H C rfl X s0.Ws.length (by rw[<-E];exact jh _) o_
 generalize wW (VL (za.map zc.zq)) s0.Ws.length (VN (za.map zc.zq) s0)=fin at o ⊢;generalize VN (za.map zc.zq) s0=aa at m o;clear x;unfold zi at m ⊢
 go_enter func79,ntmps79
 go_wp2_with fail
 refine m.mono ?_
 rintro e ha ⟨rfl,ea,ca,ga,yg,da,m1,O,P,Q⟩
 have A:=o _ _ _ _ _ _ m1 O;clear m o
 go_wp2_with fail
 refine A.mono ?_
 rintro e ia ⟨rfl,M,G,F,N,L,n1,n2,S,U⟩
 have c2:=n1.cells.2.2.1;clear A
 go_wp2_with fail
 go_ret
 have t:=P.trans S;have l:Bw w (w.alloc (.cells #[vP r.ze,.pointer (some (vA bt 1)),v0_] 188)):=cl
 refine⟨M,G,F,N,L,rfl,⟨n1.yj,n1.ld.bk,n1.lf,n1.nm⟩,n1.ld.rnd.row,n2,(zd.new l).Vf t.zf (fun b hb e=>?_),fun b e=>?_,fun b e=>?_,fun p hp=>Q p (U p hp)⟩
 ·rcases e with e|e|e
  ·omega
  ·exact e
  ·cases e
 ·rcases t.new.bk b e with e|e|e
  ·exact .inl e
  ·exact .inr (.inl e)
  ·simp at e;exact .inr (.inr o_)
 ·rcases t.new.ev b e with e|e
  ·cases e
  ·simp at e;omega
theorem ZT{za:List zc}(l:zr za)(y:U_ za){r:zc}{zw:Value}(h:yt w za bt r zw vw va ws zh)(z:r∈za)(m:r.zb=[])(R:yl za s0.Ws ws zh)(I:ye s0)(A:s0.zt=[]):
  Calls prog 51 #[vP bt,vI 0] w fun e w'=>∃f g d c a,e=vT #[d,vI 0]/\yt w' za bt r zw f g c a/\w'.ownsRow 0 60 2 d (UH (za.map zc.zq) s0).zt.length (UZ (UH (za.map zc.zq) s0).zt)/\yl za (UH (za.map zc.zq) s0).Ws c a/\zd (wz bt vw va) w w'/\(∀b,f.ownBlock=some b\/g.ownBlock=some b->vw.ownBlock=some b\/va.ownBlock=some b\/w.heap.size<=b)/\(∀b,d.ownBlock=some b->w.heap.size<=b)/\(∀p∈c++a,p∈ws++zh):=by
 have i:=fun W (j:Bw w W)=>(qM l y (h.below j) z m R I A).mono (R':=fun e w'=>∃f g d c a,e=vR d/\w'.cell? (vA bt 0)=some (vP r.ze)/\yt w' za bt r zw f g c a/\w'.ownsRow 0 60 2 d (UH (za.map zc.zq) s0).zt.length (UZ (UH (za.map zc.zq) s0).zt)/\yl za (UH (za.map zc.zq) s0).Ws c a/\zd (wz bt vw va) w w'/\(∀b,f.ownBlock=some b\/g.ownBlock=some b->vw.ownBlock=some b\/va.ownBlock=some b\/w.heap.size<=b)/\(∀b,d.ownBlock=some b->w.heap.size<=b)/\(∀p∈c++a,p∈ws++zh)) (fun e w' ⟨f,g,d,c,a,o,k,h3,q,s,t,u,x⟩=>⟨f,g,d,c,a,o,k.bk.zl.cell 0,k,h3,q,(zd.new j).trans s,fun b e=>(t b e).imp id (fun e=>e.imp id (fun e=>Nat.le_trans j.size e)),fun b e=>Nat.le_trans j.size (u b e),x⟩)
 have c0:=h.bk.zl.cell 0;simp only[List.getElem?_toArray,List.getElem?_cons_zero]at c0;generalize UH (za.map zc.zq) s0=fin at i ⊢;unfold zi at i c0
 go_enter func51,ntmps51
 go_upto_region 3 with fail
 go_region_held3 (fun w'=>w'.cell? (vA bt 0)=some (vP r.ze)) (go_keep)
  (first|(go_at_call 79;refine(i _ ?_).mono ?_;(focus exact cl);rintro e F ⟨D,B,n,E,C,rfl,c2,m1⟩))
 clear i
 go_wp2_with fail
 exact Us (v:=.tuple #[n,vI 0]) (by simp[results,results51,go_sem]) rfl ⟨_,_,_,_,_,rfl,m1⟩
theorem XX{x:Int}(a:x≠0):
  Calls prog 51 #[vP bt,vI x] w fun e w'=>e=vT #[v0_,vI x]/\w'=w:=by
 have b:(x == 0)=false:=by simp[a]
 go_enter func51,ntmps51
 go_wp2_with fail
 exact Us (v:=.tuple #[v0_,vI x]) (by simp[results,results51,go_sem]) rfl ⟨rfl,rfl⟩
end
section
open Go.RowKit Go.Shelf
variable {w:World}{bt:Nat}{va vw:Value}{ws zh:List Pw}
attribute [local go_sem] Oper.semAt_some
def WE (l:List Pw):List Value:=l.map fun p=>vI p.x.zm
theorem ny{za:List zc}{r:zc}{zw:Value}(h:yt w za bt r zw vw va ws zh){m:zc}(ra:m∈za):
  Calls prog 107 #[vP bt,zi m.ze] w fun e w'=>∃d,e=vR d/\w'.ownsRow 0 3 1 d (U6 ws m.ze).length (WE (U6 ws m.ze))/\Bw w w'/\(∀b,d.ownBlock=some b->w.heap.size<=b):=by
 have oa:∀k:Nat,Fence.wide.depth.isSome=true->1<=k:=fun k h=>by simp[Fence.wide]at h
 have Fa:=h.bk.zl.lt;have Ba:=h.bk.len;have J:=fun W (q:Bw w W)=>iZ (w:=W) (h.below q).yj ((h.below q).bk.zl.cell 2) ⟨(h.below q).bk.yc,fun p hp=>(h.below q).bk.zu p (UM _ hp)⟩ o_ (fun p hp=>by obtain⟨n,da,ea,_⟩:=h.lf p (UM _ hp);exact⟨n,da,ea⟩) ra
 have ja:=fun (T:Nat->Prop) (E:∀b,T b->w.heap.size<=b)=>(⟨fun n H=>⟨fun e=>by have:=(h.yj n H).lt;have:=E _ e;omega,fun g qa e=>by have:=((h.yj n H).row.lt g qa).2;have:=E _ e;omega⟩,fun e=>by have:=E _ e;omega,fun b hb e=>by have:=UI h.bk.yc hb;have:=E _ e;omega,fun p hp e=>by have:=(h.bk.zu p (UM _ hp)).lt;have:=E _ e;omega⟩:(∀n∈za,¬T n.ze/\∀g,n.sl.ownBlock=some g->¬T g)/\¬T bt/\(∀b,vw.ownBlock=some b->¬T b)/\(∀p∈ws,¬T p.ze))
 have aa:∀p∈U6 ws m.ze,p∈ws:=fun p hp=>(Vu.1 hp).1
 have la:(U6 ws m.ze).length<=24:=Nat.le_trans (Wt _ _) o_;have ca:∀W,Bw w W->∀p∈ws,W.cell? (vA p.ze 0)=some (vI p.x.zm):=fun W q p hp=>((h.below q).bk.zu p (UM _ hp)).cell 0
 generalize U6 ws m.ze=X at J aa la ⊢
 refine(UK (n:=3)).1 ?_
 refine callsIn_of_wp_marks func107 rfl trivial ?_ rfl
 unfold zi at J ⊢;simp only[ntmps107,zC,Nat.reduceAdd,Nat.reduceSub]
 gi_wp2_with ((first|refine⟨trivial,oa _,?_⟩|refine⟨trivial,?_⟩);gi_at_call 156;refine(UK.2 (J _ Vy)).mono ?_;rintro e Ca ⟨rfl,rfl,F⟩)
 obtain⟨W,q⟩:∃W,W=(((w.alloc (.cells #[v0_] 25)).alloc (.cells #[.pointer (some (vA bt 1))] 132)).alloc (.cells #[vP m.ze] 97)):=⟨_,rfl⟩;have Ga:W.heap.size=w.heap.size+3:=by rw[q];simp
 have pa:Bw w W:=by rw[q];exact cl
 have Aa:zz W w.heap.size 25 v0_:=by rw[q];exact((zz.new w 25 _).alloc _).alloc _
 simp only[Vv]at F;simp only[<-q]at F ⊢;have hq:SeqM prog 198 #[vP (w.heap.size+1),vP (w.heap.size+1+1)] (fun p:Pw=>#[vP p.ze]) (fun _=>False) 0 (fun b=>b=w.heap.size) X W:=eo (fun B ta da ea=>by
  obtain⟨o1,o2,o3,ua⟩:=ja (fun b=>b=w.heap.size\/b=ta\/B<=b) (fun b e=>by omega)
  exact F _ o1 o2 o3 ua o_ o_)
 clear F J q ja;have U:∀b,b<W.heap.size->¬(False\/(W.heap.size<=b/\b<W.heap.size+2+0)):=fun b hb e=>by rcases e with e|e;exact e;omega
 refine Y6 (T:=fun b=>b=w.heap.size) (S:=fun _=>False) rfl (enters_of func198 k_ rfl) hq (Below.refl _ _) (fun _=>rfl) (fun b e=>e.elim) (fun b e=>by omega)
  (fun (pre:List Pw) A=>(∃v,A.ownsRow 0 3 1 v pre.length (WE pre)/\zz A w.heap.size 25 v/\(∀b,v.ownBlock=some b->W.heap.size+2+0<=b))/\Bw w A)
  (fun c (pre:List Pw) A=>False)
  (fun pre A B P C=>by
   obtain⟨⟨v,g1,g2,g3⟩,g4⟩:=P
   exact⟨⟨v,s8 g1 C (fun b hb e=>by have:=g3 b hb;rcases e with e|e;exact e;omega),g2.zf C (U _ o_),g3⟩,g4.trans (C.ya g4.size (fun b Da=>U b o_))⟩)
  (fun c pre A B P C=>P)
  ⟨⟨_,⟨rfl,.inl ⟨rfl,rfl⟩⟩,Aa,by simp[Value.ownBlock]⟩,pa⟩
  (fun x=>{tmps:=#[vP bt,vP m.ze,undef,undef,v0_,vP w.heap.size,vP x.ze,vP bt,vP bt,.pointer (some (vA bt 1)),vP m.ze,.func (.func 198) #[] #[vP (w.heap.size+1),vP (w.heap.size+1+1)],vP x.ze,undef,undef,undef,undef,undef,undef,undef,undef],defers:=[]}) ?assign ?body ?done ?stop
 case assign =>
  intro l x W K a
  gi_wp2
  exact a
 case stop =>
  rintro c pre A M sa ga
  exact sa.elim
 case body =>
  rintro l2 pre x f ⟨⟨v,g1,g2,g3⟩,g4⟩ Ka M
  have G:x∈ws:=aa x (M.subset s_);have Ja:pre.length<=24:=by have:=M.length_le;simp at this;omega
  have c0:=g2.cell;have n0:=ca f g4 x G;have z:∀W',Bw f W'->W'.cell? (vA x.ze 0)=some (vI x.x.zm):=fun W' na=>ca W' (s5 g4 na) x G
  obtain⟨s,Q⟩:∃s,s=(f.alloc (.cells #[vI x.x.zm] 3)).drew:=⟨_,rfl⟩;have t:Bw f s:=by rw[Q];exact cl
  have Y:zg s f.heap.size 3 #[vI x.x.zm]:=by rw[Q];exact zg.new f 3 _
  have cA:=(g2.below t g2.lt).cell;obtain⟨Na,j,I,g,cap,rfl,D⟩:=Wv un29 inf3 o_ s v pre.length (WE pre) (s8 (T:=fun _=>False) g1 (zd.new t) (fun _ _ e=>e)) f.heap.size 1 1 o_ [vI x.x.zm] rfl Y (fun u ha=>by simp at ha;subst ha;rfl) (by unfold maxLen;omega) o_;have b1:zz j w.heap.size 25 v:=(g2.below t g2.lt).zf D.zf (fun e=>by have:=g3 _ e;omega);have Ma:=b1.cell;have Ia:=b1.frozen;have n1:j.cell? (vA x.ze 0)=some (vI x.x.zm):=by
   have ka:x.ze<s.heap.size:=VE _ _ (z s t)
   refine(D.zf.cell (p:=vA x.ze 0) ka (fun e=>?_)).trans (z s t)
   have ma:x.ze<w.heap.size:=(h.bk.zu x (UM _ G)).lt
   have:=g3 x.ze e
   omega
  have V:zd (fun b=>b=w.heap.size\/W.heap.size+2+0<=b) f (j.setCell (vA w.heap.size 0) (vS g (pre.length+1) cap))/\((∃d,(j.setCell (vA w.heap.size 0) (vS g (pre.length+1) cap)).ownsRow 0 3 1 d (pre++[x]).length (WE (pre++[x]))/\zz (j.setCell (vA w.heap.size 0) (vS g (pre.length+1) cap)) w.heap.size 25 d/\(∀b,d.ownBlock=some b->W.heap.size+2+0<=b))/\Bw w (j.setCell (vA w.heap.size 0) (vS g (pre.length+1) cap))):=by
   have La:=t.size;have Ea:W.heap.size+2+0<=g:=by
    rcases D.new with e|e
    ·exact g3 _ e
    ·omega
   have a:zd (fun b=>b=w.heap.size\/W.heap.size+2+0<=b) f j:=(zd.new t).Vf D.zf (fun b hb e=>.inr (g3 b e));have ba:=a.setCell (p:=vA w.heap.size 0) (.inl rfl) (vS g (pre.length+1) cap)
   refine⟨ba,⟨vS g (pre.length+1) cap,?_,b1.set _,fun b hb=>?_⟩,g4.trans (ba.ya g4.size (fun b hb e=>by omega))⟩
   ·have e:WE (pre++[x])=WE pre++[vI x.x.zm]:=by simp[WE]
    rw[e,show(pre++[x]).length=pre.length+1 by simp]
    exact UQ D.own (by simp[Value.ownBlock];omega) _
   ·simp[Value.ownBlock]at hb;omega
  have O:(j.setCell (vA w.heap.size 0) (vS g (pre.length+1) cap)).cell? (vA x.ze 0)=some (vI x.x.zm):=by
   have ma:x.ze<w.heap.size:=(h.bk.zu x (UM _ G)).lt
   exact(World.cell?_setCell_other _ _ _ _ (by intro e;injection e with Ha;omega)).trans n1
  rw[Q]at I cA;have L:Hid (zd (fun b=>b=w.heap.size\/W.heap.size+2+0<=b) f (j.setCell (vA w.heap.size 0) (vS g (pre.length+1) cap))/\((∃d,(j.setCell (vA w.heap.size 0) (vS g (pre.length+1) cap)).ownsRow 0 3 1 d (pre++[x]).length (WE (pre++[x]))/\zz (j.setCell (vA w.heap.size 0) (vS g (pre.length+1) cap)) w.heap.size 25 d/\(∀b,d.ownBlock=some b->W.heap.size+2+0<=b))/\Bw w (j.setCell (vA w.heap.size 0) (vS g (pre.length+1) cap)))):=V;obtain⟨a0,Z,ia,_,_⟩:=Wr g1;generalize H:pre.length=n at I ia O L;clear H V D Y t hq g1 g3 b1;subst ia
  gi_upto_region 4 with fail
  refine cN ?_
  refine YA (fun W'=>W'.cell? (vA x.ze 0)=some (vI x.x.zm)) k_ k_ (z f.drew (Below.refl _ _).drew) (fun o=>?_)
  refine wpAnyH_take (i:=1) (v:=vP x.ze) rfl k_ k_ k_ (fun _ _ _ h=>absurd h.1 e_) (Or.inl ⟨r_,?_⟩) o ?_
  ·intro w' N
   go_simp
  try simp only[Ux,Uv,Uw,Act.put,UF,UE,UD]
  refine wpAnyH_take (i:=2) (v:=vP x.ze) rfl k_ k_ k_ (fun _ _ _ h=>absurd h.1 e_) (Or.inl ⟨r_,?_⟩) o ?_
  ·intro w' N
   go_simp
  try simp only[Ux,Uv,Uw,Act.put,UF,UE,UD]
  refine wpAnyH_take (i:=3) (v:=vP x.ze) rfl k_ k_ k_ (fun _ _ _ h=>absurd h.1 e_) (Or.inl ⟨r_,?_⟩) o ?_
  ·intro w' N
   go_simp
  try simp only[Ux,Uv,Uw,Act.put,UF,UE,UD]
  refine wpAnyH_take (i:=4) (v:=vI x.x.zm) rfl k_ k_ k_ (fun _ _ _ h=>absurd h.1 e_) (Or.inl ⟨r_,?_⟩) o ?_
  ·intro w' N
   go_simp
  try simp only[Ux,Uv,Uw,Act.put,UF,UE,UD]
  refine wpAnyH_ready (rs:=[0,5]) k_ s_ ?_
  refine AllReadyH.cons rfl (fun y a=>?_) (AllReadyH.cons rfl (fun y a=>?_) AllReadyH.nil)
  ·rw[if_pos r_]
   try simp only[Ux,Uv,Uw]
   go_simp
   refine a.out _ _ (z f.drew (Below.refl _ _).drew) (fun o=>?_)
   clear a
   try simp only[Ux,Uv,Uw,Act.put,UF,UE,UD]
   refine wpAnyH_ready (rs:=[5]) k_ s_ ?_
   refine AllReadyH.cons rfl (fun y a=>?_) AllReadyH.nil
   rw[if_pos r_]
   try simp only[Ux,Uv,Uw]
   go_simp
   refine a.out _ _ (z _ cl) (fun o=>?_)
   clear a
   try simp only[Ux,Uv,Uw,Act.put,UF,UE,UD]
   refine wpAnyH_ready (rs:=[6]) k_ s_ ?_
   refine AllReadyH.cons rfl (fun y a=>?_) AllReadyH.nil
   refine WL (R:=fun d w'=>d=vS g (n+1) cap/\w'=j) rfl (.tmp 13) (.tmp 18) 25 25 rfl (.slice a0 n Z) (vS f.heap.size 1 1) rfl rfl ⟨_,_,I,rfl,rfl⟩ ?_
   rintro d w' ⟨rfl,rfl⟩
   refine a.out _ _ n1 (fun o=>?_)
   clear a
   try simp only[Ux,Uv,Uw,Act.put,UF,UE,UD]
   refine wpAnyH_ready (rs:=[7]) k_ s_ ?_
   refine AllReadyH.cons rfl (fun y a=>?_) AllReadyH.nil
   rw[if_pos r_]
   try simp only[Ux,Uv,Uw]
   go_simp
   refine a.out _ _ O (fun o=>?_)
   clear a
   refine wpAnyH_done k_ ⟨rfl,?_⟩ _
   exact L.out
  ·rw[if_pos r_]
   try simp only[Ux,Uv,Uw]
   go_simp
   refine a.out _ _ (z _ cl) (fun o=>?_)
   clear a
   try simp only[Ux,Uv,Uw,Act.put,UF,UE,UD]
   refine wpAnyH_ready (rs:=[0]) k_ s_ ?_
   refine AllReadyH.cons rfl (fun y a=>?_) AllReadyH.nil
   rw[if_pos r_]
   try simp only[Ux,Uv,Uw]
   go_simp
   refine a.out _ _ (z _ cl) (fun o=>?_)
   clear a
   try simp only[Ux,Uv,Uw,Act.put,UF,UE,UD]
   refine wpAnyH_ready (rs:=[6]) k_ s_ ?_
   refine AllReadyH.cons rfl (fun y a=>?_) AllReadyH.nil
   refine WL (R:=fun d w'=>d=vS g (n+1) cap/\w'=j) rfl (.tmp 13) (.tmp 18) 25 25 rfl (.slice a0 n Z) (vS f.heap.size 1 1) rfl rfl ⟨_,_,I,rfl,rfl⟩ ?_
   rintro d w' ⟨rfl,rfl⟩
   refine a.out _ _ n1 (fun o=>?_)
   clear a
   try simp only[Ux,Uv,Uw,Act.put,UF,UE,UD]
   refine wpAnyH_ready (rs:=[7]) k_ s_ ?_
   refine AllReadyH.cons rfl (fun y a=>?_) AllReadyH.nil
   rw[if_pos r_]
   try simp only[Ux,Uv,Uw]
   go_simp
   refine a.out _ _ O (fun o=>?_)
   clear a
   refine wpAnyH_done k_ ⟨rfl,?_⟩ _
   exact L.out
 case done =>
  rintro A ⟨⟨v,g1,g2,g3⟩,g4⟩ ga
  have c0:=g2.cell
  gi_wp2_with fail
  refine⟨s_,.inl ⟨_,_,rfl,run_takeDeferred ga,?_⟩⟩
  have C:zd (fun b=>b=W.heap.size) A (A.putObj W.heap.size (.deferred none)):=(zd.refl (fun b=>b=W.heap.size) _).putObj rfl _
  exact⟨v,by simp[results,results107,go_sem],v,rfl,s8 g1 C (fun b hb e=>by have:=g3 b hb;omega),g4.trans (C.ya g4.size (fun b hb e=>by omega)),fun b hb=>by have:=g3 b hb;omega⟩
end
section
open Go.RowKit
variable {W w:World}{bt:Nat}{va vw:Value}{ws zh:List Pw}{p:Pw}
def WU (p:Bs)(zj:Bool)(a b c d e f:Int)(v:Value):Array Value:=#[vG (sb p),.bool zj,vI a,vI b,vI c,vI d,vI e,vI f,v]
theorem yt.pws{za:List zc}{r:zc}{zw:Value}(h:yt W za bt r zw vw va ws zh):XF W za va zh :=
 ⟨h.bk.yr,fun p hp=>h.bk.zu p (U8 _ hp),fun p hp=>h.lf p (U8 _ hp),fun p hp=>h.nm p (U8 _ hp),by have:=h.bk.len;omega⟩
theorem hK{za:List zc}(j:zr za)(U:U_ za){r:zc}{zw:Value}(h:yt w za bt r zw vw va ws zh){n:zc}(d:n∈za):
  Calls prog 64 #[vP bt,zi n.ze] w fun e w'=>∃x,e=vR (.agg (WU (kN n.zb) n.zj (xt za n.zb) (xr za n.zb) n.b0 n.b1 (yf (pun zh n.zb)) (yg (pun zh n.zb)) x))/\w'.ownsRow 0 3 1 x (U6 ws n.ze).length (WE (U6 ws n.ze))/\Bw w w'/\(∀b,x.ownBlock=some b->w.heap.size<b):=by
 have ca:=h.bk.zl.lt;have N:=fun W (a:Bw w W)=>Z7 j n.zb.length n d rfl W (h.below a).yj
 have A:=fun W (a:Bw w W)=>Z3 n.ze n.zj W (((h.below a).yj n d).cell rfl)
 have D:=fun W (a:Bw w W)=>Zo j d W (h.below a).yj
 have E:=fun W (a:Bw w W)=>tn n.ze n.b0 n.b1 W (((h.below a).yj n d).cell rfl) (((h.below a).yj n d).cell rfl)
 have B:=fun W (a:Bw w W)=>c_ j U W (h.below a).yj bt ((h.below a).bk.zl.cell 3) (h.below a).pws d
 have C:=fun W (a:Bw w W)=>ny (h.below a) d
 unfold WU;generalize xt za n.zb=s0 at *;generalize xr za n.zb=s at *;generalize yf (pun zh n.zb)=t at *;generalize yg (pun zh n.zb)=u at *;generalize sb (kN n.zb)=o at *;generalize (U6 ws n.ze).length=z at *;generalize WE (U6 ws n.ze)=ga at *;unfold zi at *
 go_enter func64,ntmps64
 have P:zg (w.alloc (.cells #[vG ⟨#[]⟩,.bool false,vI 0,vI 0,vI 0,vI 0,vI 0,vI 0,v0_] 37)).drew w.heap.size 37 #[vG ⟨#[]⟩,.bool false,vI 0,vI 0,vI 0,vI 0,vI 0,vI 0,v0_]:=zg.new w 37 _
 go_upto_region 1 with fail
 go_region_held3 (fun _=>True) (exact trivial)
  (first
   |(go_at_call 47;refine(N _ ?_).mono ?_;(focus exact cl);rintro e Y ⟨rfl,c⟩;have l:Bw w Y:=s5 cl c)
   |(go_at_call 105;refine(A _ l).mono ?_;rintro e ea ⟨rfl,T⟩;subst T)
   |(go_at_call 85;refine(D _ l).mono ?_;rintro e Z ⟨rfl,f⟩;have H:Bw w Z:=s5 l f)
   |(go_at_call 86;refine(E _ H).mono ?_;rintro e aa ⟨rfl,g⟩;have I:Bw w aa:=s5 H g)
   |(go_at_call 106;refine(B _ I).mono ?_;rintro e O ⟨rfl,i⟩;have J:Bw w O:=s5 I i)
   |(go_at_call 107;refine(C _ J).mono ?_;rintro e y ⟨da,rfl,F,L,G⟩;have M:Bw w y:=s5 J L;obtain⟨k,m,X,_,_⟩:=Wr F;subst X;have q:zg y w.heap.size 37 #[vG ⟨#[]⟩,.bool false,vI 0,vI 0,vI 0,vI 0,vI 0,vI 0,v0_]:=((((P.below c s_).below f (i_ c.size)).below g (by have:=c.size;have:=f.size;simp at *;omega)).below i (by have:=c.size;have:=f.size;have:=g.size;simp at *;omega)).below L (by have:=c.size;have:=f.size;have:=g.size;have:=i.size;simp at *;omega);have R:=q.cell;have S:=q.frozen;clear N A D E B C))
 go_wp2_with fail
 have Q:=(((((((((q.set 0 (vG o)).set 1 (.bool n.zj)).set 2 (vI s0)).set 3 (vI s)).set 4 (vI n.b0)).set 5 (vI n.b1)).set 6 (vI t)).set 7 (vI u)).set 8 (.slice k z m));have V:=Q.cell;have K:=(((((((((zd.refl (fun b=>b=w.heap.size) y).setCell (p:=vA w.heap.size 0) rfl (vG o)).setCell (p:=vA w.heap.size 1) rfl (.bool n.zj)).setCell (p:=vA w.heap.size 2) rfl (vI s0)).setCell (p:=vA w.heap.size 3) rfl (vI s)).setCell (p:=vA w.heap.size 4) rfl (vI n.b0)).setCell (p:=vA w.heap.size 5) rfl (vI n.b1)).setCell (p:=vA w.heap.size 6) rfl (vI t)).setCell (p:=vA w.heap.size 7) rfl (vI u)).setCell (p:=vA w.heap.size 8) rfl (.slice k z m);have ba:w.heap.size<O.heap.size:=by have:=c.size;have:=f.size;have:=g.size;have:=i.size;simp at *;omega
 clear R S
 exact Us (v:=.agg #[vG o,.bool n.zj,vI s0,vI s,vI n.b0,vI n.b1,vI t,vI u,.slice k z m]) (by simp[results,results64,go_sem,V]) rfl ⟨_,rfl,s8 F K (fun b hb e=>by have:=G b hb;omega),M.trans (K.ya M.size (fun b hb e=>by omega)),fun b hb=>by have:=G b hb;omega⟩
def Y9:Array Value:=#[vG ⟨#[]⟩,.bool false,vI 0,vI 0,vI 0,vI 0,vI 0,vI 0,v0_]
def QueR (za:List zc)(ws zh:List Pw)(s:Bs)(w:World)(e:Ending)(w':World):Prop :=
 if UB s=false then e=vT #[.agg Y9,vI 1]/\Bw w w' else match zp za (s4 s) with
  |none=>e=vT #[.agg Y9,vI 3]/\Bw w w'
  |some n=>∃a,e=vR (.tuple #[.agg (WU (kN n.zb) n.zj (xt za n.zb) (xr za n.zb) n.b0 n.b1 (yf (pun zh n.zb)) (yg (pun zh n.zb)) a),vI 0])/\w'.ownsRow 0 3 1 a (U6 ws n.ze).length (WE (U6 ws n.ze))/\Bw w w'/\(∀b,a.ownBlock=some b->w.heap.size<=b)
theorem oz{za:List zc}(H:zr za)(Q:U_ za){r:zc}{zw:Value}(h:yt w za bt r zw vw va ws zh)(S:r∈za)(P:r.zb=[])(s:ByteArray)(M:s.size<=2000000):
  Calls prog 34 #[vP bt,vG s] w (QueR za ws zh (bl s) w):=by
 have k:=fun W=>bH s M W
 have X:=h.bk.zl.lt;have g:∀W,Bw w W->W.cell? (vA bt 0)=some (zi r.ze):=fun W (o:Bw w W)=>(h.below o).bk.zl.cell 0
 have c:=fun W (o:Bw w W) v x=>XA H S P s M W (h.below o).yj v x
 have hq:Calls prog 34 #[vP bt,vG s] w (fun e w'=>QueR za ws zh (bl s) w e w')=Calls prog 34 #[vP bt,vG s] w (QueR za ws zh (bl s) w):=rfl;rw[<-hq];clear hq;unfold QueR;have b0:zg (w.alloc (.cells Y9 37)) w.heap.size 37 Y9:=zg.new w 37 _;unfold Y9 at b0
 cases x:UB (bl s)
 ·rw[x]at k;simp only[if_true];clear c g;unfold Y9
  go_enter func34,ntmps34
  go_wp2_with (go_at_call 62;refine(k _).mono ?_;rintro e i ⟨rfl,a⟩;have b1:=b0.below a s_;have l:=b1.cell;have m:=b1.frozen)
  have j:=(((((((((b1.set 0 (vG ⟨#[]⟩)).set 1 (.bool false)).set 2 (vI 0)).set 3 (vI 0)).set 4 (vI 0)).set 5 (vI 0)).set 6 (vI 0)).set 7 (vI 0)).set 8 v0_);have q:=j.cell;clear l m;have d:Bw w i:=s5 cl a
  exact Us (v:=.tuple #[.agg #[vG ⟨#[]⟩,.bool false,vI 0,vI 0,vI 0,vI 0,vI 0,vI 0,v0_],vI 1]) (by simp[results,results34,go_sem,q]) rfl ⟨rfl,cl⟩
 ·rw[x]at k;simp only[Bool.true_eq_false,if_false]
  cases t:zp za (s4 (bl s)) with
  |none =>
   rw[t]at c;clear t;unfold zi at c g;unfold Y9
   go_enter func34,ntmps34
   go_wp2_with (first
    |(go_at_call 62;refine(k _).mono ?_;rintro e i ⟨rfl,a⟩;have d:Bw w i:=s5 cl a;have b1:=b0.below a s_;have T:=g i d)
    |(go_at_call 63;refine(c _ d (.pointer none) rfl).mono ?_;rintro e y ⟨rfl,f⟩;have A:Bw w y:=s5 d f;have b2:=b1.below f (i_ a.size);have l:=b2.cell;have m:=b2.frozen;clear c g))
   have j:=(((((((((b2.set 0 (vG ⟨#[]⟩)).set 1 (.bool false)).set 2 (vI 0)).set 3 (vI 0)).set 4 (vI 0)).set 5 (vI 0)).set 6 (vI 0)).set 7 (vI 0)).set 8 v0_);have q:=j.cell;clear l m
   exact Us (v:=.tuple #[.agg #[vG ⟨#[]⟩,.bool false,vI 0,vI 0,vI 0,vI 0,vI 0,vI 0,v0_],vI 3]) (by simp[results,results34,go_sem,q]) rfl ⟨rfl,cl⟩
  |some n =>
   obtain⟨R,Y⟩:=VZ t;rw[t]at c;clear t;have u:=fun W (o:Bw w W)=>hK H Q (h.below o) R
   simp only[zi]at c;unfold zi at g u
   dsimp only
   unfold WU at u ⊢;generalize xt za n.zb=s0 at *;generalize xr za n.zb=D at *;generalize yf (pun zh n.zb)=E at *;generalize yg (pun zh n.zb)=F at *;generalize sb (kN n.zb)=C at *;generalize (U6 ws n.ze).length=G at *;generalize WE (U6 ws n.ze)=Z at *
   go_enter func34,ntmps34
   go_wp2_with (first
    |(go_at_call 62;refine(k _).mono ?_;rintro e i ⟨rfl,a⟩;have d:Bw w i:=s5 cl a;have b1:=b0.below a s_;have T:=g i d)
    |(go_at_call 63;refine(c _ d (vP n.ze) rfl).mono ?_;rintro e y ⟨rfl,f⟩;have A:Bw w y:=s5 d f;have b2:=b1.below f (i_ a.size))
    |(go_at_call 64;refine(u _ A).mono ?_;rintro e O ⟨v3,rfl,K,J,N⟩;have I:Bw w O:=s5 A J;obtain⟨z,B,U,_,_⟩:=Wr K;subst U;have b3:=b2.below J (by have:=a.size;have:=f.size;simp at *;omega);have l:=b3.cell;have m:=b3.frozen;clear c g u))
   have j:=(((((((((b3.set 0 (vG C)).set 1 (.bool n.zj)).set 2 (vI s0)).set 3 (vI D)).set 4 (vI n.b0)).set 5 (vI n.b1)).set 6 (vI E)).set 7 (vI F)).set 8 (.slice z G B));have q:=j.cell;have L:=(((((((((zd.refl (fun b=>b=w.heap.size) O).setCell (p:=vA w.heap.size 0) rfl (vG C)).setCell (p:=vA w.heap.size 1) rfl (.bool n.zj)).setCell (p:=vA w.heap.size 2) rfl (vI s0)).setCell (p:=vA w.heap.size 3) rfl (vI D)).setCell (p:=vA w.heap.size 4) rfl (vI n.b0)).setCell (p:=vA w.heap.size 5) rfl (vI n.b1)).setCell (p:=vA w.heap.size 6) rfl (vI E)).setCell (p:=vA w.heap.size 7) rfl (vI F)).setCell (p:=vA w.heap.size 8) rfl (.slice z G B);have V:w.heap.size<y.heap.size:=by have:=a.size;have:=f.size;simp at *;omega
   clear l m
   exact Us (v:=.tuple #[.agg #[vG C,.bool n.zj,vI s0,vI D,vI n.b0,vI n.b1,vI E,vI F,.slice z G B],vI 0]) (by simp[results,results34,go_sem,q]) rfl ⟨_,rfl,s8 K L (fun b hb e=>by have:=N b hb;omega),I.trans (L.ya I.size (fun b hb e=>by omega)),fun b hb=>by have:=N b hb;omega⟩
def YO:Array Value:=#[vG ⟨#[]⟩,vI 0,vI 0,.bool false]
def WrkR (ws zh:List Pw)(zm:Int)(w:World)(e:Ending)(w':World):Prop :=
 match V1 zh zm with
 |some p=>e=vR (.tuple #[.agg #[vG (sb (kN p.x.zb)),vI p.x.d0,vI p.x.d1,.bool true],vI 0])/\Bw w w'
 |none=>match V1 ws zm with
  |some p=>e=vR (.tuple #[.agg #[vG (sb (kN p.x.zb)),vI p.x.d0,vI p.x.d1,.bool false],vI 0])/\Bw w w'
  |none=>e=vT #[.agg YO,vI 12]/\Bw w w'
theorem hN{za:List zc}(s:zr za){r:zc}{zw:Value}(h:yt w za bt r zw vw va ws zh)(zm:Int)(hp:p∈ws++zh){b:Bool}(hb:tp ws zh zm=(zi p.ze,b)):
  Calls prog 22 #[vP bt,vI zm] w fun e w'=>e=vR (.tuple #[.agg #[vG (sb (kN p.x.zb)),vI p.x.d0,vI p.x.d1,.bool b],vI 0])/\Bw w w':=by
 have f:=fun W (c:Bw w W)=>bm (h.below c).bk zm
 obtain⟨n,E,F,C⟩:=h.lf p hp;have j:=fun W (c:Bw w W)=>Z7 s n.zb.length n E rfl W (h.below c).yj
 have a:∀W,Bw w W->zg W p.ze 105 p.cells:=fun W c=>(h.below c).bk.zu p hp
 rw[hb]at f;rw[C,F]at j;unfold zi at f j;have b0:zg (w.alloc (.cells YO 52)) w.heap.size 52 YO:=zg.new w 52 _;unfold YO at b0;have G:=h.bk.zl.lt;generalize sb (kN p.x.zb)=m at *;unfold Pw.cells zi at a;have H:=(h.bk.zu p hp).lt;have o:zg (w.alloc (.cells #[vG ⟨#[]⟩,vI 0,vI 0,.bool false] 52)).drew w.heap.size 52 #[vG ⟨#[]⟩,vI 0,vI 0,.bool false]:=zg.new w 52 _;have c1:=(a w (Below.refl _ _)).cell 1;have c2:=(a w (Below.refl _ _)).cell 2;have l:=(a w (Below.refl _ _)).cell 3;simp only[s7]at c1 c2 l;have n1:=World.new_ne w _ c1;have n2:=World.new_ne w _ c2;have I:=World.new_ne w _ l
 go_enter func22,ntmps22
 go_upto_region 4 with (first
  |(go_at_call 46;refine(f _ ?_).mono ?_;(focus exact cl);rintro e J ⟨rfl,y⟩;subst y))
 go_region_held3 (fun w'=>w'.cell? (vA p.ze 1)=some (vP p.q)/\w'.cell? (vA p.ze 2)=some (vI p.x.d0)/\w'.cell? (vA p.ze 3)=some (vI p.x.d1)) (go_keep)
  (first
   |(go_at_call 47;refine(j _ ?_).mono ?_;(focus exact cl);rintro e d ⟨rfl,k⟩;have g:Bw w d:=s5 cl k;have i:=o.below k s_;have u:=i.cell;have z:=i.frozen;have d1:=(a d g).cell 1;have A:=(a d g).cell 2;have B:=(a d g).cell 3;simp only[s7]at d1 A B))
 go_wp2_with fail
 have t:=(((i.set 0 (vG m)).set 1 (vI p.x.d0)).set 2 (vI p.x.d1)).set 3 (.bool b);have D:=t.cell;clear u z
 exact Us (v:=.tuple #[.agg #[vG m,vI p.x.d0,vI p.x.d1,.bool b],vI 0]) (by simp[results,results22,go_sem,D]) rfl ⟨rfl,cl⟩
theorem qs{za:List zc}{r:zc}{zw:Value}(h:yt w za bt r zw vw va ws zh)(zm:Int)(hb:tp ws zh zm=(.pointer none,false)):
  Calls prog 22 #[vP bt,vI zm] w fun e w'=>e=vT #[.agg YO,vI 12]/\Bw w w':=by
 have a:=fun W (g:Bw w W)=>bm (h.below g).bk zm
 rw[hb]at a;have b0:zg (w.alloc (.cells YO 52)) w.heap.size 52 YO:=zg.new w 52 _;unfold YO at b0 ⊢;have j:=h.bk.zl.lt;have c:=b0.cell;have f:=b0.frozen
 go_enter func22,ntmps22
 go_wp2_with (first
  |(go_at_call 46;refine(a _ ?_).mono ?_;(focus exact cl);rintro e k ⟨rfl,d⟩;subst d))
 have b:=(((b0.set 0 (vG ⟨#[]⟩)).set 1 (vI 0)).set 2 (vI 0)).set 3 (.bool false);have i:=b.cell;clear c f
 exact Us (v:=.tuple #[.agg #[vG ⟨#[]⟩,vI 0,vI 0,.bool false],vI 12]) (by simp[results,results22,go_sem,i]) rfl ⟨rfl,cl⟩
theorem qt{za:List zc}(f:zr za){r:zc}{zw:Value}(h:yt w za bt r zw vw va ws zh)(zm:Int):
  Calls prog 22 #[vP bt,vI zm] w (WrkR ws zh zm w):=by
 cases a:V1 zh zm with
 |some p =>
  refine(hN f h zm (p:=p) (U8 _ (List.mem_of_find?_eq_some a)) (b:=true) (by simp[tp,a])).mono ?_
  intro e w' c;simp only[WrkR,a]
  exact c
 |none =>
  cases d:V1 ws zm with
  |some p =>
   refine(hN f h zm (p:=p) (UM _ (List.mem_of_find?_eq_some d)) (b:=false) (by simp[tp,a,d,xd])).mono ?_
   intro e w' c;simp only[WrkR,a,d]
   exact c
  |none =>
   refine(qs h zm (by simp[tp,a,d,xd])).mono ?_
   intro e w' c;simp only[WrkR,a,d]
   exact c
def zS (za:List zc)(zo:Nat)(s:Bs)(ok:Bool):Int :=
 if UB s=false then 1 else match zp za (s4 s) with
 |none=>3
 |some n=>if n.zj=false then 5 else if ok=false then 6 else if 24<=zo then 7 else 0
theorem fx{za:List zc}(J:zr za){r:zc}{zw:Value}(h:yt w za bt r zw vw va ws zh)(N:r∈za)(M:r.zb=[])(s:ByteArray)(H:s.size<=2000000)(a b:Int):
  Calls prog 99 #[vP bt,vG s,.agg #[vI a,vI b]] w fun e w'=>e=vR (vI (zS za (ws.length+zh.length) (bl s) (Uu a b)))/\Bw w w':=by
 have l:=fun W=>bH s H W
 have P:=h.bk.zl.lt;have L:=h.bk.len;have t:∀W,Bw w W->W.cell? (vA bt 0)=some (zi r.ze):=fun W (o:Bw w W)=>(h.below o).bk.zl.cell 0
 have j:=fun W (o:Bw w W) v A=>XA J N M s H W (h.below o).yj v A
 have p:=fun W=>gq a b W
 have u:=fun W (o:Bw w W)=>ph (h.below o).bk
 have k:=fun n (C:n∈za) W (o:Bw w W)=>Z3 n.ze n.zj W (((h.below o).yj n C).cell rfl)
 have b0:zg (w.alloc (.cells #[vI a,vI b] 35)) w.heap.size 35 #[vI a,vI b]:=zg.new w 35 _;generalize ws.length+zh.length=zo at u L ⊢;unfold zS;unfold zi at t
 cases A:UB (bl s)
 ·rw[A]at l;simp only[if_true];clear j t u p k
  go_enter func99,ntmps99
  go_wp2_with (go_at_call 62;refine(l _).mono ?_;rintro e f ⟨rfl,d⟩)
  refine Us (v:=vI 1) (by simp[results,results99,go_sem]) rfl ⟨rfl,?_⟩
  exact s5 cl d
 ·rw[A]at l;simp only[Bool.true_eq_false,if_false]
  cases y:zp za (s4 (bl s)) with
  |none =>
   rw[y]at j;clear y u p k;unfold zi at j
   go_enter func99,ntmps99
   go_wp2_with (first
    |(go_at_call 62;refine(l _).mono ?_;rintro e f ⟨rfl,d⟩;have c:Bw w f:=s5 cl d;have D:=t f c)
    |(go_at_call 63;refine(j _ c (.pointer none) rfl).mono ?_;rintro e q ⟨rfl,i⟩;have g:Bw w q:=s5 c i))
   refine Us (v:=vI 3) (by simp[results,results99,go_sem]) rfl ⟨rfl,?_⟩
   exact g
  |some n =>
   obtain⟨C,Q⟩:=VZ y;rw[y]at j
   replace k:=k n C
   clear y;simp only[zi]at j
   dsimp only
   cases G:n.zj
   ·rw[G]at k;simp only[if_true];clear u p
    go_enter func99,ntmps99
    go_wp2_with (first
     |(go_at_call 62;refine(l _).mono ?_;rintro e f ⟨rfl,d⟩;have c:Bw w f:=s5 cl d;have D:=t f c)
     |(go_at_call 63;refine(j _ c (vP n.ze) rfl).mono ?_;rintro e q ⟨rfl,i⟩;have g:Bw w q:=s5 c i)
     |(go_at_call 105;refine(k _ g).mono ?_;rintro e I ⟨rfl,z⟩;subst z))
    refine Us (v:=vI 5) (by simp[results,results99,go_sem]) rfl ⟨rfl,?_⟩
    exact g
   ·rw[G]at k;simp only[Bool.true_eq_false,if_false]
    cases F:Uu a b
    ·rw[F]at p;simp only[if_true];clear u
     go_enter func99,ntmps99
     go_wp2_with (first
      |(go_at_call 62;refine(l _).mono ?_;rintro e f ⟨rfl,d⟩;have c:Bw w f:=s5 cl d;have D:=t f c;have b1:=b0.below d s_)
      |(go_at_call 63;refine(j _ c (vP n.ze) rfl).mono ?_;rintro e q ⟨rfl,i⟩;have g:Bw w q:=s5 c i;have b2:=b1.below i (i_ d.size);have K:=b2.cell)
      |(go_at_call 105;refine(k _ g).mono ?_;rintro e I ⟨rfl,z⟩;subst z)
      |(go_at_call 147;refine(p _).mono ?_;rintro e E ⟨rfl,B⟩;have x:Bw w E:=s5 g B))
     refine Us (v:=vI 6) (by simp[results,results99,go_sem]) rfl ⟨rfl,?_⟩
     exact x
    ·rw[F]at p;simp only[Bool.true_eq_false,if_false];have R:(decide ((24:Int)<=(zo:Int)))=decide (24<=zo):=by simp only[decide_eq_decide];omega
     go_enter func99,ntmps99
     go_wp2_with (first
      |(go_at_call 62;refine(l _).mono ?_;rintro e f ⟨rfl,d⟩;have c:Bw w f:=s5 cl d;have D:=t f c;have b1:=b0.below d s_)
      |(go_at_call 63;refine(j _ c (vP n.ze) rfl).mono ?_;rintro e q ⟨rfl,i⟩;have g:Bw w q:=s5 c i;have b2:=b1.below i (i_ d.size);have K:=b2.cell)
      |(go_at_call 105;refine(k _ g).mono ?_;rintro e I ⟨rfl,z⟩;subst z)
      |(go_at_call 147;refine(p _).mono ?_;rintro e E ⟨rfl,B⟩;have x:Bw w E:=s5 g B)
      |(go_at_call 148;refine(u _ x).mono ?_;rintro e S ⟨rfl,m,O⟩;subst O))
     ·exact Us (v:=vI 7) (by simp[results,results99,go_sem]) rfl ⟨rfl,UT x _⟩
     ·exact Us (v:=vI 0) (by simp[results,results99,go_sem]) rfl ⟨rfl,UT x _⟩
end
end Go.Proofs.YtphclnolomgjoaaGreatDoor
