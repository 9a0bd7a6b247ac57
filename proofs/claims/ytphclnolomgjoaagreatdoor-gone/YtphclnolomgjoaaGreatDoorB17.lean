import Derived.Test.YtphclnolomgjoaaGreatDoorB16
set_option linter.unusedVariables false
set_option linter.unusedSimpArgs false
set_option maxRecDepth 100000
set_option maxHeartbeats 4000000
namespace Go.Proofs.YtphclnolomgjoaaGreatDoor
open Tryz
open Go.RowKit Go.Shelf
variable {W W':World}{F b hb:Nat}{aI aO bC f v':Value}{T:Nat->Prop}{t:TypeId}{vs vs':Array Value}{s' s0:SS}{aL an:List Pw}{L:List Ent}{hp:Option Addr}{hi st:Int}{y:Wk}{p:Pw}{n:Node}
theorem HqAt.keep{v:Value}{ys:List Ak}(h:HqAt W hb f v ys)(hk:Keep T W W')(h1:¬T hb)(h2:∀b,v.ownBlock=some b->¬T b):HqAt W' hb f v ys:=⟨h.at_.keep hk h1,qaf h.row hk h2,h.ne⟩
theorem HqAt.isC{v:Value}{ys:List Ak}(h:HqAt W hb f v ys):∀b,(b=hb\/v.ownBlock=some b)->isCells W b:=fun b e=>by
 rcases e with rfl|e
 ·exact⟨_,_,_,h.at_⟩
 ·exact qc4 h.row e
theorem HqAt.qed{v:Value}{ys:List Ak}(h:HqAt W hb f v ys)(hx:Blk W b t vs)(h1:t≠254)(h2:t≠226):¬(b=hb\/v.ownBlock=some b):=by
 rintro(e|e)
 ·exact qaw hx h.at_ h1 e
 ·exact qah h.row hx (fun e=>h2 e.symm) e
structure GD (nodes:List Node) (rr bt:Nat) (r:Node) (ai:Value) (w:World) (D:Nat) (FS:List (Nat×Array Value)) (cL cK cH:Value) (ws0 cG:List Pw) (aT:SS) (k:Nat) (A:World) (v:Value) (ys:List Ak) (vw va ev:Value) (ws as_:List Pw) (s:SS):Prop where
 hp:HqAt A (w.heap.size+1) (.func (.func 176) #[] #[]) v ys
 heap:qb2 ltA ys
 mem:∀p∈ys,p.p∈ws++as_
 ld:LdAt A nodes rr bt r ai vw va ev ws as_ s.evs
 rel:Rel nodes s.Ws ws as_
 inv:SInv s
 it:aT=qbf (qat (nodes.map Node.ent)) k s
 ms:qi4 s.Ws<=k
 bd:s.evs.length+k<=2000
 st:qcb rr bt w A cL cK cH vw va ev
 out:qds nodes rr bt vw va ev ws as_ (fun y=>y=w.heap.size+1\/v.ownBlock=some y)
 low:∀b,v.ownBlock=some b->w.heap.size<=b
 sub:∀p∈ws++as_,p∈ws0++cG
 b1:Box A w.heap.size 186 (.pointer (some ⟨rr,0,none⟩))
 b3:Box A (w.heap.size+1+1) 223 (.pointer (some ⟨w.heap.size+1,0,none⟩))
 d:A.heap[D]?=some (.deferred (some []))
 fs:∀x∈FS,Blk A x.1 226 x.2/\v.ownBlock≠some x.1/\x.1≠w.heap.size+1
section
variable {nodes:List Node}{rr bt:Nat}{r:Node}{ai:Value}{w:World}{D:Nat}{FS:List (Nat×Array Value)}{cL cK cH:Value}{ws0 cG:List Pw}{aT:SS}{k:Nat}{A A':World}{v:Value}{ys:List Ak}{vw va ev:Value}{ws as_:List Pw}{s:SS}
theorem GD.below(h:GD nodes rr bt r ai w D FS cL cK cH ws0 cG aT k A v ys vw va ev ws as_ s)(hb:Below A.heap.size A A'):GD nodes rr bt r ai w D FS cL cK cH ws0 cG aT k A' v ys vw va ev ws as_ s :=
 ⟨h.hp.below hb,h.heap,h.mem,h.ld.below hb,h.rel,h.inv,h.it,h.ms,h.bd,h.st.below hb,h.out,h.low,h.sub,h.b1.below hb h.b1.lt,h.b3.below hb h.b3.lt,(hb.block D (xrc.1 h.d).1).trans h.d,fun x hx=>⟨(h.fs x hx).1.below hb (h.fs x hx).1.lt,(h.fs x hx).2⟩⟩
theorem GD.qml(h:GD nodes rr bt r ai w D FS cL cK cH ws0 cG aT k A v ys vw va ev ws as_ s){zs:List Ak}(hp:HqAt A' (w.heap.size+1) (.func (.func 176) #[] #[]) v' zs)(hh:qb2 ltA zs)(hm:∀p∈zs,p.p∈ws++as_)(hk:Keep (fun y=>y=w.heap.size+1\/v.ownBlock=some y) A A')(hn:v'.ownBlock=v.ownBlock\/∃g,v'.ownBlock=some g/\A.heap.size<=g):GD nodes rr bt r ai w D FS cL cK cH ws0 cG aT k A' v' zs vw va ev ws as_ s:=by
 have oS:∀b,(b=w.heap.size+1\/v.ownBlock=some b)->w.heap.size<=b:=fun b e=>e.elim (fun e=>by omega) (h.low b)
 have uf:=h.st.keep.size
 refine⟨hp,hh,hm,h.ld.keep hk h.out,h.rel,h.inv,h.it,h.ms,h.bd,⟨h.st.keep.qbm hk (fun b hb e=>by have:=oS b e;omega),h.st.new⟩,?_,?_,h.sub,h.b1.keep hk (h.hp.qed h.b1 (by decide) (by decide)),h.b3.keep hk (h.hp.qed h.b3 (by decide) (by decide)),qgw hk h.d h.hp.isC,fun x hx=>?_⟩
 ·rcases hn with e|⟨g,e,hg⟩
  ·rw[e];exact h.out
  ·have h1:=h.out.mono (T':=fun y=>y=w.heap.size+1) (fun b e=>.inl e);have h2:=h.ld.lt (T:=fun y=>v'.ownBlock=some y) (fun b e'=>by rw[e]at e';cases e';exact hg)
   exact h1.or h2
 ·intro b hb
  rcases hn with e|⟨g,e,hg⟩
  ·rw[e]at hb;exact h.low b hb
  ·rw[e]at hb;cases hb;omega
 ·obtain⟨f1,f2,f3⟩:=h.fs x hx
  refine⟨f1.keep hk (fun e=>e.elim f3 f2),?_,f3⟩
  rcases hn with e|⟨g,e,hg⟩
  ·rw[e];exact f2
  ·rw[e];intro e';cases e';have:=f1.lt;omega
theorem GD.qoo(h:GD nodes rr bt r ai w D FS cL cK cH ws0 cG aT k A v ys vw va ev ws as_ s){k':Nat}(hl:LdAt A' nodes rr bt r ai aI aO bC an aL s'.evs)(cJ:qcb rr bt A A' vw va ev aI aO bC)(eE:∀p∈an++aL,p∈ws++as_)(jb:∀p∈ws++as_,p∈an++aL)(hr:Rel nodes s'.Ws an aL)(hi:SInv s')(wB:aT=qbf (qat (nodes.map Node.ent)) k' s')(pS:qi4 s'.Ws<=k')(kO:s'.evs.length+k'<=2000):GD nodes rr bt r ai w D FS cL cK cH ws0 cG aT k' A' v ys aI aO bC an aL s':=by
 have hk:=cJ.keep;have oT:∀b,(b=w.heap.size+1\/v.ownBlock=some b)->b<A.heap.size:=fun b e=>e.elim (fun e=>by have:=h.hp.at_.lt;omega) (fun e=>qap h.hp.row e)
 refine⟨h.hp.keep hk (h.out.ldt (.inl rfl)) (fun b hb=>h.out.ldt (.inr hb)),h.heap,fun p hp=>jb p.p (h.mem p hp),hl,hr,hi,wB,pS,kO,h.st.trans cJ,h.out.step cJ oT eE,h.low,fun p hp=>h.sub p (eE p hp),h.b1.keep hk (h.ld.qed h.b1 (by decide) (by decide) (by decide) (by decide)),h.b3.keep hk (h.ld.qed h.b3 (by decide) (by decide) (by decide) (by decide)),qgw hk h.d h.ld.isC,fun x hx=>⟨(h.fs x hx).1.keep hk (h.ld.qed (h.fs x hx).1 (by decide) (by decide) (by decide) (by decide)),(h.fs x hx).2⟩⟩
def akx (a:Ak):Wk×Int:=(a.p.x,a.s)
theorem LdAt.befq{w:World}{nodes:List Node}{rr bt:Nat}{r:Node}{ai vw va ev:Value}{ws as_:List Pw}{evs:List (Int×Int)}(h:LdAt w nodes rr bt r ai vw va ev ws as_ evs)(ho:qds nodes rr bt vw va ev ws as_ T){ys:List Ak}(gz:∀p∈ys,p.p∈ws++as_):Befq w T ys ltA:=fun W hk a ha b hb=>by
 have hW:=h.keep hk ho
 exact qp8 (hW.pin (gz a ha)).at_ (hW.pin (gz b hb)).at_
def H1 (nodes:List Node)(rr bt:Nat)(r:Node)(ai:Value)(w:World)(D:Nat)(FS:List (Nat×Array Value))(cL cK cH:Value)(ws0 cG:List Pw)(aT:SS)(q:Nat)(hp:Option Addr)(hi:Int)(sb:Bool)(A:World):Prop :=
 ∃k v ys vw va ev ws as_ s,GD nodes rr bt r ai w D FS cL cK cH ws0 cG aT k A v ys vw va ev ws as_ s /\
  ((sb=false/\aT=s)\/(sb=true/\2*k+ys.length+1<=q/\∃a:Ak,hp=some ⟨a.p.blk,0,none⟩/\hi=a.s/\a.p∈ws++as_/\qca (nodes.map Node.ent) s.Ws (akx a::ys.map akx)/\∀b∈ys,ltA b a=false))
theorem qkg{s:SS}(I:SInv s){hs:List (Wk×Int)}(hO:qca L s.Ws hs):hs.length<=24:=by
 have aD:∀p∈hs,p.1∈s.Ws:=fun p hp=>(qaj (hO.hd p hp).1).1
 have eZ:(hs.map fun p=>p.1.num).Nodup:=by
  have bT:=hO.nd;rw[List.nodup_iff_pairwise_ne,List.pairwise_map]at bT ⊢
  exact bT.imp_of_mem (fun {a b} ha hb aW e=>aW (by rw[qlo I.wks.nums (aD _ ha) (aD _ hb) e]))
 have:=qdf eZ (l':=s.Ws.map (·.num)) (fun x hx=>by
  obtain⟨y,hy,rfl⟩:=xrq.1 hx
  exact xrq.2 ⟨y.1,aD y hy,rfl⟩)
 have h2:=I.wks.wks.len
 simp at this
 omega
theorem GD.pop(h:GD nodes rr bt r ai w D FS cL cK cH ws0 cG aT k A v ys vw va ev ws as_ s)(hO:qca (nodes.map Node.ent) s.Ws (ys.map akx)):
  Calls prog 179 #[.pointer (some ⟨w.heap.size+1,0,none⟩)] A fun e A'=>∃hp hi sb,e=.returned (.tuple #[.agg #[.pointer hp,.int .i64 hi],.bool sb])/\H1 nodes rr bt r ai w D FS cL cK cH ws0 cG aT (2*k+ys.length) hp hi sb A':=by
 have hl:=qkg h.inv hO
 simp at hl
 refine(qzn qi3 h.hp (by omega) h.heap (h.ld.befq h.out h.mem)).mono ?_
 rintro e A' (⟨h0,rfl,hb⟩|⟨a,v',zs,h1,rfl,h2,h3,h4,h5,h6⟩)
 ·subst h0
  refine⟨_,_,_,rfl,k,v,[],vw,va,ev,ws,as_,s,h.below hb,.inl ⟨rfl,?_⟩⟩
  rw[h.it]
  exact qkj (hO.ends h.inv) k
 ·have cP:=h.heap.min qi3 h1 (by cases hx:ltA a a with|false=>rfl|true=>have:=qi3.asymm _ _ hx;rw[hx]at this;exact this);have a9:=h2.length_eq
  simp at a9
  refine⟨_,_,_,rfl,k,v',zs,vw,va,ev,ws,as_,s,h.qml h4 h3 (fun p hp=>h.mem p (h2.mem_iff.1 (xru _ hp))) h5 (.inl h6),.inr ⟨rfl,by omega,a,rfl,rfl,h.mem a (h2.mem_iff.1 (List.mem_cons_self ..)),?_,fun b hb=>?_⟩⟩
  ·exact hO.perm (h2.symm.map akx)
  ·obtain⟨j,hj⟩:=xre (h2.mem_iff.1 (xru a hb))
   exact cP j b hj
theorem GD.mark(h:GD nodes rr bt r ai w D FS cL cK cH ws0 cG aT k A v ys vw va ev ws as_ s)(hb:Below A.heap.size A A')(hf:Blk A' A.heap.size 226 vs):GD nodes rr bt r ai w D [(A.heap.size,vs)] cL cK cH ws0 cG aT k A' v ys vw va ev ws as_ s:=by
 have h2:=h.below hb
 refine⟨h2.hp,h2.heap,h2.mem,h2.ld,h2.rel,h2.inv,h2.it,h2.ms,h2.bd,h2.st,h2.out,h2.low,h2.sub,h2.b1,h2.b3,h2.d,fun x hx=>?_⟩
 simp at hx
 subst hx
 exact⟨hf,fun e=>by have:=qap h.hp.row e;simp at this,by have:=h.hp.at_.lt;simp;omega⟩
theorem GD.fblk(h:GD nodes rr bt r ai w D [(F,vs)] cL cK cH ws0 cG aT k A v ys vw va ev ws as_ s):Blk A F 226 vs:=(h.fs (F,vs) (by simp)).1
theorem GD.setF(h:GD nodes rr bt r ai w D [(F,vs)] cL cK cH ws0 cG aT k A v ys vw va ev ws as_ s)(hk:Keep (fun b=>b=F) A A')(hf:Blk A' F 226 vs')(p9:w.heap.size<=F):GD nodes rr bt r ai w D [(F,vs')] cL cK cH ws0 cG aT k A' v ys vw va ev ws as_ s:=by
 obtain⟨f1,f2,f3⟩:=h.fs (F,vs) (by simp)
 simp only at f1 f2 f3
 have jO:qds nodes rr bt vw va ev ws as_ (fun b=>b=F):=by
  refine⟨fun n hn=>⟨?_,?_⟩,?_,?_,?_,?_,?_,?_⟩
  ·exact qaw (show Blk A n.blk 136 n.cells from(h.ld.ins n hn).at_) f1 (by decide)
  ·rintro g hg rfl;exact qah (h.ld.ins n hn).row f1 (by decide) hg
  ·exact qaw h.ld.ld.rnd.at_ f1 (by decide)
  ·exact qaw h.ld.ld.bk.at_ f1 (by decide)
  ·rintro b hb rfl;exact qah h.ld.ld.bk.wrow f1 (by decide) hb
  ·rintro b hb rfl;exact qah h.ld.ld.bk.arow f1 (by decide) hb
  ·rintro b hb rfl;exact qah h.ld.ld.rnd.row f1 (by decide) hb
  ·intro p hp;exact qaw (h.ld.ld.bk.works p hp) f1 (by decide)
 refine⟨h.hp.keep hk (fun e=>f3 e.symm) (fun b hb e=>f2 (by rw[<-e];exact hb)),h.heap,h.mem,h.ld.keep hk jO,h.rel,h.inv,h.it,h.ms,h.bd,⟨h.st.keep.qbm hk (fun b hb e=>by omega),h.st.new⟩,h.out,h.low,h.sub,h.b1.keep hk (qaw h.b1 f1 (by decide)),h.b3.keep hk (qaw h.b3 f1 (by decide)),qgw hk h.d (fun b e=>⟨vs,226,(0,0),by subst e;exact f1⟩),fun x hx=>?_⟩
 simp at hx
 subst hx
 exact⟨hf,f2,f3⟩
theorem H1.setF{q:Nat}{sb:Bool}(h:H1 nodes rr bt r ai w D [(F,vs)] cL cK cH ws0 cG aT q hp hi sb A)(hk:Keep (fun b=>b=F) A A')(hf:Blk A' F 226 vs')(p9:w.heap.size<=F):H1 nodes rr bt r ai w D [(F,vs')] cL cK cH ws0 cG aT q hp hi sb A':=by
 obtain⟨k,v1,ke,eU,fc,gC,ws1,fh,s1,hC,bR⟩:=h
 exact⟨k,v1,ke,eU,fc,gC,ws1,fh,s1,hC.setF hk hf p9,bR⟩
theorem H1.blk{q:Nat}{sb:Bool}(h:H1 nodes rr bt r ai w D [(F,vs)] cL cK cH ws0 cG aT q hp hi sb A):Blk A F 226 vs:=by
 obtain⟨k,v1,ke,eU,fc,gC,ws1,fh,s1,hC,bR⟩:=h
 exact(hC.fs (F,vs) (by simp)).1
theorem GD.popN(h:GD nodes rr bt r ai w D FS cL cK cH ws0 cG aT k A v ys vw va ev ws as_ s)(hO:qca (nodes.map Node.ent) s.Ws (ys.map akx))(vs:Array Value):
  Calls prog 179 #[.pointer (some ⟨w.heap.size+1,0,none⟩)] (A.alloc (.cells vs 226)) fun e A'=>∃hp hi sb,e=.returned (.tuple #[.agg #[.pointer hp,.int .i64 hi],.bool sb])/\H1 nodes rr bt r ai w D [(A.heap.size,vs)] cL cK cH ws0 cG aT (2*k+ys.length) hp hi sb A' :=
 (h.mark ((Below.refl _ _).alloc (Nat.le_refl _) _) (Blk.new A 226 vs)).pop hO
end
theorem Tree.qzq{nodes:List Node}(T:Tree nodes):qrw (nodes.map Node.ent):=by
 obtain⟨r,h0,h1,h2,h3,h4⟩:=T.root
 exact⟨r.ent,xrq.2 ⟨r,xr2 h0,rfl⟩,h1,h3,h4⟩
section
variable {nodes:List Node}{Ws:List Wk}{ws as_:List Pw}
theorem Rel.qvf(R:Rel nodes Ws ws as_)(T:Tree nodes)(hB:qa1 nodes){l:List Node}(hl:l.Perm nodes):((qas ws l).map (·.x.key)).Nodup:=by
 have hk:(l.map (·.key)).Nodup:=(hl.map _).nodup_iff.2 T.nodup;have aD:((qas ws l).map (·.x.key)).Sublist (l.map (·.key)):=by
  have jK:∀n∈l,n∈nodes:=fun n h=>hl.mem_iff.1 h
  clear hk hl
  induction l with
  |nil=>exact List.Sublist.slnil
  |cons n l ih =>
   have sO:=ih (fun m hm=>jK m (xru _ hm));have e:qas ws (n::l)=(qbw ws n.blk).toList++qas ws l:=by
    unfold qas
    cases h:qbw ws n.blk<;>simp[List.filterMap_cons,h]
   rw[e]
   cases h:qbw ws n.blk with
   |none=>simpa using sO.cons n.key
   |some p =>
    have:=(R.qc7 T hB (jK n (List.mem_cons_self ..)) h).2
    simp only[Option.toList_some,List.singleton_append,List.map_cons];rw[this]
    exact sO.cons_cons _
 exact aD.nodup hk
theorem Rel.qsx(R:Rel nodes Ws ws as_)(T:Tree nodes)(hB:qa1 nodes){l:List Node}(hl:l.Perm nodes)(h1:qaz Ws y.key=some y):∃p∈qas ws l,p.x=y:=by
 obtain⟨g1,g2,_⟩:=qaj h1;have hm:y∈ws.map (·.x):=by rw[R.w];exact xrr.2 ⟨g1,by simp[g2]⟩
 obtain⟨p0,gd,oD⟩:=xrq.1 hm;obtain⟨n,hn,_,bX⟩:=R.leaf p0 (xr9 _ gd);rw[oD]at bX;have hh:=R.head T hB hn;rw[bX,h1]at hh
 cases hq:qbw ws n.blk with
 |none=>unfold qbw at hq;rw[hq]at hh;cases hh
 |some p =>
  have jT:=hq;unfold qbw at hq;rw[hq]at hh
  refine⟨p,?_,by simpa using hh⟩
  unfold qas
  exact List.mem_filterMap.2 ⟨n,hl.mem_iff.2 hn,jT⟩
theorem Rel.qyv(R:Rel nodes Ws ws as_)(T:Tree nodes)(hB:qa1 nodes)(hS:WkS Ws st){l:List Node}(hl:l.Perm nodes){ys:List Ak}(gz:ys.Perm ((qas ws l).map fun p=>⟨p,qdg nodes as_ p.x⟩)):qca (nodes.map Node.ent) Ws (ys.map akx):=by
 have fp:∀x∈Ws,qdg nodes as_ x=shp (nodes.map Node.ent) Ws x:=fun x hx=>R.share T hS.wks (hS.wks.ok x hx).1
 have mf:∀p∈qas ws l,qaz Ws p.x.key=some p.x:=fun p hp=>by
  unfold qas at hp;obtain⟨n,hn,h3⟩:=List.mem_filterMap.1 hp;obtain⟨g1,g2⟩:=R.qc7 T hB (hl.mem_iff.1 hn) h3;rw[g2];exact g1
 refine⟨?_,fun q hq=>?_,fun y h1 h2=>?_⟩
 ·have h1:=R.qvf T hB hl;have h2:((ys.map akx).map fun p=>p.1.key).Perm ((qas ws l).map (·.x.key)):=by
   rw[List.map_map]
   have:=gz.map (fun a:Ak=>a.p.x.key)
   rw[List.map_map]at this
   exact this
  exact h2.nodup_iff.2 h1
 ·obtain⟨a,ha,rfl⟩:=xrq.1 hq;obtain⟨p,hp,rfl⟩:=xrq.1 (gz.mem_iff.1 ha);have h3:=mf p hp
  exact⟨h3,fp p.x (qaj h3).1⟩
 ·obtain⟨p,hp,rfl⟩:=R.qsx T hB hl h1
  refine xrq.2 ⟨⟨p,qdg nodes as_ p.x⟩,gz.mem_iff.2 (xrq.2 ⟨p,hp,rfl⟩),?_⟩
  show(p.x,qdg nodes as_ p.x)=_
  rw[fp p.x (qaj h1).1]
end
section
variable {nodes:List Node}{rr bt:Nat}{r:Node}{ai:Value}{w:World}{D:Nat}{FS:List (Nat×Array Value)}{cL cK cH:Value}{ws0 cG:List Pw}{aT:SS}{k:Nat}{A A':World}{v:Value}{ys:List Ak}{vw va ev:Value}{ws as_:List Pw}{s:SS}
theorem GD.fits(T0:Tree nodes)(hB:qa1 nodes)(h:GD nodes rr bt r ai w D FS cL cK cH ws0 cG aT k A v ys vw va ev ws as_ s)(hp:p∈ws++as_):
  Calls prog 180 #[.pointer (some ⟨rr,0,none⟩),.pointer (some ⟨p.blk,0,none⟩)] A fun e A'=>e=.returned (.bool (qbv (nodes.map Node.ent) s.Ws p.x))/\Below A.heap.size A A':=by
 obtain⟨n,hn,gv,bX⟩:=h.ld.lf p hp
 have:=qsp T0 hB h.ld.rd (h.ld.pin hp) hn gv
 rw[h.rel.fits T0 h.inv.wks.wks hn bX]at this
 exact this
theorem GD.q0d(T0:Tree nodes)(h:GD nodes rr bt r ai w D FS cL cK cH ws0 cG aT k A v ys vw va ev ws as_ s){a:Ak}(ha:a.p∈ws++as_)(hO:qca (nodes.map Node.ent) s.Ws (akx a::ys.map akx))(hf:qbv (nodes.map Node.ent) s.Ws a.p.x=true)(cP:∀b∈ys,ltA b a=false):
  ∃(s':SS) (i:Nat),ws[i]?=some a.p/\s'.evs=s.evs++[(1,a.p.x.num)]/\Rel nodes s'.Ws (ws.take i++ws.drop (i+1)) (as_++[a.p])/\SInv s'/\qca (nodes.map Node.ent) s'.Ws (qcs (nodes.map Node.ent) s'.Ws a.p.x.key++ys.map akx) /\
  ∃k',k=k'+1/\aT=qbf (qat (nodes.map Node.ent)) k' s'/\qi4 s'.Ws<=k'/\s'.evs.length+k'<=2000:=by
 obtain⟨b,d1,d2,d3,d4⟩:=qca.does (x:=a.p.x) (sx:=a.s) T0.ents T0.qzq hO h.inv hf (fun q hq=>by
  obtain⟨c,hc,rfl⟩:=xrq.1 hq
  exact cP c hc)
 obtain⟨i1,i2,i3,i4,i5⟩:=h.inv.idle d3;have mf:=(hO.hd _ (List.mem_cons_self ..)).1;obtain⟨i,hi⟩:=h.rel.idx h.inv.wks ha mf;have pS:=h.ms;have kO:=h.bd;obtain⟨k',rfl⟩:∃k',k=k'+1:=⟨k-1,by omega⟩
 exact⟨qf5 b a.p.x s,i,hi,rfl,h.rel.admit h.inv.wks h.inv.st0 hi d1 d2 rfl,i1,d4,k',rfl,by rw[h.it];exact qki d3 k',by omega,by omega⟩
theorem GD.qtr(T0:Tree nodes)(hB:qa1 nodes)(h:GD nodes rr bt r ai w D FS cL cK cH ws0 cG aT k A v ys vw va ev ws as_ s)(hn:n∈nodes)(hp:qbw ws n.blk=some p)(hO:qca (nodes.map Node.ent) s.Ws (qcs (nodes.map Node.ent) s.Ws n.key++ys.map akx)):
  Calls prog 177 #[.pointer (some ⟨w.heap.size+1,0,none⟩),akv ⟨p,qdg nodes as_ p.x⟩] A fun e A'=>e=.returned (.tuple #[])/\∃v' zs,zs.length=ys.length+1/\GD nodes rr bt r ai w D FS cL cK cH ws0 cG aT k A' v' zs vw va ev ws as_ s/\qca (nodes.map Node.ent) s.Ws (zs.map akx):=by
 have hl:=qkg h.inv hO
 simp at hl
 obtain⟨h1,h2⟩:=h.rel.qc7 T0 hB hn hp;have cI:p∈ws++as_:=xr9 _ (qff hp)
 refine(qtq qi3 h.hp (by omega) h.heap ⟨p,qdg nodes as_ p.x⟩ (h.ld.befq h.out (fun q hq=>by
  rcases xri.1 hq with e|e
  ·exact h.mem q e
  ·simp at e;subst e;exact cI))).mono ?_
 rintro e A' ⟨he,v',zs,y1,y2,y3,y4,y5⟩
 refine⟨he,v',zs,by have:=y1.length_eq;simpa using this,h.qml y3 y2 (fun q hq=>?_) y4 y5,?_⟩
 ·rcases xri.1 (y1.mem_iff.1 hq) with e|e
  ·exact h.mem q e
  ·simp at e;subst e;exact cI
 ·refine hO.perm ?_
  have hm:qcs (nodes.map Node.ent) s.Ws n.key=[akx ⟨p,qdg nodes as_ p.x⟩]:=by
   unfold qcs;rw[h1]
   simp only
   rw[<-h.rel.share T0 h.inv.wks.wks (h.inv.wks.wks.ok p.x (qaj h1).1).1]
   rfl
  rw[hm]
  have:=y1.map akx
  rw[List.map_append]at this
  exact List.perm_append_comm.trans this.symm
theorem GD.qzk(T0:Tree nodes)(hB:qa1 nodes)(h:GD nodes rr bt r ai w D FS cL cK cH ws0 cG aT k A v ys vw va ev ws as_ s)(hn:n∈nodes)(hp:qbw ws n.blk=none)(hO:qca (nodes.map Node.ent) s.Ws (qcs (nodes.map Node.ent) s.Ws n.key++ys.map akx)):qca (nodes.map Node.ent) s.Ws (ys.map akx):=by
 have hh:=h.rel.head T0 hB hn;unfold qbw at hp;rw[hp]at hh;have hm:qcs (nodes.map Node.ent) s.Ws n.key=[]:=by
  unfold qcs;rw[<-hh];rfl
 rw[hm]at hO
 exact hO
end
attribute [local go_sem] Oper.semAt_some
section
variable {w:World}{nodes:List Node}{rr bt:Nat}{r:Node}{ai vw va ev:Value}{ws as_:List Pw}{evs:List (Int×Int)}
theorem qvu(f:Value)(hf:∃a b c,f=.func a b c)(w:World):Calls prog 167 #[f] w fun e w'=>e=.returned (.pointer (some ⟨w.heap.size,0,none⟩))/\w'=w.alloc (.cells #[f,.slice none 0 0] 247):=by
 obtain⟨a,b,c,rfl⟩:=hf
 go_enter func167,ntmps167
 go_wp2_with fail
 go_ret
 exact⟨rfl,rfl⟩
theorem LdAt.outD(h:LdAt w nodes rr bt r ai vw va ev ws as_ evs){D:Nat}{x:Option (List Deferred)}(hD:w.heap[D]?=some (.deferred x)):qds nodes rr bt vw va ev ws as_ (fun b=>b=D):=by
 have key:∀b,isCells w b->b≠D:=fun b ⟨vs,t,f,hb⟩ e=>by subst e;rw[hD]at hb;cases hb
 exact⟨fun n hn=>⟨key _ ⟨_,_,_,(h.ins n hn).at_⟩,fun g hg=>key _ (qc4 (h.ins n hn).row hg)⟩,key _ ⟨_,_,_,h.ld.rnd.at_⟩,key _ ⟨_,_,_,h.ld.bk.at_⟩,fun b hb=>key _ (qc4 h.ld.bk.wrow hb),fun b hb=>key _ (qc4 h.ld.bk.arow hb),fun b hb=>key _ (qc4 h.ld.rnd.row hb),fun p hp=>key _ ⟨_,_,_,h.ld.bk.works p hp⟩⟩
theorem qkb(ws:List Pw)(l:List Node):(qas ws l).length<=l.length:=by
 unfold qas;exact List.length_filterMap_le ..
theorem qgq(T0:Tree nodes){ch:Node->List Node}(K0:Kids nodes ch)(hr:r∈nodes)(a_:r.key=[]):(dfs ch 4 r).Perm nodes:=by
 have:=qe0 T0 K0 T0.nd hr
 rw[a_]at this
 refine this.trans (List.Perm.of_eq ?_)
 rw[List.filter_eq_self];intro m _
 rfl
theorem qmi(T0:Tree nodes)(hB:qa1 nodes){ch:Node->List Node}(K0:Kids nodes ch)(h:LdAt w nodes rr bt r ai vw va ev ws as_ evs)(hr:r∈nodes)(a_:r.key=[])(R:Rel nodes s0.Ws ws as_)(I:SInv s0)(ej:s0.evs=evs)(a9:evs.length<=100):
  Calls prog 130 #[.pointer (some ⟨rr,0,none⟩)] w fun e w'=>e=.returned (.tuple #[])/\∃aI aO bC an aL,LdAt w' nodes rr bt r ai aI aO bC an aL (qcn (nodes.map Node.ent) s0).evs/\Rel nodes (qcn (nodes.map Node.ent) s0).Ws an aL/\qcb rr bt w w' vw va ev aI aO bC/\(∀p∈an++aL,p∈ws++as_):=by
 generalize aF:qcn (nodes.map Node.ent) s0=aT;have dY:Hid (qcn (nodes.map Node.ent) s0=aT):=aF;clear aF;have bz:∀k:Nat,Fence.wide.depth.isSome=true->1<=k:=fun k h=>by simp[Fence.wide]at h
 have rN:=qvu (.func (.func 168) #[] #[]) ⟨_,_,_,rfl⟩
 refine(xrv (n:=3)).1 ?_
 refine callsIn_of_wp_marks func130 rfl trivial ?_ rfl
 simp only[ntmps130,List.size_toArray,List.length_cons,List.length_nil,Nat.reduceAdd,Nat.reduceSub,Array.replicate_succ,Array.replicate_zero,List.push_toArray,List.append_toArray,List.nil_append,List.cons_append];have iX:=fun W (hW:Below w.heap.size w W)=>qmk T0 K0 (h.below hW).rw_ hr
 unfold nptr at iX;obtain⟨W0,bg⟩:∃W0,W0=((w.alloc (.cells #[.pointer (some ⟨rr,0,none⟩)] 186)).alloc (.cells #[.func (.func 168) #[] #[],.slice none 0 0] 247)).alloc (.cells #[.pointer (some ⟨w.heap.size+1,0,none⟩)] 216):=⟨_,rfl⟩;have bj:Below w.heap.size w W0:=by rw[bg];exact bel2
 have dw:W0.heap.size=w.heap.size+3:=by rw[bg];simp
 have x1:Box W0 w.heap.size 186 (.pointer (some ⟨rr,0,none⟩)):=by rw[bg];exact((Box.new w 186 _).alloc _).alloc _
 have mG:HpAt W0 (w.heap.size+1) (.func (.func 168) #[] #[]) (.slice none 0 0) []:=by
  refine⟨?_,⟨rfl,.inl ⟨rfl,rfl⟩⟩,by simp[Value.ownBlock]⟩
  have:=(Blk.new (w.alloc (.cells #[.pointer (some ⟨rr,0,none⟩)] 186)) 247 #[.func (.func 168) #[] #[],.slice none 0 0]).alloc (.cells #[.pointer (some ⟨w.heap.size+1,0,none⟩)] 216)
  rw[xrt]at this;rw[bg];exact this
 have x3:Box W0 (w.heap.size+1+1) 216 (.pointer (some ⟨w.heap.size+1,0,none⟩)):=by
  have:=Box.new ((w.alloc (.cells #[.pointer (some ⟨rr,0,none⟩)] 186)).alloc (.cells #[.func (.func 168) #[] #[],.slice none 0 0] 247)) 216 (.pointer (some ⟨w.heap.size+1,0,none⟩))
  rw[xrt,xrt]at this;rw[bg];exact this
 have c1:=x1.cell;rw[bg]at c1
 gi_wp2_with (first
  |((first|refine⟨trivial,bz _,?_⟩|refine⟨trivial,?_⟩);gi_at_call 167;refine(xrv.2 (rN _)).mono ?_;rintro e W3 ⟨rfl,rfl⟩)
  |((first|refine⟨trivial,bz _,?_⟩|refine⟨trivial,?_⟩);gi_at_call 169;refine(xrv.2 (iX _ (by exact bel1))).mono ?_;rintro e W3 ⟨rfl,rfl,aB⟩))
 obtain⟨W,hW⟩:∃W,W=W0.alloc (.cells #[.pointer (some ⟨rr,0,none⟩)] 186):=⟨_,rfl⟩;have cY:W.heap.size=w.heap.size+4:=by rw[hW];simp[dw]
 have au:Below W0.heap.size W0 W:=by rw[hW];exact bel2
 have bZ:Below w.heap.size w W:=qab bj au;have z1:=x1.below au x1.lt;have z3:=x3.below au x3.lt;have mH:=mG.below au;simp only[xrt]at aB;simp only[<-bg,<- hW]at aB ⊢;have hq:=aB (fun b=>b=w.heap.size+1) (fun b e=>by omega) (h.lt (fun b e=>by omega)).rw_;have ie:(qas ws (dfs ch 4 r)).length<=20:=Nat.le_trans (qkb ws (dfs ch 4 r)) (qo5 T0 K0 hr);have cm:∀p∈qas ws (dfs ch 4 r),p∈ws++as_:=fun p hp=>xr9 _ (qkc hp)
 have lC:=qgq T0 K0 hr a_;generalize dfs ch 4 r=DX at hq ie cm lC;have aG:∀ys:List Pw,ys.Perm ((qas ws DX).filter fun p=>ownP nodes as_ p.x)->qcf (nodes.map Node.ent) s0.Ws (ys.map (·.x)):=fun ys gz=>R.q0t T0 hB I.wks lC gz
 generalize qas ws DX=X at hq ie cm aG;clear aB iX hW bg c1 x1 x3 mG rN;have ay:∀b,b<W.heap.size->¬(False\/(W.heap.size<=b/\b<W.heap.size+2+4)):=fun b hb e=>by rcases e with e|e;exact e;omega
 refine qhm (T:=fun b=>b=w.heap.size+1) (S:=fun _=>False) rfl (enters_of func206 (by kernel_rfl) rfl) hq (Below.refl _ _) (fun _=>rfl) (fun b e=>e.elim) (fun b e=>by omega)
  (fun (pre:List Pw) A=>(∃v ys,HpAt A (w.heap.size+1) (.func (.func 168) #[] #[]) v ys/\qb2 ltP ys/\ys.Perm (pre.filter fun p=>ownP nodes as_ p.x)/\(∀b,v.ownBlock=some b->W.heap.size+2+4<=b))/\Box A w.heap.size 186 (.pointer (some ⟨rr,0,none⟩))/\Box A (w.heap.size+1+1) 216 (.pointer (some ⟨w.heap.size+1,0,none⟩))/\Below w.heap.size w A)
  (fun c (pre:List Pw) A=>False)
  (fun pre A B hs hk=>by
   obtain⟨⟨v,ys,g1,g2,g3,g4⟩,g5,g6,g7⟩:=hs
   exact⟨⟨v,ys,g1.keep hk (ay _ (by omega)) (fun b hb e=>by have:=g4 b hb;rcases e with e|e;exact e;omega),g2,g3,g4⟩,g5.keep hk (ay _ (by omega)),g6.keep hk (ay _ (by omega)),g7.trans (hk.toBelow g7.size (fun b bh=>ay b (by omega)))⟩)
  (fun c pre A B hs hk=>hs)
  ⟨⟨_,[],mH,fun j a b hj ha=>by simp at ha,by simp,by simp[Value.ownBlock]⟩,z1,z3,bZ⟩
  (fun x=>{tmps:=#[.pointer (some ⟨rr,0,none⟩),.pointer (some ⟨w.heap.size,0,none⟩),.pointer (some ⟨w.heap.size+1+1,0,none⟩),.pointer (some ⟨x.blk,0,none⟩),undef,undef,.pointer (some ⟨w.heap.size+1,0,none⟩),.pointer (some ⟨rr,0,none⟩),.func (.func 206) #[] #[.pointer (some ⟨w.heap.size+1+1+1,0,none⟩)],.pointer (some ⟨x.blk,0,none⟩),undef,undef,undef,undef,undef,undef,undef,undef,undef,undef,undef,undef,undef,undef,undef,undef,undef,undef,undef,undef,undef,undef,undef,undef,undef,undef,undef,undef,undef,undef,undef,undef,undef],defers:=[]}) ?assign ?body ?done ?stop
 case assign =>
  intro l x W K hK
  gi_wp2
  exact hK
 case stop =>
  rintro c pre A ax hx hD
  exact hx.elim
 case body =>
  rintro l2 pre x W2 ⟨⟨v,ys,g1,g2,g3,g4⟩,g5,g6,g7⟩ eO ax
  have lY:=h.below g7;have oc:ys.length<=50:=by
   have:=g3.length_eq
   have h1:=xrh (fun p=>ownP nodes as_ p.x) pre;have h2:=ax.length_le
   simp at h2
   omega
  have jS:=qh4 T0 hB lY g1 g2 oc (fun p hp=>cm p (ax.subset (xr9 _ (xrr.1 (g3.mem_iff.1 hp)).1))) (h.lt (fun b e=>by
   rcases e with e|e
   ·omega
   ·have:=g4 b e;omega)) (some x) (fun p e=>by cases e;exact cm x (ax.subset (by simp)))
  have c1:=g5.cell;have c2:=g6.cell;have HY:Hid (ys.Perm (pre.filter fun p=>ownP nodes as_ p.x)):=g3;have HM:Hid (qel nodes as_ (some x)=[x].filter fun p=>ownP nodes as_ p.x):=by
   show qel nodes as_ (some x)=_
   unfold qel
   cases hx:ownP nodes as_ x.x<;>simp[hx]
  clear g3 hq aG;simp only[optP]at jS;unfold nptr at jS
  gi_wp2_with ((first|refine⟨trivial,bz _,?_⟩|refine⟨trivial,?_⟩);gi_at_call 170;refine(CallsIn.inRound l2 (xrv.2 jS)).mono ?_;rintro e W5 ⟨rfl,v',zs,y1,y2,y3,y4,y5⟩)
  refine⟨y4.mono (fun b e=>?_),⟨v',zs,y3,y2,?_,fun b hb=>?_⟩,g5.keep y4 (fun e=>?_),g6.keep y4 (fun e=>?_),g7.trans (y4.toBelow g7.size (fun b hb e=>?_))⟩
  ·rcases e with e|e
   ·exact .inl e
   ·exact .inr (g4 b e)
  ·rw[List.filter_append,<- HM.out]
   exact y1.trans (HY.out.append_right _)
  ·rcases y5 with e|⟨g,e1,e2⟩
   ·rw[e]at hb;exact g4 b hb
   ·rw[e1]at hb;cases hb;omega
  ·rcases e with e|e
   ·omega
   ·have:=g4 _ e;omega
  ·rcases e with e|e
   ·omega
   ·have:=g4 _ e;omega
  ·rcases e with e|e
   ·omega
   ·have:=g4 _ e;omega
 case done =>
  rintro A ⟨⟨v,ys,g1,g2,g3,g4⟩,g5,g6,g7⟩ hD
  have hO:=aG ys g3;have oc:ys.length<=20:=by
   have:=g3.length_eq
   have h1:=xrh (fun p=>ownP nodes as_ p.x) X
   omega
  have sI:∀p∈ys,p∈ws++as_:=fun p hp=>cm p (xrr.1 (g3.mem_iff.1 hp)).1
  have hA:=h.below g7;have ho:=h.lt (T:=fun y=>y=w.heap.size+1\/v.ownBlock=some y) (fun b e=>by
   rcases e with e|e
   ·omega
   ·have:=g4 b e;omega)
  have c1:=g5.cell;have c2:=g6.cell;have yF:GC nodes rr bt r ai w W.heap.size vw va ev ws as_ aT s0.Ws.length A v ys vw va ev ws as_ s0:=⟨g1,g2,sI,by rw[ej];exact hA,R,I,dY.out.symm,qtb _ _,by have:=I.wks.wks.len;rw[ej];omega,(qcb.refl _ _ _ _ _ _).below g7,ho,fun b hb=>by have:=g4 b hb;omega,fun _ e=>e,g5,g6,hD⟩;have jP:=yF.pop T0 hO;generalize fm:s0.Ws.length=k0 at jP;clear aG cm hq g3 dY fm yF hO g1 g2 g4 hA ho oc sI R I ej z1 z3 mH bZ hD
  gi_wp2_with ((first|refine⟨trivial,bz _,?_⟩|refine⟨trivial,?_⟩);gi_at_call 171;refine(xrv.2 jP).mono ?_;rintro e A1 ⟨hv,sv,rfl,hG⟩)
  gi_loopg [4,5] k0 (fun q hv sv wr=>∃k,k<=q/\G1 nodes rr bt r ai w W.heap.size vw va ev ws as_ aT k hv sv wr)
  case atStart=>exact⟨k0,Nat.le_refl _,hG⟩
  case round =>
   clear hG;obtain⟨k,oP,v1,ke,eU,fc,gC,ws1,fh,s1,hC,bR⟩:=hrel
   rcases bR with ⟨rfl,rfl,nM⟩|⟨rfl,a,rfl,ik,hO,cP⟩
   ·have qh:Hid (aT=s1):=nM;clear nM
    gi_wp2_with fail
    have hd:=hC.d;rw[cY]at hd
    refine⟨by simp,.inl ⟨_,_,rfl,run_takeDeferred hd,?_⟩⟩
    have rB:Keep (fun b=>b=w.heap.size+4) wr (wr.putObj (w.heap.size+4) (.deferred none)):=(Keep.refl (fun b=>b=w.heap.size+4) _).putObj rfl _
    refine⟨.tuple #[],by simp[results,results130,go_sem],rfl,eU,fc,gC,ws1,fh,?_,?_,⟨hC.st.keep.qbm rB (fun b hb e=>by omega),hC.st.new⟩,hC.sub⟩
    ·rw[qh.out];exact hC.ld.keep rB (hC.ld.outD hd)
    ·rw[qh.out];exact hC.rel
   ·obtain⟨r1,r2,r3,r4,r5,r6,k',rfl,r7,r8,r9⟩:=hC.owned ik hO cP;obtain⟨n,hn,gv,bX⟩:=hC.ld.lf a ik;have bo:=qtw T0 hB hC.ld ik hn gv bX hC.rel r1 r2;have c1:=hC.b1.cell;unfold nptr at bo;clear c2 cP hO
    gi_upto_region 10 with (first
     |((first|refine⟨trivial,bz _,?_⟩|refine⟨trivial,?_⟩);gi_at_call 172;refine(xrv.2 bo).mono ?_;rintro e w1 ⟨rfl,ff,fe,ei,eC,fR,m1,m2,m3,m4,m5⟩;clear bo;obtain⟨i,hi,cX⟩:=r4 _ _ m2 (m5 ik);have ec:=m1.admit r3 hi;have c3:=(hC.b1.keep m3.keep (hC.ld.qed hC.b1 (by decide) (by decide) (by decide) (by decide))).cell;unfold nptr at ec)
     |((first|refine⟨trivial,bz _,?_⟩|refine⟨trivial,?_⟩);gi_at_call 173;refine(xrv.2 ec).mono ?_;rintro e w2 ⟨rfl,kv,mw,tx,n1,n2⟩;clear ec))
    have eE:∀p∈(eC.take i++eC.drop (i+1))++(fR++[a]),p∈eC++fR:=fun p hp=>by
     rcases xri.1 hp with h1|h1
     ·exact xr9 _ (qbl h1)
     ·rcases xri.1 h1 with h1|h1
      ·exact xra _ h1
      ·simp at h1;subst h1;exact xr9 _ (xr2 hi)
    have jb:∀p∈eC++fR,p∈(eC.take i++eC.drop (i+1))++(fR++[a]):=fun p hp=>by
     rcases xri.1 hp with h1|h1
     ·rcases List.mem_cons.1 ((qce hi).mem_iff.1 h1) with rfl|h1
      ·simp
      ·exact xr9 _ h1
     ·exact xra _ (xr9 _ h1)
    have od:GC nodes rr bt r ai w W.heap.size vw va ev ws as_ aT k' w2 v1 ke kv mw tx (eC.take i++eC.drop (i+1)) (fR++[a]) (qdz (nodes.map Node.ent) a.x s1):=hC.qoo n1 (m3.trans n2) (fun p hp=>m4 (eE p hp)) (fun p hp=>jb p (m5 hp)) cX r5 r7 r8 r9;generalize eC.take i++eC.drop (i+1)=gB at od jb;generalize fR++[a]=jl at od jb;have fC:∀W',Below w2.heap.size w2 W'->Calls prog 174 #[.pointer (some ⟨bt,1,none⟩),.pointer (some ⟨a.q,0,none⟩)] W' fun e w'=>e=.returned (optP (qbw gB n.blk))/\Below W'.heap.size W' w':=fun W' aX=>by
     have:=(od.below aX).ld.rw_.head hn
     rw[show a.q=n.blk from gv.symm];exact this
    have zS:qcf (nodes.map Node.ent) (qdz (nodes.map Node.ent) a.x s1).Ws (qdx (nodes.map Node.ent) (qdz (nodes.map Node.ent) a.x s1).Ws n.key++ke.map (·.x)):=by rw[bX];exact r6
    have fH:∀W',Below w2.heap.size w2 W'->Calls prog 170 #[.pointer (some ⟨rr,0,none⟩),.pointer (some ⟨w.heap.size+1,0,none⟩),optP (qbw gB n.blk)] W' fun e A'=>e=.returned (.tuple #[])/\∃v' zs,GC nodes rr bt r ai w W.heap.size vw va ev ws as_ aT k' A' v' zs kv mw tx gB jl (qdz (nodes.map Node.ent) a.x s1)/\qcf (nodes.map Node.ent) (qdz (nodes.map Node.ent) a.x s1).Ws (zs.map (·.x)):=fun W' aX=>(od.below aX).qtr T0 hB hn zS
    have kL:a∈gB++jl:=jb a (m5 ik);have bm:∀(W':World) (v':Value) (zs:List Pw),GC nodes rr bt r ai w W.heap.size vw va ev ws as_ aT k' W' v' zs kv mw tx gB jl (qdz (nodes.map Node.ent) a.x s1)->W'.cell? ⟨w.heap.size,0,none⟩=some (.pointer (some ⟨rr,0,none⟩))/\W'.cell? ⟨w.heap.size+1+1,0,none⟩=some (.pointer (some ⟨w.heap.size+1,0,none⟩))/\W'.cell? ⟨rr,1,none⟩=some (.pointer (some ⟨bt,1,none⟩))/\W'.cell? ⟨a.blk,1,none⟩=some (.pointer (some ⟨a.q,0,none⟩)):=fun W' v' zs hg=>⟨hg.b1.cell,hg.b3.cell,hg.ld.cells.2.1,(hg.ld.pin kL).cells.2.1⟩
    obtain⟨e1,e2,e3,e4⟩:=bm _ _ _ od;have ag:∀W',Below w2.heap.size w2 W'->_:=fun W' aX=>bm _ _ _ (od.below aX)
    generalize optP (qbw gB n.blk)=ov at fC fH;have nW:=fun (W':World) (v':Value) (zs:List Pw) (hg:GC nodes rr bt r ai w W.heap.size vw va ev ws as_ aT k' W' v' zs kv mw tx gB jl (qdz (nodes.map Node.ent) a.x s1)) ho=>hg.pop T0 ho
    have HK:Hid (k'+1<=_):=oP;clear hC m1 m2 m3 m4 m5 n1 n2 cX r4 r5 r6 zS r7 r8 r9 hi jb oP c1 c3
    refine wpIn_wide.2 ?_
    go_region_held3 (fun w'=>w'.cell? ⟨w.heap.size,0,none⟩=some (.pointer (some ⟨rr,0,none⟩))/\w'.cell? ⟨w.heap.size+1+1,0,none⟩=some (.pointer (some ⟨w.heap.size+1,0,none⟩))/\w'.cell? ⟨rr,1,none⟩=some (.pointer (some ⟨bt,1,none⟩))/\w'.cell? ⟨a.blk,1,none⟩=some (.pointer (some ⟨a.q,0,none⟩))) (go_keep)
     (first
     |(go_at_call 174;refine(fC _ ?_).mono ?_;(focus exact bel2);rintro e w3 ⟨rfl,aM⟩;have bH:Below w2.heap.size w2 w3:=qab (by exact bel2) aM;obtain⟨f1,f2,f3,f4⟩:=ag _ bH)
     |(go_at_call 170;refine(fH _ ?_).mono ?_;(focus exact bel2);rintro e w4 ⟨rfl,v4,FC,mE,A_⟩;obtain⟨g1,g2,g3,g4⟩:=bm _ _ _ mE))
    have pT:=nW _ _ _ mE A_;clear fH fC nW ag bm od
    gi_wp2_with ((first|refine⟨trivial,bz _,?_⟩|refine⟨trivial,?_⟩);gi_at_call 171;refine(xrv.2 pT).mono ?_;rintro e A5 ⟨E5,Fx,rfl,tD⟩)
    gi_roundg k'
    case measure=>have:=HK.out;omega
    case rel=>exact⟨k',Nat.le_refl _,tD⟩
end
end Go.Proofs.YtphclnolomgjoaaGreatDoor
