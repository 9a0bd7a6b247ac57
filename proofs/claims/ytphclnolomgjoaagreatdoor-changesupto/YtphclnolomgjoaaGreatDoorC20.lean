import Derived.Test.YtphclnolomgjoaaGreatDoorC19
set_option linter.unusedVariables false
set_option linter.unusedSimpArgs false
set_option maxRecDepth 100000
set_option maxHeartbeats 4000000
namespace Go.Proofs.YtphclnolomgjoaaGreatDoor
open Tryz
open Go.RowKit Go.Shelf
variable {W W':World}{F b hb:Nat}{aQ aX ck f v':Value}{T:Nat->Prop}{vs vs':Array Value}{s' s0:SS}{aR bg:List Pw}{L:List Ent}{hp:Option Addr}{hi st:Int}{y:Wk}{p:Pw}{n:Node}
theorem HqAt.keep{v:Value}{ys:List Ak}(h:HqAt W hb f v ys)(hk:Keep T W W')(h1:¬T hb)(h2:∀b,v.ownBlock=some b->¬T b):HqAt W' hb f v ys:=⟨h.at_.keep hk h1,qab h.row hk h2,h.ne⟩
theorem HqAt.isC{v:Value}{ys:List Ak}(h:HqAt W hb f v ys):∀b,(b=hb\/v.ownBlock=some b)->isCells W b:=fun b e=>by
 rcases e with rfl|e
 ·exact⟨_,_,_,h.at_⟩
 ·exact qcl h.row e
theorem HqAt.qdy{v:Value}{ys:List Ak}(h:HqAt W hb f v ys){t:TypeId}(hx:Blk W b t vs)(h1:t≠254)(h2:t≠226):¬(b=hb\/v.ownBlock=some b):=by
 rintro(e|e)
 ·exact qax hx h.at_ h1 e
 ·exact qag h.row hx (fun e=>h2 e.symm) e
structure GD (nodes:List Node) (rr bt:Nat) (r:Node) (lst:Value) (w:World) (D:Nat) (FS:List (Nat×Array Value)) (dQ dP dK:Value) (ws0 dJ:List Pw) (fin:SS) (k:Nat) (A:World) (v:Value) (ys:List Ak) (vw va ev:Value) (ws as_:List Pw) (s:SS):Prop where
 hp:HqAt A (w.heap.size+1) (.func (.func 176) #[] #[]) v ys
 heap:qbp ltA ys
 mem:∀p∈ys,p.p∈ws++as_
 ld:LdAt A nodes rr bt r lst vw va ev ws as_ s.evs
 rel:Rel nodes s.Ws ws as_
 inv:SInv s
 it:fin=iterS (qas (nodes.map Node.ent)) k s
 ms:qcm s.Ws<=k
 bd:s.evs.length+k<=2000
 st:qbu rr bt w A dQ dP dK vw va ev
 out:qdh nodes rr bt vw va ev ws as_ (fun y=>y=w.heap.size+1\/v.ownBlock=some y)
 low:∀b,v.ownBlock=some b->w.heap.size<=b
 sub:∀p∈ws++as_,p∈ws0++dJ
 b1:Box A w.heap.size 186 (vP rr)
 b3:Box A (w.heap.size+1+1) 223 (vP (w.heap.size+1))
 d:A.heap[D]?=some (.deferred (some []))
 fs:∀x∈FS,Blk A x.1 226 x.2/\v.ownBlock≠some x.1/\x.1≠w.heap.size+1
section
variable {nodes:List Node}{rr bt:Nat}{r:Node}{lst:Value}{w:World}{D:Nat}{FS:List (Nat×Array Value)}{dQ dP dK:Value}{ws0 dJ:List Pw}{fin:SS}{k:Nat}{A A':World}{v:Value}{ys:List Ak}{vw va ev:Value}{ws as_:List Pw}{s:SS}
theorem GD.below(h:GD nodes rr bt r lst w D FS dQ dP dK ws0 dJ fin k A v ys vw va ev ws as_ s)(hb:Bw A A'):GD nodes rr bt r lst w D FS dQ dP dK ws0 dJ fin k A' v ys vw va ev ws as_ s :=
 ⟨h.hp.below hb,h.heap,h.mem,h.ld.below hb,h.rel,h.inv,h.it,h.ms,h.bd,h.st.below hb,h.out,h.low,h.sub,h.b1.below hb h.b1.lt,h.b3.below hb h.b3.lt,(hb.block D (xrc.1 h.d).1).trans h.d,fun x hx=>⟨(h.fs x hx).1.below hb (h.fs x hx).1.lt,(h.fs x hx).2⟩⟩
theorem GD.ql6(h:GD nodes rr bt r lst w D FS dQ dP dK ws0 dJ fin k A v ys vw va ev ws as_ s){zs:List Ak}(hp:HqAt A' (w.heap.size+1) (.func (.func 176) #[] #[]) v' zs)(hh:qbp ltA zs)(hm:∀p∈zs,p.p∈ws++as_)(hk:Keep (fun y=>y=w.heap.size+1\/v.ownBlock=some y) A A')(hn:v'.ownBlock=v.ownBlock\/∃g,v'.ownBlock=some g/\A.heap.size<=g):GD nodes rr bt r lst w D FS dQ dP dK ws0 dJ fin k A' v' zs vw va ev ws as_ s:=by
 have uR:∀b,(b=w.heap.size+1\/v.ownBlock=some b)->w.heap.size<=b:=fun b e=>e.elim (fun e=>by omega) (h.low b)
 have Ba:=h.st.keep.size
 refine⟨hp,hh,hm,h.ld.keep hk h.out,h.rel,h.inv,h.it,h.ms,h.bd,⟨h.st.keep.qbo hk (fun b hb e=>by have:=uR b e;omega),h.st.new⟩,?_,?_,h.sub,h.b1.keep hk (h.hp.qdy h.b1 (by decide) (by decide)),h.b3.keep hk (h.hp.qdy h.b3 (by decide) (by decide)),qfy hk h.d h.hp.isC,fun x hx=>?_⟩
 ·rcases hn with e|⟨g,e,hg⟩
  ·rw[e];exact h.out
  ·have h1:=h.out.mono (T':=fun y=>y=w.heap.size+1) (fun b e=>.inl e);have h2:=h.ld.lt (T:=fun y=>v'.ownBlock=some y) (fun b e'=>by rw[e]at e';cases e';exact hg)
   exact h1.or h2
 ·intro b hb
  rcases hn with e|⟨g,e,hg⟩
  ·rw[e]at hb;exact h.low b hb
  ·rw[e]at hb;cases hb;omega
 ·obtain⟨f1,f2,f3⟩:=h.fs x hx
  refine⟨f1.keep hk (fun e=>e.elim f3 f2),?_,f3⟩
  rcases hn with e|⟨g,e,hg⟩
  ·rw[e];exact f2
  ·rw[e];intro e';cases e';have:=f1.lt;omega
theorem GD.qng(h:GD nodes rr bt r lst w D FS dQ dP dK ws0 dJ fin k A v ys vw va ev ws as_ s){k':Nat}(hl:LdAt A' nodes rr bt r lst aQ aX ck bg aR s'.evs)(bW:qbu rr bt A A' vw va ev aQ aX ck)(gy:∀p∈bg++aR,p∈ws++as_)(ir:∀p∈ws++as_,p∈bg++aR)(hr:Rel nodes s'.Ws bg aR)(hi:SInv s')(Dk:fin=iterS (qas (nodes.map Node.ent)) k' s')(wJ:qcm s'.Ws<=k')(pg:s'.evs.length+k'<=2000):GD nodes rr bt r lst w D FS dQ dP dK ws0 dJ fin k' A' v ys aQ aX ck bg aR s':=by
 have hk:=bW.keep;have uS:∀b,(b=w.heap.size+1\/v.ownBlock=some b)->b<A.heap.size:=fun b e=>e.elim (fun e=>by have:=h.hp.at_.lt;omega) (fun e=>qal h.hp.row e)
 refine⟨h.hp.keep hk (h.out.ldt (.inl rfl)) (fun b hb=>h.out.ldt (.inr hb)),h.heap,fun p hp=>ir p.p (h.mem p hp),hl,hr,hi,Dk,wJ,pg,h.st.trans bW,h.out.step bW uS gy,h.low,fun p hp=>h.sub p (gy p hp),h.b1.keep hk (h.ld.qdy h.b1 (by decide) (by decide) (by decide) (by decide)),h.b3.keep hk (h.ld.qdy h.b3 (by decide) (by decide) (by decide) (by decide)),qfy hk h.d h.ld.isC,fun x hx=>⟨(h.fs x hx).1.keep hk (h.ld.qdy (h.fs x hx).1 (by decide) (by decide) (by decide) (by decide)),(h.fs x hx).2⟩⟩
def akx (a:Ak):Wk×Int:=(a.p.x,a.s)
theorem LdAt.befq{w:World}{nodes:List Node}{rr bt:Nat}{r:Node}{lst vw va ev:Value}{ws as_:List Pw}{evs:List (Int×Int)}(h:LdAt w nodes rr bt r lst vw va ev ws as_ evs)(ho:qdh nodes rr bt vw va ev ws as_ T){ys:List Ak}(jE:∀p∈ys,p.p∈ws++as_):Befq w T ys ltA:=fun W hk a ha b hb=>by
 have hW:=h.keep hk ho
 exact qqe (hW.pin (jE a ha)).at_ (hW.pin (jE b hb)).at_
def H1 (nodes:List Node)(rr bt:Nat)(r:Node)(lst:Value)(w:World)(D:Nat)(FS:List (Nat×Array Value))(dQ dP dK:Value)(ws0 dJ:List Pw)(fin:SS)(q:Nat)(hp:Option Addr)(hi:Int)(sb:Bool)(A:World):Prop :=
 ∃k v ys vw va ev ws as_ s,GD nodes rr bt r lst w D FS dQ dP dK ws0 dJ fin k A v ys vw va ev ws as_ s /\
  ((sb=false/\fin=s)\/(sb=true/\2*k+ys.length+1<=q/\∃a:Ak,hp=some (vA a.p.blk 0)/\hi=a.s/\a.p∈ws++as_/\qbt (nodes.map Node.ent) s.Ws (akx a::ys.map akx)/\∀b∈ys,ltA b a=false))
theorem qj1{s:SS}(I:SInv s){hs:List (Wk×Int)}(hO:qbt L s.Ws hs):hs.length<=24:=by
 have aF:∀p∈hs,p.1∈s.Ws:=fun p hp=>(qak (hO.hd p hp).1).1
 have ju:(hs.map fun p=>p.1.num).Nodup:=by
  have df:=hO.nd;rw[List.nodup_iff_pairwise_ne,List.pairwise_map]at df ⊢
  exact df.imp_of_mem (fun {a b} ha hb aW e=>aW (by rw[qew I.wks.nums (aF _ ha) (aF _ hb) e]))
 have:=qdg ju (l':=s.Ws.map (·.num)) (fun x hx=>by
  obtain⟨y,hy,rfl⟩:=xrq.1 hx
  exact xrq.2 ⟨y.1,aF y hy,rfl⟩)
 have h2:=I.wks.wks.len
 simp at this
 omega
theorem GD.pop(h:GD nodes rr bt r lst w D FS dQ dP dK ws0 dJ fin k A v ys vw va ev ws as_ s)(hO:qbt (nodes.map Node.ent) s.Ws (ys.map akx)):
  Cl 179 #[vP (w.heap.size+1)] A fun e A'=>∃hp hi sb,e=.returned (.tuple #[.agg #[.pointer hp,vI hi],.bool sb])/\H1 nodes rr bt r lst w D FS dQ dP dK ws0 dJ fin (2*k+ys.length) hp hi sb A':=by
 have hl:=qj1 h.inv hO
 simp at hl
 refine(qwg qip h.hp (by omega) h.heap (h.ld.befq h.out h.mem)).mono ?_
 rintro e A' (⟨h0,rfl,hb⟩|⟨a,v',zs,h1,rfl,h2,h3,h4,h5,h6⟩)
 ·subst h0
  refine⟨_,_,_,rfl,k,v,[],vw,va,ev,ws,as_,s,h.below hb,.inl ⟨rfl,?_⟩⟩
  rw[h.it]
  exact qb9 (hO.ends h.inv) k
 ·have dR:=h.heap.min qip h1 (by cases hx:ltA a a with|false=>rfl|true=>have:=qip.asymm _ _ hx;rw[hx]at this;exact this);have an:=h2.length_eq
  simp at an
  refine⟨_,_,_,rfl,k,v',zs,vw,va,ev,ws,as_,s,h.ql6 h4 h3 (fun p hp=>h.mem p (h2.mem_iff.1 (xru _ hp))) h5 (.inl h6),.inr ⟨rfl,by omega,a,rfl,rfl,h.mem a (h2.mem_iff.1 (List.mem_cons_self ..)),?_,fun b hb=>?_⟩⟩
  ·exact hO.perm (h2.symm.map akx)
  ·obtain⟨j,hj⟩:=xre (h2.mem_iff.1 (xru a hb))
   exact dR j b hj
theorem GD.mark(h:GD nodes rr bt r lst w D FS dQ dP dK ws0 dJ fin k A v ys vw va ev ws as_ s)(hb:Bw A A')(hf:Blk A' A.heap.size 226 vs):GD nodes rr bt r lst w D [(A.heap.size,vs)] dQ dP dK ws0 dJ fin k A' v ys vw va ev ws as_ s:=by
 have h2:=h.below hb
 refine⟨h2.hp,h2.heap,h2.mem,h2.ld,h2.rel,h2.inv,h2.it,h2.ms,h2.bd,h2.st,h2.out,h2.low,h2.sub,h2.b1,h2.b3,h2.d,fun x hx=>?_⟩
 simp at hx
 subst hx
 exact⟨hf,fun e=>by have:=qal h.hp.row e;simp at this,by have:=h.hp.at_.lt;simp;omega⟩
theorem GD.fblk(h:GD nodes rr bt r lst w D [(F,vs)] dQ dP dK ws0 dJ fin k A v ys vw va ev ws as_ s):Blk A F 226 vs:=(h.fs (F,vs) (by simp)).1
theorem GD.setF(h:GD nodes rr bt r lst w D [(F,vs)] dQ dP dK ws0 dJ fin k A v ys vw va ev ws as_ s)(hk:Keep (fun b=>b=F) A A')(hf:Blk A' F 226 vs')(vH:w.heap.size<=F):GD nodes rr bt r lst w D [(F,vs')] dQ dP dK ws0 dJ fin k A' v ys vw va ev ws as_ s:=by
 obtain⟨f1,f2,f3⟩:=h.fs (F,vs) (by simp)
 simp only at f1 f2 f3
 have nU:qdh nodes rr bt vw va ev ws as_ (fun b=>b=F):=by
  refine⟨fun n hn=>⟨?_,?_⟩,?_,?_,?_,?_,?_,?_⟩
  ·exact qax (show Blk A n.blk 136 n.cells from(h.ld.ins n hn).at_) f1 (by decide)
  ·rintro g hg rfl;exact qag (h.ld.ins n hn).row f1 (by decide) hg
  ·exact qax h.ld.ld.rnd.at_ f1 (by decide)
  ·exact qax h.ld.ld.bk.at_ f1 (by decide)
  ·rintro b hb rfl;exact qag h.ld.ld.bk.wrow f1 (by decide) hb
  ·rintro b hb rfl;exact qag h.ld.ld.bk.arow f1 (by decide) hb
  ·rintro b hb rfl;exact qag h.ld.ld.rnd.row f1 (by decide) hb
  ·intro p hp;exact qax (h.ld.ld.bk.works p hp) f1 (by decide)
 refine⟨h.hp.keep hk (fun e=>f3 e.symm) (fun b hb e=>f2 (by rw[<-e];exact hb)),h.heap,h.mem,h.ld.keep hk nU,h.rel,h.inv,h.it,h.ms,h.bd,⟨h.st.keep.qbo hk (fun b hb e=>by omega),h.st.new⟩,h.out,h.low,h.sub,h.b1.keep hk (qax h.b1 f1 (by decide)),h.b3.keep hk (qax h.b3 f1 (by decide)),qfy hk h.d (fun b e=>⟨vs,226,(0,0),by subst e;exact f1⟩),fun x hx=>?_⟩
 simp at hx
 subst hx
 exact⟨hf,f2,f3⟩
theorem H1.setF{q:Nat}{sb:Bool}(h:H1 nodes rr bt r lst w D [(F,vs)] dQ dP dK ws0 dJ fin q hp hi sb A)(hk:Keep (fun b=>b=F) A A')(hf:Blk A' F 226 vs')(vH:w.heap.size<=F):H1 nodes rr bt r lst w D [(F,vs')] dQ dP dK ws0 dJ fin q hp hi sb A':=by
 obtain⟨k,v1,oe,gG,gj,jI,ws1,gS,s1,hC,dD⟩:=h
 exact⟨k,v1,oe,gG,gj,jI,ws1,gS,s1,hC.setF hk hf vH,dD⟩
theorem H1.blk{q:Nat}{sb:Bool}(h:H1 nodes rr bt r lst w D [(F,vs)] dQ dP dK ws0 dJ fin q hp hi sb A):Blk A F 226 vs:=by
 obtain⟨k,v1,oe,gG,gj,jI,ws1,gS,s1,hC,dD⟩:=h
 exact(hC.fs (F,vs) (by simp)).1
theorem GD.popN(h:GD nodes rr bt r lst w D FS dQ dP dK ws0 dJ fin k A v ys vw va ev ws as_ s)(hO:qbt (nodes.map Node.ent) s.Ws (ys.map akx))(vs:Array Value):
  Cl 179 #[vP (w.heap.size+1)] (A.alloc (.cells vs 226)) fun e A'=>∃hp hi sb,e=.returned (.tuple #[.agg #[.pointer hp,vI hi],.bool sb])/\H1 nodes rr bt r lst w D [(A.heap.size,vs)] dQ dP dK ws0 dJ fin (2*k+ys.length) hp hi sb A' :=
 (h.mark ((Below.refl _ _).alloc (Nat.le_refl _) _) (Blk.new A 226 vs)).pop hO
end
theorem Tree.qwm{nodes:List Node}(T:Tree nodes):qrm (nodes.map Node.ent):=by
 obtain⟨r,h0,h1,h2,h3,h4⟩:=T.root
 exact⟨r.ent,xrq.2 ⟨r,xr2 h0,rfl⟩,h1,h3,h4⟩
section
variable {nodes:List Node}{Ws:List Wk}{ws as_:List Pw}
theorem Rel.qto(R:Rel nodes Ws ws as_)(T:Tree nodes)(hB:qa7 nodes){l:List Node}(hl:l.Perm nodes):((qap ws l).map (·.x.key)).Nodup:=by
 have hk:(l.map (·.key)).Nodup:=(hl.map _).nodup_iff.2 T.nodup;have aF:((qap ws l).map (·.x.key)).Sublist (l.map (·.key)):=by
  have mF:∀n∈l,n∈nodes:=fun n h=>hl.mem_iff.1 h
  clear hk hl
  induction l with
  |nil=>exact List.Sublist.slnil
  |cons n l ih =>
   have zP:=ih (fun m hm=>mF m (xru _ hm));have e:qap ws (n::l)=(qbl ws n.blk).toList++qap ws l:=by
    unfold qap
    cases h:qbl ws n.blk<;>simp[List.filterMap_cons,h]
   rw[e]
   cases h:qbl ws n.blk with
   |none=>simpa using zP.cons n.key
   |some p =>
    have:=(R.qcu T hB (mF n (List.mem_cons_self ..)) h).2
    simp only[Option.toList_some,List.singleton_append,List.map_cons];rw[this]
    exact zP.cons_cons _
 exact aF.nodup hk
theorem Rel.qqk(R:Rel nodes Ws ws as_)(T:Tree nodes)(hB:qa7 nodes){l:List Node}(hl:l.Perm nodes)(h1:qa0 Ws y.key=some y):∃p∈qap ws l,p.x=y:=by
 obtain⟨g1,g2,_⟩:=qak h1;have hm:y∈ws.map (·.x):=by rw[R.w];exact xrr.2 ⟨g1,by simp[g2]⟩
 obtain⟨p0,zi,mv⟩:=xrq.1 hm;obtain⟨n,hn,_,dh⟩:=R.leaf p0 (xr9 _ zi);rw[mv]at dh;have hh:=R.head T hB hn;rw[dh,h1]at hh
 cases hq:qbl ws n.blk with
 |none=>unfold qbl at hq;rw[hq]at hh;cases hh
 |some p =>
  have qF:=hq;unfold qbl at hq;rw[hq]at hh
  refine⟨p,?_,by simpa using hh⟩
  unfold qap
  exact List.mem_filterMap.2 ⟨n,hl.mem_iff.2 hn,qF⟩
theorem Rel.qwf(R:Rel nodes Ws ws as_)(T:Tree nodes)(hB:qa7 nodes)(hS:WkS Ws st){l:List Node}(hl:l.Perm nodes){ys:List Ak}(jE:ys.Perm ((qap ws l).map fun p=>⟨p,qc0 nodes as_ p.x⟩)):qbt (nodes.map Node.ent) Ws (ys.map akx):=by
 have fO:∀x∈Ws,qc0 nodes as_ x=shp (nodes.map Node.ent) Ws x:=fun x hx=>R.share T hS.wks (hS.wks.ok x hx).1
 have qA:∀p∈qap ws l,qa0 Ws p.x.key=some p.x:=fun p hp=>by
  unfold qap at hp;obtain⟨n,hn,h3⟩:=List.mem_filterMap.1 hp;obtain⟨g1,g2⟩:=R.qcu T hB (hl.mem_iff.1 hn) h3;rw[g2];exact g1
 refine⟨?_,fun q hq=>?_,fun y h1 h2=>?_⟩
 ·have h1:=R.qto T hB hl;have h2:((ys.map akx).map fun p=>p.1.key).Perm ((qap ws l).map (·.x.key)):=by
   rw[List.map_map]
   have:=jE.map (fun a:Ak=>a.p.x.key)
   rw[List.map_map]at this
   exact this
  exact h2.nodup_iff.2 h1
 ·obtain⟨a,ha,rfl⟩:=xrq.1 hq;obtain⟨p,hp,rfl⟩:=xrq.1 (jE.mem_iff.1 ha);have h3:=qA p hp
  exact⟨h3,fO p.x (qak h3).1⟩
 ·obtain⟨p,hp,rfl⟩:=R.qqk T hB hl h1
  refine xrq.2 ⟨⟨p,qc0 nodes as_ p.x⟩,jE.mem_iff.2 (xrq.2 ⟨p,hp,rfl⟩),?_⟩
  show(p.x,qc0 nodes as_ p.x)=_
  rw[fO p.x (qak h1).1]
end
section
variable {nodes:List Node}{rr bt:Nat}{r:Node}{lst:Value}{w:World}{D:Nat}{FS:List (Nat×Array Value)}{dQ dP dK:Value}{ws0 dJ:List Pw}{fin:SS}{k:Nat}{A A':World}{v:Value}{ys:List Ak}{vw va ev:Value}{ws as_:List Pw}{s:SS}
theorem GD.fits(T0:Tree nodes)(hB:qa7 nodes)(h:GD nodes rr bt r lst w D FS dQ dP dK ws0 dJ fin k A v ys vw va ev ws as_ s)(hp:p∈ws++as_):
  Cl 180 #[vP rr,vP p.blk] A fun e A'=>e=.returned (.bool (qbm (nodes.map Node.ent) s.Ws p.x))/\Bw A A':=by
 obtain⟨n,hn,gz,dh⟩:=h.ld.lf p hp
 have:=qrc T0 hB h.ld.rd (h.ld.pin hp) hn gz
 rw[h.rel.fits T0 h.inv.wks.wks hn dh]at this
 exact this
theorem GD.qw4(T0:Tree nodes)(h:GD nodes rr bt r lst w D FS dQ dP dK ws0 dJ fin k A v ys vw va ev ws as_ s){a:Ak}(ha:a.p∈ws++as_)(hO:qbt (nodes.map Node.ent) s.Ws (akx a::ys.map akx))(hf:qbm (nodes.map Node.ent) s.Ws a.p.x=true)(dR:∀b∈ys,ltA b a=false):
  ∃(s':SS) (i:Nat),ws[i]?=some a.p/\s'.evs=s.evs++[(1,a.p.x.num)]/\Rel nodes s'.Ws (ws.take i++ws.drop (i+1)) (as_++[a.p])/\SInv s'/\qbt (nodes.map Node.ent) s'.Ws (qb5 (nodes.map Node.ent) s'.Ws a.p.x.key++ys.map akx) /\
  ∃k',k=k'+1/\fin=iterS (qas (nodes.map Node.ent)) k' s'/\qcm s'.Ws<=k'/\s'.evs.length+k'<=2000:=by
 obtain⟨b,d1,d2,d3,d4⟩:=qbt.does (x:=a.p.x) (sx:=a.s) T0.ents T0.qwm hO h.inv hf (fun q hq=>by
  obtain⟨c,hc,rfl⟩:=xrq.1 hq
  exact dR c hc)
 obtain⟨i1,i2,i3,i4,i5⟩:=h.inv.idle d3;have qA:=(hO.hd _ (List.mem_cons_self ..)).1;obtain⟨i,hi⟩:=h.rel.idx h.inv.wks ha qA;have wJ:=h.ms;have pg:=h.bd;obtain⟨k',rfl⟩:∃k',k=k'+1:=⟨k-1,by omega⟩
 exact⟨qds b a.p.x s,i,hi,rfl,h.rel.admit h.inv.wks h.inv.st0 hi d1 d2 rfl,i1,d4,k',rfl,by rw[h.it];exact qfb d3 k',by omega,by omega⟩
theorem GD.qs0(T0:Tree nodes)(hB:qa7 nodes)(h:GD nodes rr bt r lst w D FS dQ dP dK ws0 dJ fin k A v ys vw va ev ws as_ s)(hn:n∈nodes)(hp:qbl ws n.blk=some p)(hO:qbt (nodes.map Node.ent) s.Ws (qb5 (nodes.map Node.ent) s.Ws n.key++ys.map akx)):
  Cl 177 #[vP (w.heap.size+1),akv ⟨p,qc0 nodes as_ p.x⟩] A fun e A'=>e=.returned (.tuple #[])/\∃v' zs,zs.length=ys.length+1/\GD nodes rr bt r lst w D FS dQ dP dK ws0 dJ fin k A' v' zs vw va ev ws as_ s/\qbt (nodes.map Node.ent) s.Ws (zs.map akx):=by
 have hl:=qj1 h.inv hO
 simp at hl
 obtain⟨h1,h2⟩:=h.rel.qcu T0 hB hn hp;have dM:p∈ws++as_:=xr9 _ (qeu hp)
 refine(qrz qip h.hp (by omega) h.heap ⟨p,qc0 nodes as_ p.x⟩ (h.ld.befq h.out (fun q hq=>by
  rcases xri.1 hq with e|e
  ·exact h.mem q e
  ·simp at e;subst e;exact dM))).mono ?_
 rintro e A' ⟨he,v',zs,y1,y2,y3,y4,y5⟩
 refine⟨he,v',zs,by have:=y1.length_eq;simpa using this,h.ql6 y3 y2 (fun q hq=>?_) y4 y5,?_⟩
 ·rcases xri.1 (y1.mem_iff.1 hq) with e|e
  ·exact h.mem q e
  ·simp at e;subst e;exact dM
 ·refine hO.perm ?_
  have hm:qb5 (nodes.map Node.ent) s.Ws n.key=[akx ⟨p,qc0 nodes as_ p.x⟩]:=by
   unfold qb5;rw[h1]
   simp only
   rw[<-h.rel.share T0 h.inv.wks.wks (h.inv.wks.wks.ok p.x (qak h1).1).1]
   rfl
  rw[hm]
  have:=y1.map akx
  rw[List.map_append]at this
  exact List.perm_append_comm.trans this.symm
theorem GD.qwj(T0:Tree nodes)(hB:qa7 nodes)(h:GD nodes rr bt r lst w D FS dQ dP dK ws0 dJ fin k A v ys vw va ev ws as_ s)(hn:n∈nodes)(hp:qbl ws n.blk=none)(hO:qbt (nodes.map Node.ent) s.Ws (qb5 (nodes.map Node.ent) s.Ws n.key++ys.map akx)):qbt (nodes.map Node.ent) s.Ws (ys.map akx):=by
 have hh:=h.rel.head T0 hB hn;unfold qbl at hp;rw[hp]at hh;have hm:qb5 (nodes.map Node.ent) s.Ws n.key=[]:=by
  unfold qb5;rw[<-hh];rfl
 rw[hm]at hO
 exact hO
end
attribute [local go_sem] Oper.semAt_some
section
variable {w:World}{nodes:List Node}{rr bt:Nat}{r:Node}{lst vw va ev:Value}{ws as_:List Pw}{evs:List (Int×Int)}
theorem quk(f:Value)(hf:∃a b c,f=.func a b c)(w:World):Cl 167 #[f] w fun e w'=>e=.returned (vP w.heap.size)/\w'=w.alloc (.cells #[f,v0_] 247):=by
 obtain⟨a,b,c,rfl⟩:=hf
 go_enter func167,ntmps167
 go_wp2_with fail
 go_ret
 exact⟨rfl,rfl⟩
theorem LdAt.outD(h:LdAt w nodes rr bt r lst vw va ev ws as_ evs){D:Nat}{x:Option (List Deferred)}(hD:w.heap[D]?=some (.deferred x)):qdh nodes rr bt vw va ev ws as_ (fun b=>b=D):=by
 have key:∀b,isCells w b->b≠D:=fun b ⟨vs,t,f,hb⟩ e=>by subst e;rw[hD]at hb;cases hb
 exact⟨fun n hn=>⟨key _ ⟨_,_,_,(h.ins n hn).at_⟩,fun g hg=>key _ (qcl (h.ins n hn).row hg)⟩,key _ ⟨_,_,_,h.ld.rnd.at_⟩,key _ ⟨_,_,_,h.ld.bk.at_⟩,fun b hb=>key _ (qcl h.ld.bk.wrow hb),fun b hb=>key _ (qcl h.ld.bk.arow hb),fun b hb=>key _ (qcl h.ld.rnd.row hb),fun p hp=>key _ ⟨_,_,_,h.ld.bk.works p hp⟩⟩
theorem qjf(ws:List Pw)(l:List Node):(qap ws l).length<=l.length:=by
 unfold qap;exact List.length_filterMap_le ..
theorem qgc(T0:Tree nodes){ch:Node->List Node}(K0:Kids nodes ch)(hr:r∈nodes)(bK:r.key=[]):(dfs ch 4 r).Perm nodes:=by
 have:=qgl T0 K0 T0.nd hr
 rw[bK]at this
 refine this.trans (List.Perm.of_eq ?_)
 rw[List.filter_eq_self];intro m _
 rfl
theorem ql0(T0:Tree nodes)(hB:qa7 nodes){ch:Node->List Node}(K0:Kids nodes ch)(h:LdAt w nodes rr bt r lst vw va ev ws as_ evs)(hr:r∈nodes)(bK:r.key=[])(R:Rel nodes s0.Ws ws as_)(I:SInv s0)(mw:s0.evs=evs)(an:evs.length<=100):
  Cl 130 #[vP rr] w fun e w'=>e=.returned (.tuple #[])/\∃aQ aX ck bg aR,LdAt w' nodes rr bt r lst aQ aX ck bg aR (qa2 (nodes.map Node.ent) s0).evs/\Rel nodes (qa2 (nodes.map Node.ent) s0).Ws bg aR/\qbu rr bt w w' vw va ev aQ aX ck/\(∀p∈bg++aR,p∈ws++as_):=by
 generalize aM:qa2 (nodes.map Node.ent) s0=fin;have bU:Hid (qa2 (nodes.map Node.ent) s0=fin):=aM;clear aM;have b_:∀k:Nat,Fence.wide.depth.isSome=true->1<=k:=fun k h=>by simp[Fence.wide]at h
 have zc:=quk (.func (.func 168) #[] #[]) ⟨_,_,_,rfl⟩
 refine(xrv (n:=3)).1 ?_
 refine callsIn_of_wp_marks func130 rfl trivial ?_ rfl
 simp only[ntmps130,List.size_toArray,List.length_cons,List.length_nil,Nat.reduceAdd,Nat.reduceSub,Array.replicate_succ,Array.replicate_zero,List.push_toArray,List.append_toArray,List.nil_append,List.cons_append];have mA:=fun W (hW:Bw w W)=>qlb T0 K0 (h.below hW).rw_ hr
 unfold nptr at mA;obtain⟨W0,bJ⟩:∃W0,W0=((w.alloc (.cells #[vP rr] 186)).alloc (.cells #[.func (.func 168) #[] #[],v0_] 247)).alloc (.cells #[vP (w.heap.size+1)] 216):=⟨_,rfl⟩;have aO:Bw w W0:=by rw[bJ];exact bel2
 have cZ:W0.heap.size=w.heap.size+3:=by rw[bJ];simp
 have x1:Box W0 w.heap.size 186 (vP rr):=by rw[bJ];exact((Box.new w 186 _).alloc _).alloc _
 have qY:HpAt W0 (w.heap.size+1) (.func (.func 168) #[] #[]) v0_ []:=by
  refine⟨?_,⟨rfl,.inl ⟨rfl,rfl⟩⟩,by simp[Value.ownBlock]⟩
  have:=(Blk.new (w.alloc (.cells #[vP rr] 186)) 247 #[.func (.func 168) #[] #[],v0_]).alloc (.cells #[vP (w.heap.size+1)] 216)
  rw[xrt]at this;rw[bJ];exact this
 have x3:Box W0 (w.heap.size+1+1) 216 (vP (w.heap.size+1)):=by
  have:=Box.new ((w.alloc (.cells #[vP rr] 186)).alloc (.cells #[.func (.func 168) #[] #[],v0_] 247)) 216 (vP (w.heap.size+1))
  rw[xrt,xrt]at this;rw[bJ];exact this
 have c1:=x1.cell;rw[bJ]at c1
 gi_wp2_with (first
  |((first|refine⟨trivial,b_ _,?_⟩|refine⟨trivial,?_⟩);gi_at_call 167;refine(xrv.2 (zc _)).mono ?_;rintro e W3 ⟨rfl,rfl⟩)
  |((first|refine⟨trivial,b_ _,?_⟩|refine⟨trivial,?_⟩);gi_at_call 169;refine(xrv.2 (mA _ (by exact bel1))).mono ?_;rintro e W3 ⟨rfl,rfl,aI⟩))
 obtain⟨W,hW⟩:∃W,W=W0.alloc (.cells #[vP rr] 186):=⟨_,rfl⟩;have dk:W.heap.size=w.heap.size+4:=by rw[hW];simp[cZ]
 have aj:Bw W0 W:=by rw[hW];exact bel2
 have cn:Bw w W:=qac aO aj;have z1:=x1.below aj x1.lt;have z3:=x3.below aj x3.lt;have qZ:=qY.below aj;simp only[xrt]at aI;simp only[<-bJ,<- hW]at aI ⊢;have hq:=aI (fun b=>b=w.heap.size+1) (fun b e=>by omega) (h.lt (fun b e=>by omega)).rw_;have jD:(qap ws (dfs ch 4 r)).length<=20:=Nat.le_trans (qjf ws (dfs ch 4 r)) (qoe T0 K0 hr);have cg:∀p∈qap ws (dfs ch 4 r),p∈ws++as_:=fun p hp=>xr9 _ (qjl hp)
 have pU:=qgc T0 K0 hr bK;generalize dfs ch 4 r=DX at hq jD cg pU;have av:∀ys:List Pw,ys.Perm ((qap ws DX).filter fun p=>ownP nodes as_ p.x)->qb2 (nodes.map Node.ent) s0.Ws (ys.map (·.x)):=fun ys jE=>R.qxe T0 hB I.wks pU jE
 generalize qap ws DX=X at hq jD cg av;clear aI mA hW bJ c1 x1 x3 qY zc;have a7:∀b,b<W.heap.size->¬(False\/(W.heap.size<=b/\b<W.heap.size+2+4)):=fun b hb e=>by rcases e with e|e;exact e;omega
 refine qgs (T:=fun b=>b=w.heap.size+1) (S:=fun _=>False) rfl (enters_of func206 (by kernel_rfl) rfl) hq (Below.refl _ _) (fun _=>rfl) (fun b e=>e.elim) (fun b e=>by omega)
  (fun (pre:List Pw) A=>(∃v ys,HpAt A (w.heap.size+1) (.func (.func 168) #[] #[]) v ys/\qbp ltP ys/\ys.Perm (pre.filter fun p=>ownP nodes as_ p.x)/\(∀b,v.ownBlock=some b->W.heap.size+2+4<=b))/\Box A w.heap.size 186 (vP rr)/\Box A (w.heap.size+1+1) 216 (vP (w.heap.size+1))/\Bw w A)
  (fun c (pre:List Pw) A=>False)
  (fun pre A B hs hk=>by
   obtain⟨⟨v,ys,g1,g2,g3,g4⟩,g5,g6,g7⟩:=hs
   exact⟨⟨v,ys,g1.keep hk (a7 _ (by omega)) (fun b hb e=>by have:=g4 b hb;rcases e with e|e;exact e;omega),g2,g3,g4⟩,g5.keep hk (a7 _ (by omega)),g6.keep hk (a7 _ (by omega)),g7.trans (hk.toBelow g7.size (fun b aZ=>a7 b (by omega)))⟩)
  (fun c pre A B hs hk=>hs)
  ⟨⟨_,[],qZ,fun j a b hj ha=>by simp at ha,by simp,by simp[Value.ownBlock]⟩,z1,z3,cn⟩
  (fun x=>{tmps:=#[vP rr,vP w.heap.size,vP (w.heap.size+1+1),vP x.blk,undef,undef,vP (w.heap.size+1),vP rr,.func (.func 206) #[] #[vP (w.heap.size+1+1+1)],vP x.blk,undef,undef,undef,undef,undef,undef,undef,undef,undef,undef,undef,undef,undef,undef,undef,undef,undef,undef,undef,undef,undef,undef,undef,undef,undef,undef,undef,undef,undef,undef,undef,undef,undef],defers:=[]}) ?assign ?body ?done ?stop
 case assign =>
  intro l x W K hK
  gi_wp2
  exact hK
 case stop =>
  rintro c pre A aC hx hD
  exact hx.elim
 case body =>
  rintro l2 pre x W2 ⟨⟨v,ys,g1,g2,g3,g4⟩,g5,g6,g7⟩ gP aC
  have sw:=h.below g7;have lX:ys.length<=50:=by
   have:=g3.length_eq
   have h1:=xrh (fun p=>ownP nodes as_ p.x) pre;have h2:=aC.length_le
   simp at h2
   omega
  have nY:=qhb T0 hB sw g1 g2 lX (fun p hp=>cg p (aC.subset (xr9 _ (xrr.1 (g3.mem_iff.1 hp)).1))) (h.lt (fun b e=>by
   rcases e with e|e
   ·omega
   ·have:=g4 b e;omega)) (some x) (fun p e=>by cases e;exact cg x (aC.subset (by simp)))
  have c1:=g5.cell;have c2:=g6.cell;have HY:Hid (ys.Perm (pre.filter fun p=>ownP nodes as_ p.x)):=g3;have HM:Hid (ownMore nodes as_ (some x)=[x].filter fun p=>ownP nodes as_ p.x):=by
   show ownMore nodes as_ (some x)=_
   unfold ownMore
   cases hx:ownP nodes as_ x.x<;>simp[hx]
  clear g3 hq av;simp only[optP]at nY;unfold nptr at nY
  gi_wp2_with ((first|refine⟨trivial,b_ _,?_⟩|refine⟨trivial,?_⟩);gi_at_call 170;refine(CallsIn.inRound l2 (xrv.2 nY)).mono ?_;rintro e W5 ⟨rfl,v',zs,y1,y2,y3,y4,y5⟩)
  refine⟨y4.mono (fun b e=>?_),⟨v',zs,y3,y2,?_,fun b hb=>?_⟩,g5.keep y4 (fun e=>?_),g6.keep y4 (fun e=>?_),g7.trans (y4.toBelow g7.size (fun b hb e=>?_))⟩
  ·rcases e with e|e
   ·exact .inl e
   ·exact .inr (g4 b e)
  ·rw[List.filter_append,<- HM.out]
   exact y1.trans (HY.out.append_right _)
  ·rcases y5 with e|⟨g,e1,e2⟩
   ·rw[e]at hb;exact g4 b hb
   ·rw[e1]at hb;cases hb;omega
  ·rcases e with e|e
   ·omega
   ·have:=g4 _ e;omega
  ·rcases e with e|e
   ·omega
   ·have:=g4 _ e;omega
  ·rcases e with e|e
   ·omega
   ·have:=g4 _ e;omega
 case done =>
  rintro A ⟨⟨v,ys,g1,g2,g3,g4⟩,g5,g6,g7⟩ hD
  have hO:=av ys g3;have lX:ys.length<=20:=by
   have:=g3.length_eq
   have h1:=xrh (fun p=>ownP nodes as_ p.x) X
   omega
  have eU:∀p∈ys,p∈ws++as_:=fun p hp=>cg p (xrr.1 (g3.mem_iff.1 hp)).1
  have hA:=h.below g7;have ho:=h.lt (T:=fun y=>y=w.heap.size+1\/v.ownBlock=some y) (fun b e=>by
   rcases e with e|e
   ·omega
   ·have:=g4 b e;omega)
  have c1:=g5.cell;have c2:=g6.cell;have Fx:GC nodes rr bt r lst w W.heap.size vw va ev ws as_ fin s0.Ws.length A v ys vw va ev ws as_ s0:=⟨g1,g2,eU,by rw[mw];exact hA,R,I,bU.out.symm,qq8 _ _,by have:=I.wks.wks.len;rw[mw];omega,(qbu.refl _ _ _ _ _ _).below g7,ho,fun b hb=>by have:=g4 b hb;omega,fun _ e=>e,g5,g6,hD⟩;have nV:=Fx.pop T0 hO;generalize eE:s0.Ws.length=k0 at nV;clear av cg hq g3 bU eE Fx hO g1 g2 g4 hA ho lX eU R I mw z1 z3 qZ cn hD
  gi_wp2_with ((first|refine⟨trivial,b_ _,?_⟩|refine⟨trivial,?_⟩);gi_at_call 171;refine(xrv.2 nV).mono ?_;rintro e A1 ⟨hv,sv,rfl,hG⟩)
  gi_loopg [4,5] k0 (fun q hv sv wr=>∃k,k<=q/\G1 nodes rr bt r lst w W.heap.size vw va ev ws as_ fin k hv sv wr)
  case atStart=>exact⟨k0,Nat.le_refl _,hG⟩
  case round =>
   clear hG;obtain⟨k,yQ,v1,oe,gG,gj,jI,ws1,gS,s1,hC,dD⟩:=hrel
   rcases dD with ⟨rfl,rfl,sP⟩|⟨rfl,a,rfl,mj,hO,dR⟩
   ·have xb:Hid (fin=s1):=sP;clear sP
    gi_wp2_with fail
    have hd:=hC.d;rw[dk]at hd
    refine⟨by simp,.inl ⟨_,_,rfl,run_takeDeferred hd,?_⟩⟩
    have yO:Keep (fun b=>b=w.heap.size+4) wr (wr.putObj (w.heap.size+4) (.deferred none)):=(Keep.refl (fun b=>b=w.heap.size+4) _).putObj rfl _
    refine⟨.tuple #[],by simp[results,results130,go_sem],rfl,gG,gj,jI,ws1,gS,?_,?_,⟨hC.st.keep.qbo yO (fun b hb e=>by omega),hC.st.new⟩,hC.sub⟩
    ·rw[xb.out];exact hC.ld.keep yO (hC.ld.outD hd)
    ·rw[xb.out];exact hC.rel
   ·obtain⟨r1,r2,r3,r4,r5,r6,k',rfl,r7,r8,r9⟩:=hC.owned mj hO dR;obtain⟨n,hn,gz,dh⟩:=hC.ld.lf a mj;have bE:=qqm T0 hB hC.ld mj hn gz dh hC.rel r1 r2;have c1:=hC.b1.cell;unfold nptr at bE;clear c2 dR hO
    gi_upto_region 10 with (first
     |((first|refine⟨trivial,b_ _,?_⟩|refine⟨trivial,?_⟩);gi_at_call 172;refine(xrv.2 bE).mono ?_;rintro e w1 ⟨rfl,ik,gR,eV,il,jj,m1,m2,m3,m4,m5⟩;clear bE;obtain⟨i,hi,eh⟩:=r4 _ _ m2 (m5 mj);have dY:=m1.admit r3 hi;have c3:=(hC.b1.keep m3.keep (hC.ld.qdy hC.b1 (by decide) (by decide) (by decide) (by decide))).cell;unfold nptr at dY)
     |((first|refine⟨trivial,b_ _,?_⟩|refine⟨trivial,?_⟩);gi_at_call 173;refine(xrv.2 dY).mono ?_;rintro e w2 ⟨rfl,oy,qJ,A0,n1,n2⟩;clear dY))
    have gy:∀p∈(il.take i++il.drop (i+1))++(jj++[a]),p∈il++jj:=fun p hp=>by
     rcases xri.1 hp with h1|h1
     ·exact xr9 _ (qbb h1)
     ·rcases xri.1 h1 with h1|h1
      ·exact xra _ h1
      ·simp at h1;subst h1;exact xr9 _ (xr2 hi)
    have ir:∀p∈il++jj,p∈(il.take i++il.drop (i+1))++(jj++[a]):=fun p hp=>by
     rcases xri.1 hp with h1|h1
     ·rcases List.mem_cons.1 ((qb0 hi).mem_iff.1 h1) with rfl|h1
      ·simp
      ·exact xr9 _ h1
     ·exact xra _ (xr9 _ h1)
    have tP:GC nodes rr bt r lst w W.heap.size vw va ev ws as_ fin k' w2 v1 oe oy qJ A0 (il.take i++il.drop (i+1)) (jj++[a]) (qcs (nodes.map Node.ent) a.x s1):=hC.qng n1 (m3.trans n2) (fun p hp=>m4 (gy p hp)) (fun p hp=>ir p (m5 hp)) eh r5 r7 r8 r9;generalize il.take i++il.drop (i+1)=jF at tP ir;generalize jj++[a]=mY at tP ir;have iK:∀W',Bw w2 W'->Cl 174 #[.pointer (some (vA bt 1)),vP a.q] W' fun e w'=>e=.returned (optP (qbl jF n.blk))/\Below W'.heap.size W' w':=fun W' bI=>by
     have:=(tP.below bI).ld.rw_.head hn
     rw[show a.q=n.blk from gz.symm];exact this
    have GI:qb2 (nodes.map Node.ent) (qcs (nodes.map Node.ent) a.x s1).Ws (moreOwn (nodes.map Node.ent) (qcs (nodes.map Node.ent) a.x s1).Ws n.key++oe.map (·.x)):=by rw[dh];exact r6
    have iT:∀W',Bw w2 W'->Cl 170 #[vP rr,vP (w.heap.size+1),optP (qbl jF n.blk)] W' fun e A'=>e=.returned (.tuple #[])/\∃v' zs,GC nodes rr bt r lst w W.heap.size vw va ev ws as_ fin k' A' v' zs oy qJ A0 jF mY (qcs (nodes.map Node.ent) a.x s1)/\qb2 (nodes.map Node.ent) (qcs (nodes.map Node.ent) a.x s1).Ws (zs.map (·.x)):=fun W' bI=>(tP.below bI).qs0 T0 hB hn GI
    have oZ:a∈jF++mY:=ir a (m5 mj);have aY:∀(W':World) (v':Value) (zs:List Pw),GC nodes rr bt r lst w W.heap.size vw va ev ws as_ fin k' W' v' zs oy qJ A0 jF mY (qcs (nodes.map Node.ent) a.x s1)->W'.cell? (vA w.heap.size 0)=some (vP rr)/\W'.cell? (vA (w.heap.size+1+1) 0)=some (vP (w.heap.size+1))/\W'.cell? (vA rr 1)=some (.pointer (some (vA bt 1)))/\W'.cell? (vA a.blk 1)=some (vP a.q):=fun W' v' zs hg=>⟨hg.b1.cell,hg.b3.cell,hg.ld.cells.2.1,(hg.ld.pin oZ).cells.2.1⟩
    obtain⟨e1,e2,e3,e4⟩:=aY _ _ _ tP;have af:∀W',Bw w2 W'->_:=fun W' bI=>aY _ _ _ (tP.below bI)
    generalize optP (qbl jF n.blk)=ov at iK iT;have sZ:=fun (W':World) (v':Value) (zs:List Pw) (hg:GC nodes rr bt r lst w W.heap.size vw va ev ws as_ fin k' W' v' zs oy qJ A0 jF mY (qcs (nodes.map Node.ent) a.x s1)) ho=>hg.pop T0 ho
    have HK:Hid (k'+1<=_):=yQ;clear hC m1 m2 m3 m4 m5 n1 n2 eh r4 r5 r6 GI r7 r8 r9 hi ir yQ c1 c3
    refine wpIn_wide.2 ?_
    go_region_held3 (fun w'=>w'.cell? (vA w.heap.size 0)=some (vP rr)/\w'.cell? (vA (w.heap.size+1+1) 0)=some (vP (w.heap.size+1))/\w'.cell? (vA rr 1)=some (.pointer (some (vA bt 1)))/\w'.cell? (vA a.blk 1)=some (vP a.q)) (go_keep)
     (first
     |(go_at_call 174;refine(iK _ ?_).mono ?_;(focus exact bel2);rintro e w3 ⟨rfl,ax⟩;have aK:Bw w2 w3:=qac (by exact bel2) ax;obtain⟨f1,f2,f3,f4⟩:=af _ aK)
     |(go_at_call 170;refine(iT _ ?_).mono ?_;(focus exact bel2);rintro e w4 ⟨rfl,v4,O7,qW,ID⟩;obtain⟨g1,g2,g3,g4⟩:=aY _ _ _ qW))
    have JE:=sZ _ _ _ qW ID;clear iT iK sZ af aY tP
    gi_wp2_with ((first|refine⟨trivial,b_ _,?_⟩|refine⟨trivial,?_⟩);gi_at_call 171;refine(xrv.2 JE).mono ?_;rintro e A5 ⟨M_,Om,rfl,j8⟩)
    gi_roundg k'
    case measure=>have:=HK.out;omega
    case rel=>exact⟨k',Nat.le_refl _,j8⟩
end
end Go.Proofs.YtphclnolomgjoaaGreatDoor
