import Derived.Test.YtphclnolomgjoaaGreatDoorC26
import Derived.Test.YtphclnolomgjoaaGreatDoorC06
import Derived.Sort.LoopGhostIn
import Derived.Sort.CutIn
set_option linter.unusedVariables false
set_option linter.unusedSimpArgs false
namespace Go.Proofs.YtphclnolomgjoaaGreatDoor
open Go.RowKit Go.Shelf
theorem HqAt.keep {W W' : World} {hb : Nat} {f v : Value} {ys : List Ak} (h : HqAt W hb f v ys) {T : Nat -> Prop} (hk : Keep T W W') (h1 : ¬ T hb) (h2 : ∀ b, v.ownBlock = some b -> ¬ T b) : HqAt W' hb f v ys := ⟨h.at_.keep hk h1, qab h.row hk h2, h.ne⟩
theorem HqAt.isC {W : World} {hb : Nat} {f v : Value} {ys : List Ak} (h : HqAt W hb f v ys) : ∀ b, (b = hb \/ v.ownBlock = some b) -> isCells W b := fun b e => by
 rcases e with rfl | e
 ·exact ⟨_, _, _, h.at_⟩
 ·exact qcl h.row e
theorem HqAt.qdy {W : World} {hb : Nat} {f v : Value} {ys : List Ak} (h : HqAt W hb f v ys) {b : Nat} {t : TypeId} {vs : Array Value} (hx : Blk W b t vs) (h1 : t ≠ 254) (h2 : t ≠ 226) : ¬ (b = hb \/ v.ownBlock = some b) := by
 rintro (e | e)
 ·exact qax hx h.at_ h1 e
 ·exact qag h.row hx (fun e => h2 e.symm) e
structure GD (nodes : List Node) (rr bt : Nat) (r : Node) (lst : Value) (w : World) (D : Nat) (FS : List (Nat × Array Value)) (vw0 va0 ev0 : Value) (ws0 as0 : List Pw) (fin : SS) (k : Nat) (A : World) (v : Value) (ys : List Ak) (vw va ev : Value) (ws as_ : List Pw) (s : SS) : Prop where
 hp : HqAt A (w.heap.size + 1) (.func (.func 176) #[] #[]) v ys
 heap : qbp ltA ys
 mem : ∀ p ∈ ys, p.p ∈ ws ++ as_
 ld : LdAt A nodes rr bt r lst vw va ev ws as_ s.evs
 rel : Rel nodes s.Ws ws as_
 inv : SInv s
 it : fin = iterS (qas (nodes.map Node.ent)) k s
 ms : qcm s.Ws <= k
 bd : s.evs.length + k <= 2000
 st : qbu rr bt w A vw0 va0 ev0 vw va ev
 out : qdh nodes rr bt vw va ev ws as_ (fun y => y = w.heap.size + 1 \/ v.ownBlock = some y)
 low : ∀ b, v.ownBlock = some b -> w.heap.size <= b
 sub : ∀ p ∈ ws ++ as_, p ∈ ws0 ++ as0
 b1 : Box A w.heap.size 186 (.pointer (some ⟨rr, 0, none⟩))
 b3 : Box A (w.heap.size + 1 + 1) 223 (.pointer (some ⟨w.heap.size + 1, 0, none⟩))
 d : A.heap[D]? = some (.deferred (some []))
 fs : ∀ x ∈ FS, Blk A x.1 226 x.2 /\ v.ownBlock ≠ some x.1 /\ x.1 ≠ w.heap.size + 1
section
variable {nodes : List Node} {rr bt : Nat} {r : Node} {lst : Value} {w : World} {D : Nat} {FS : List (Nat × Array Value)} {vw0 va0 ev0 : Value} {ws0 as0 : List Pw} {fin : SS} {k : Nat} {A A' : World} {v : Value} {ys : List Ak} {vw va ev : Value} {ws as_ : List Pw} {s : SS}
theorem GD.below (h : GD nodes rr bt r lst w D FS vw0 va0 ev0 ws0 as0 fin k A v ys vw va ev ws as_ s) (hb : Below A.heap.size A A') : GD nodes rr bt r lst w D FS vw0 va0 ev0 ws0 as0 fin k A' v ys vw va ev ws as_ s :=
 ⟨h.hp.below hb, h.heap, h.mem, h.ld.below hb, h.rel, h.inv, h.it, h.ms, h.bd, h.st.below hb, h.out, h.low, h.sub, h.b1.below hb h.b1.lt, h.b3.below hb h.b3.lt, (hb.block D (Array.getElem?_eq_some_iff.1 h.d).1).trans h.d, fun x hx => ⟨(h.fs x hx).1.below hb (h.fs x hx).1.lt, (h.fs x hx).2⟩⟩
theorem GD.ql6 (h : GD nodes rr bt r lst w D FS vw0 va0 ev0 ws0 as0 fin k A v ys vw va ev ws as_ s) {v' : Value} {zs : List Ak} (hp : HqAt A' (w.heap.size + 1) (.func (.func 176) #[] #[]) v' zs) (hh : qbp ltA zs) (hm : ∀ p ∈ zs, p.p ∈ ws ++ as_) (hk : Keep (fun y => y = w.heap.size + 1 \/ v.ownBlock = some y) A A') (hn : v'.ownBlock = v.ownBlock \/ ∃ g, v'.ownBlock = some g /\ A.heap.size <= g) : GD nodes rr bt r lst w D FS vw0 va0 ev0 ws0 as0 fin k A' v' zs vw va ev ws as_ s := by
 have hlow : ∀ b, (b = w.heap.size + 1 \/ v.ownBlock = some b) -> w.heap.size <= b := fun b e => e.elim (fun e => by omega) (h.low b)
 have hws := h.st.keep.size
 refine ⟨hp, hh, hm, h.ld.keep hk h.out, h.rel, h.inv, h.it, h.ms, h.bd, ⟨h.st.keep.qbo hk (fun b hb e => by have := hlow b e; omega), h.st.new⟩, ?_, ?_, h.sub, h.b1.keep hk (h.hp.qdy h.b1 (by decide) (by decide)), h.b3.keep hk (h.hp.qdy h.b3 (by decide) (by decide)), qfy hk h.d h.hp.isC, fun x hx => ?_⟩
 ·rcases hn with e | ⟨g, e, hg⟩
  ·rw [e]; exact h.out
  ·have h1 := h.out.mono (T' := fun y => y = w.heap.size + 1) (fun b e => .inl e)
   have h2 := h.ld.lt (T := fun y => v'.ownBlock = some y) (fun b e' => by rw [e] at e'; cases e'; exact hg)
   exact h1.or h2
 ·intro b hb
  rcases hn with e | ⟨g, e, hg⟩
  ·rw [e] at hb; exact h.low b hb
  ·rw [e] at hb; cases hb; omega
 ·obtain ⟨f1, f2, f3⟩ := h.fs x hx
  refine ⟨f1.keep hk (fun e => e.elim f3 f2), ?_, f3⟩
  rcases hn with e | ⟨g, e, hg⟩
  ·rw [e]; exact f2
  ·rw [e]; intro e'; cases e'; have := f1.lt; omega
theorem GD.qng (h : GD nodes rr bt r lst w D FS vw0 va0 ev0 ws0 as0 fin k A v ys vw va ev ws as_ s) {k' : Nat} {s' : SS} {vw' va' ev' : Value} {ws' as' : List Pw} (hl : LdAt A' nodes rr bt r lst vw' va' ev' ws' as' s'.evs) (hst : qbu rr bt A A' vw va ev vw' va' ev') (hm1 : ∀ p ∈ ws' ++ as', p ∈ ws ++ as_) (hm2 : ∀ p ∈ ws ++ as_, p ∈ ws' ++ as') (hr : Rel nodes s'.Ws ws' as') (hi : SInv s') (hit : fin = iterS (qas (nodes.map Node.ent)) k' s') (hms : qcm s'.Ws <= k') (hbd : s'.evs.length + k' <= 2000) : GD nodes rr bt r lst w D FS vw0 va0 ev0 ws0 as0 fin k' A' v ys vw' va' ev' ws' as' s' := by
 have hk := hst.keep
 have hltA : ∀ b, (b = w.heap.size + 1 \/ v.ownBlock = some b) -> b < A.heap.size := fun b e => e.elim (fun e => by have := h.hp.at_.lt; omega) (fun e => qal h.hp.row e)
 refine ⟨h.hp.keep hk (h.out.ldt (.inl rfl)) (fun b hb => h.out.ldt (.inr hb)), h.heap, fun p hp => hm2 p.p (h.mem p hp), hl, hr, hi, hit, hms, hbd, h.st.trans hst, h.out.step hst hltA hm1, h.low, fun p hp => h.sub p (hm1 p hp), h.b1.keep hk (h.ld.qdy h.b1 (by decide) (by decide) (by decide) (by decide)), h.b3.keep hk (h.ld.qdy h.b3 (by decide) (by decide) (by decide) (by decide)), qfy hk h.d h.ld.isC, fun x hx => ⟨(h.fs x hx).1.keep hk (h.ld.qdy (h.fs x hx).1 (by decide) (by decide) (by decide) (by decide)), (h.fs x hx).2⟩⟩
def akx (a : Ak) : Wk × Int := (a.p.x, a.s)
theorem LdAt.befq {w : World} {nodes : List Node} {rr bt : Nat} {r : Node} {lst vw va ev : Value} {ws as_ : List Pw} {evs : List (Int × Int)} (h : LdAt w nodes rr bt r lst vw va ev ws as_ evs) {T : Nat -> Prop} (ho : qdh nodes rr bt vw va ev ws as_ T) {ys : List Ak} (hys : ∀ p ∈ ys, p.p ∈ ws ++ as_) : Befq w T ys ltA := fun W hk a ha b hb => by
 have hW := h.keep hk ho
 exact qqe (hW.pin (hys a ha)).at_ (hW.pin (hys b hb)).at_
def H1 (nodes : List Node) (rr bt : Nat) (r : Node) (lst : Value) (w : World) (D : Nat) (FS : List (Nat × Array Value)) (vw0 va0 ev0 : Value) (ws0 as0 : List Pw) (fin : SS) (q : Nat) (hp : Option Addr) (hi : Int) (sb : Bool) (A : World) : Prop :=
 ∃ k v ys vw va ev ws as_ s, GD nodes rr bt r lst w D FS vw0 va0 ev0 ws0 as0 fin k A v ys vw va ev ws as_ s /\
  ((sb = false /\ fin = s) \/ (sb = true /\ 2 * k + ys.length + 1 <= q /\ ∃ a : Ak, hp = some ⟨a.p.blk, 0, none⟩ /\ hi = a.s /\ a.p ∈ ws ++ as_ /\ qbt (nodes.map Node.ent) s.Ws (akx a :: ys.map akx) /\ ∀ b ∈ ys, ltA b a = false))
theorem qj1 {L : List Ent} {s : SS} (I : SInv s) {hs : List (Wk × Int)} (hO : qbt L s.Ws hs) : hs.length <= 24 := by
 have hsub : ∀ p ∈ hs, p.1 ∈ s.Ws := fun p hp => (qak (hO.hd p hp).1).1
 have hnn : (hs.map fun p => p.1.num).Nodup := by
  have hnd := hO.nd
  rw [List.nodup_iff_pairwise_ne, List.pairwise_map] at hnd ⊢
  exact hnd.imp_of_mem (fun {a b} ha hb hne e => hne (by rw [qew I.wks.nums (hsub _ ha) (hsub _ hb) e]))
 have := qdg hnn (l' := s.Ws.map (·.num)) (fun x hx => by
  obtain ⟨y, hy, rfl⟩ := List.mem_map.1 hx
  exact List.mem_map.2 ⟨y.1, hsub y hy, rfl⟩)
 have h2 := I.wks.wks.len
 simp at this
 omega
theorem GD.pop (h : GD nodes rr bt r lst w D FS vw0 va0 ev0 ws0 as0 fin k A v ys vw va ev ws as_ s) (hO : qbt (nodes.map Node.ent) s.Ws (ys.map akx)) :
  Calls Tryz.prog 179 #[.pointer (some ⟨w.heap.size + 1, 0, none⟩)] A fun e A' => ∃ hp hi sb, e = .returned (.tuple #[.agg #[.pointer hp, .int .i64 hi], .bool sb]) /\ H1 nodes rr bt r lst w D FS vw0 va0 ev0 ws0 as0 fin (2 * k + ys.length) hp hi sb A' := by
 have hl := qj1 h.inv hO
 simp at hl
 refine (qwg qip h.hp (by omega) h.heap (h.ld.befq h.out h.mem)).mono ?_
 rintro e A' (⟨h0, rfl, hb⟩ | ⟨a, v', zs, h1, rfl, h2, h3, h4, h5, h6⟩)
 ·subst h0
  refine ⟨_, _, _, rfl, k, v, [], vw, va, ev, ws, as_, s, h.below hb, .inl ⟨rfl, ?_⟩⟩
  rw [h.it]
  exact qb9 (hO.ends h.inv) k
 ·have hmin := h.heap.min qip h1 (by cases hx : ltA a a with | false => rfl | true => have := qip.asymm _ _ hx; rw [hx] at this; exact this)
  have hlen := h2.length_eq
  simp at hlen
  refine ⟨_, _, _, rfl, k, v', zs, vw, va, ev, ws, as_, s, h.ql6 h4 h3 (fun p hp => h.mem p (h2.mem_iff.1 (List.mem_cons_of_mem _ hp))) h5 (.inl h6), .inr ⟨rfl, by omega, a, rfl, rfl, h.mem a (h2.mem_iff.1 (List.mem_cons_self ..)), ?_, fun b hb => ?_⟩⟩
  ·exact hO.perm (h2.symm.map akx)
  ·obtain ⟨j, hj⟩ := List.getElem?_of_mem (h2.mem_iff.1 (List.mem_cons_of_mem a hb))
   exact hmin j b hj
theorem GD.mark (h : GD nodes rr bt r lst w D FS vw0 va0 ev0 ws0 as0 fin k A v ys vw va ev ws as_ s) (hb : Below A.heap.size A A') {vs : Array Value} (hf : Blk A' A.heap.size 226 vs) : GD nodes rr bt r lst w D [(A.heap.size, vs)] vw0 va0 ev0 ws0 as0 fin k A' v ys vw va ev ws as_ s := by
 have h2 := h.below hb
 refine ⟨h2.hp, h2.heap, h2.mem, h2.ld, h2.rel, h2.inv, h2.it, h2.ms, h2.bd, h2.st, h2.out, h2.low, h2.sub, h2.b1, h2.b3, h2.d, fun x hx => ?_⟩
 simp at hx
 subst hx
 exact ⟨hf, fun e => by have := qal h.hp.row e; simp at this, by have := h.hp.at_.lt; simp; omega⟩
theorem GD.fblk {F : Nat} {vs : Array Value} (h : GD nodes rr bt r lst w D [(F, vs)] vw0 va0 ev0 ws0 as0 fin k A v ys vw va ev ws as_ s) : Blk A F 226 vs := (h.fs (F, vs) (by simp)).1
theorem GD.setF {F : Nat} {vs : Array Value} (h : GD nodes rr bt r lst w D [(F, vs)] vw0 va0 ev0 ws0 as0 fin k A v ys vw va ev ws as_ s) {vs' : Array Value} (hk : Keep (fun b => b = F) A A') (hf : Blk A' F 226 vs') (hwF : w.heap.size <= F) : GD nodes rr bt r lst w D [(F, vs')] vw0 va0 ev0 ws0 as0 fin k A' v ys vw va ev ws as_ s := by
 obtain ⟨f1, f2, f3⟩ := h.fs (F, vs) (by simp)
 simp only at f1 f2 f3
 have hout : qdh nodes rr bt vw va ev ws as_ (fun b => b = F) := by
  refine ⟨fun n hn => ⟨?_, ?_⟩, ?_, ?_, ?_, ?_, ?_, ?_⟩
  ·exact qax (show Blk A n.blk 136 n.cells from (h.ld.ins n hn).at_) f1 (by decide)
  ·rintro g hg rfl; exact qag (h.ld.ins n hn).row f1 (by decide) hg
  ·exact qax h.ld.ld.rnd.at_ f1 (by decide)
  ·exact qax h.ld.ld.bk.at_ f1 (by decide)
  ·rintro b hb rfl; exact qag h.ld.ld.bk.wrow f1 (by decide) hb
  ·rintro b hb rfl; exact qag h.ld.ld.bk.arow f1 (by decide) hb
  ·rintro b hb rfl; exact qag h.ld.ld.rnd.row f1 (by decide) hb
  ·intro p hp; exact qax (h.ld.ld.bk.works p hp) f1 (by decide)
 refine ⟨h.hp.keep hk (fun e => f3 e.symm) (fun b hb e => f2 (by rw [<- e]; exact hb)), h.heap, h.mem, h.ld.keep hk hout, h.rel, h.inv, h.it, h.ms, h.bd, ⟨h.st.keep.qbo hk (fun b hb e => by omega), h.st.new⟩, h.out, h.low, h.sub, h.b1.keep hk (qax h.b1 f1 (by decide)), h.b3.keep hk (qax h.b3 f1 (by decide)), qfy hk h.d (fun b e => ⟨vs, 226, (0, 0), by subst e; exact f1⟩), fun x hx => ?_⟩
 simp at hx
 subst hx
 exact ⟨hf, f2, f3⟩
theorem H1.setF {F : Nat} {vs vs' : Array Value} {q : Nat} {hp : Option Addr} {hi : Int} {sb : Bool} (h : H1 nodes rr bt r lst w D [(F, vs)] vw0 va0 ev0 ws0 as0 fin q hp hi sb A) (hk : Keep (fun b => b = F) A A') (hf : Blk A' F 226 vs') (hwF : w.heap.size <= F) : H1 nodes rr bt r lst w D [(F, vs')] vw0 va0 ev0 ws0 as0 fin q hp hi sb A' := by
 obtain ⟨k, v1, ys1, vw1, va1, ev1, ws1, as1, s1, hC, hcase⟩ := h
 exact ⟨k, v1, ys1, vw1, va1, ev1, ws1, as1, s1, hC.setF hk hf hwF, hcase⟩
theorem H1.blk {F : Nat} {vs : Array Value} {q : Nat} {hp : Option Addr} {hi : Int} {sb : Bool} (h : H1 nodes rr bt r lst w D [(F, vs)] vw0 va0 ev0 ws0 as0 fin q hp hi sb A) : Blk A F 226 vs := by
 obtain ⟨k, v1, ys1, vw1, va1, ev1, ws1, as1, s1, hC, hcase⟩ := h
 exact (hC.fs (F, vs) (by simp)).1
theorem GD.popN (h : GD nodes rr bt r lst w D FS vw0 va0 ev0 ws0 as0 fin k A v ys vw va ev ws as_ s) (hO : qbt (nodes.map Node.ent) s.Ws (ys.map akx)) (vs : Array Value) :
  Calls Tryz.prog 179 #[.pointer (some ⟨w.heap.size + 1, 0, none⟩)] (A.alloc (.cells vs 226)) fun e A' => ∃ hp hi sb, e = .returned (.tuple #[.agg #[.pointer hp, .int .i64 hi], .bool sb]) /\ H1 nodes rr bt r lst w D [(A.heap.size, vs)] vw0 va0 ev0 ws0 as0 fin (2 * k + ys.length) hp hi sb A' :=
 (h.mark ((Below.refl _ _).alloc (Nat.le_refl _) _) (Blk.new A 226 vs)).pop hO
end
theorem Tree.qwm {nodes : List Node} (T : Tree nodes) : qrm (nodes.map Node.ent) := by
 obtain ⟨r, h0, h1, h2, h3, h4⟩ := T.root
 exact ⟨r.ent, List.mem_map.2 ⟨r, List.mem_of_getElem? h0, rfl⟩, h1, h3, h4⟩
section
variable {nodes : List Node} {Ws : List Wk} {ws as_ : List Pw}
theorem Rel.qto (R : Rel nodes Ws ws as_) (T : Tree nodes) (hB : qa7 nodes) {l : List Node} (hl : l.Perm nodes) : ((qap ws l).map (·.x.key)).Nodup := by
 have hk : (l.map (·.key)).Nodup := (hl.map _).nodup_iff.2 T.nodup
 have hsub : ((qap ws l).map (·.x.key)).Sublist (l.map (·.key)) := by
  have hln : ∀ n ∈ l, n ∈ nodes := fun n h => hl.mem_iff.1 h
  clear hk hl
  induction l with
  | nil => exact List.Sublist.slnil
  | cons n l ih =>
   have ih' := ih (fun m hm => hln m (List.mem_cons_of_mem _ hm))
   have e : qap ws (n :: l) = (qbl ws n.blk).toList ++ qap ws l := by
    unfold qap
    cases h : qbl ws n.blk <;> simp [List.filterMap_cons, h]
   rw [e]
   cases h : qbl ws n.blk with
   | none => simpa using ih'.cons n.key
   | some p =>
    have := (R.qcu T hB (hln n (List.mem_cons_self ..)) h).2
    simp only [Option.toList_some, List.singleton_append, List.map_cons]
    rw [this]
    exact ih'.cons_cons _
 exact hsub.nodup hk
theorem Rel.qqk (R : Rel nodes Ws ws as_) (T : Tree nodes) (hB : qa7 nodes) {l : List Node} (hl : l.Perm nodes) {y : Wk} (h1 : qa0 Ws y.key = some y) : ∃ p ∈ qap ws l, p.x = y := by
 obtain ⟨g1, g2, _⟩ := qak h1
 have hm : y ∈ ws.map (·.x) := by rw [R.w]; exact List.mem_filter.2 ⟨g1, by simp [g2]⟩
 obtain ⟨p0, hp0, he0⟩ := List.mem_map.1 hm
 obtain ⟨n, hn, _, hnk⟩ := R.leaf p0 (List.mem_append_left _ hp0)
 rw [he0] at hnk
 have hh := R.head T hB hn
 rw [hnk, h1] at hh
 cases hq : qbl ws n.blk with
 | none => unfold qbl at hq; rw [hq] at hh; cases hh
 | some p =>
  have hq' := hq
  unfold qbl at hq
  rw [hq] at hh
  refine ⟨p, ?_, by simpa using hh⟩
  unfold qap
  exact List.mem_filterMap.2 ⟨n, hl.mem_iff.2 hn, hq'⟩
theorem Rel.qwf (R : Rel nodes Ws ws as_) (T : Tree nodes) (hB : qa7 nodes) {st : Int} (hS : WkS Ws st) {l : List Node} (hl : l.Perm nodes) {ys : List Ak} (hys : ys.Perm ((qap ws l).map fun p => ⟨p, qc0 nodes as_ p.x⟩)) : qbt (nodes.map Node.ent) Ws (ys.map akx) := by
 have hsh : ∀ x ∈ Ws, qc0 nodes as_ x = shp (nodes.map Node.ent) Ws x := fun x hx => R.share T hS.wks (hS.wks.ok x hx).1
 have hhd : ∀ p ∈ qap ws l, qa0 Ws p.x.key = some p.x := fun p hp => by
  unfold qap at hp
  obtain ⟨n, hn, h3⟩ := List.mem_filterMap.1 hp
  obtain ⟨g1, g2⟩ := R.qcu T hB (hl.mem_iff.1 hn) h3
  rw [g2]; exact g1
 refine ⟨?_, fun q hq => ?_, fun y h1 h2 => ?_⟩
 ·have h1 := R.qto T hB hl
  have h2 : ((ys.map akx).map fun p => p.1.key).Perm ((qap ws l).map (·.x.key)) := by
   rw [List.map_map]
   have := hys.map (fun a : Ak => a.p.x.key)
   rw [List.map_map] at this
   exact this
  exact h2.nodup_iff.2 h1
 ·obtain ⟨a, ha, rfl⟩ := List.mem_map.1 hq
  obtain ⟨p, hp, rfl⟩ := List.mem_map.1 (hys.mem_iff.1 ha)
  have h3 := hhd p hp
  exact ⟨h3, hsh p.x (qak h3).1⟩
 ·obtain ⟨p, hp, rfl⟩ := R.qqk T hB hl h1
  refine List.mem_map.2 ⟨⟨p, qc0 nodes as_ p.x⟩, hys.mem_iff.2 (List.mem_map.2 ⟨p, hp, rfl⟩), ?_⟩
  show (p.x, qc0 nodes as_ p.x) = _
  rw [hsh p.x (qak h1).1]
end
section
variable {nodes : List Node} {rr bt : Nat} {r : Node} {lst : Value} {w : World} {D : Nat} {FS : List (Nat × Array Value)} {vw0 va0 ev0 : Value} {ws0 as0 : List Pw} {fin : SS} {k : Nat} {A A' : World} {v : Value} {ys : List Ak} {vw va ev : Value} {ws as_ : List Pw} {s : SS}
theorem GD.fits (T0 : Tree nodes) (hB : qa7 nodes) (h : GD nodes rr bt r lst w D FS vw0 va0 ev0 ws0 as0 fin k A v ys vw va ev ws as_ s) {p : Pw} (hp : p ∈ ws ++ as_) :
  Calls Tryz.prog 180 #[.pointer (some ⟨rr, 0, none⟩), .pointer (some ⟨p.blk, 0, none⟩)] A fun e A' => e = .returned (.bool (qbm (nodes.map Node.ent) s.Ws p.x)) /\ Below A.heap.size A A' := by
 obtain ⟨n, hn, hnq, hnk⟩ := h.ld.lf p hp
 have := qrc T0 hB h.ld.rd (h.ld.pin hp) hn hnq
 rw [h.rel.fits T0 h.inv.wks.wks hn hnk] at this
 exact this
theorem GD.qw4 (T0 : Tree nodes) (h : GD nodes rr bt r lst w D FS vw0 va0 ev0 ws0 as0 fin k A v ys vw va ev ws as_ s) {a : Ak} (ha : a.p ∈ ws ++ as_) (hO : qbt (nodes.map Node.ent) s.Ws (akx a :: ys.map akx)) (hf : qbm (nodes.map Node.ent) s.Ws a.p.x = true) (hmin : ∀ b ∈ ys, ltA b a = false) :
  ∃ (s' : SS) (i : Nat), ws[i]? = some a.p /\ s'.evs = s.evs ++ [(1, a.p.x.num)] /\ Rel nodes s'.Ws (ws.take i ++ ws.drop (i + 1)) (as_ ++ [a.p]) /\ SInv s' /\ qbt (nodes.map Node.ent) s'.Ws (qb5 (nodes.map Node.ent) s'.Ws a.p.x.key ++ ys.map akx) /\
  ∃ k', k = k' + 1 /\ fin = iterS (qas (nodes.map Node.ent)) k' s' /\ qcm s'.Ws <= k' /\ s'.evs.length + k' <= 2000 := by
 obtain ⟨b, d1, d2, d3, d4⟩ := qbt.does (x := a.p.x) (sx := a.s) T0.ents T0.qwm hO h.inv hf (fun q hq => by
  obtain ⟨c, hc, rfl⟩ := List.mem_map.1 hq
  exact hmin c hc)
 obtain ⟨i1, i2, i3, i4, i5⟩ := h.inv.idle d3
 have hhd := (hO.hd _ (List.mem_cons_self ..)).1
 obtain ⟨i, hi⟩ := h.rel.idx h.inv.wks ha hhd
 have hms := h.ms
 have hbd := h.bd
 obtain ⟨k', rfl⟩ : ∃ k', k = k' + 1 := ⟨k - 1, by omega⟩
 exact ⟨qds b a.p.x s, i, hi, rfl, h.rel.admit h.inv.wks h.inv.st0 hi d1 d2 rfl, i1, d4, k', rfl, by rw [h.it]; exact qfb d3 k', by omega, by omega⟩
theorem GD.qs0 (T0 : Tree nodes) (hB : qa7 nodes) (h : GD nodes rr bt r lst w D FS vw0 va0 ev0 ws0 as0 fin k A v ys vw va ev ws as_ s) {n : Node} (hn : n ∈ nodes) {p : Pw} (hp : qbl ws n.blk = some p) (hO : qbt (nodes.map Node.ent) s.Ws (qb5 (nodes.map Node.ent) s.Ws n.key ++ ys.map akx)) :
  Calls Tryz.prog 177 #[.pointer (some ⟨w.heap.size + 1, 0, none⟩), akv ⟨p, qc0 nodes as_ p.x⟩] A fun e A' => e = .returned (.tuple #[]) /\ ∃ v' zs, zs.length = ys.length + 1 /\ GD nodes rr bt r lst w D FS vw0 va0 ev0 ws0 as0 fin k A' v' zs vw va ev ws as_ s /\ qbt (nodes.map Node.ent) s.Ws (zs.map akx) := by
 have hl := qj1 h.inv hO
 simp at hl
 obtain ⟨h1, h2⟩ := h.rel.qcu T0 hB hn hp
 have hpm : p ∈ ws ++ as_ := List.mem_append_left _ (qeu hp)
 refine (qrz qip h.hp (by omega) h.heap ⟨p, qc0 nodes as_ p.x⟩ (h.ld.befq h.out (fun q hq => by
  rcases List.mem_append.1 hq with e | e
  ·exact h.mem q e
  ·simp at e; subst e; exact hpm))).mono ?_
 rintro e A' ⟨he, v', zs, y1, y2, y3, y4, y5⟩
 refine ⟨he, v', zs, by have := y1.length_eq; simpa using this, h.ql6 y3 y2 (fun q hq => ?_) y4 y5, ?_⟩
 ·rcases List.mem_append.1 (y1.mem_iff.1 hq) with e | e
  ·exact h.mem q e
  ·simp at e; subst e; exact hpm
 ·refine hO.perm ?_
  have hm : qb5 (nodes.map Node.ent) s.Ws n.key = [akx ⟨p, qc0 nodes as_ p.x⟩] := by
   unfold qb5
   rw [h1]
   simp only
   rw [<- h.rel.share T0 h.inv.wks.wks (h.inv.wks.wks.ok p.x (qak h1).1).1]
   rfl
  rw [hm]
  have := y1.map akx
  rw [List.map_append] at this
  exact List.perm_append_comm.trans this.symm
theorem GD.qwj (T0 : Tree nodes) (hB : qa7 nodes) (h : GD nodes rr bt r lst w D FS vw0 va0 ev0 ws0 as0 fin k A v ys vw va ev ws as_ s) {n : Node} (hn : n ∈ nodes) (hp : qbl ws n.blk = none) (hO : qbt (nodes.map Node.ent) s.Ws (qb5 (nodes.map Node.ent) s.Ws n.key ++ ys.map akx)) : qbt (nodes.map Node.ent) s.Ws (ys.map akx) := by
 have hh := h.rel.head T0 hB hn
 unfold qbl at hp
 rw [hp] at hh
 have hm : qb5 (nodes.map Node.ent) s.Ws n.key = [] := by
  unfold qb5
  rw [<- hh]; rfl
 rw [hm] at hO
 exact hO
end
attribute [local go_sem] Oper.semAt_some
section
variable {w : World} {nodes : List Node} {rr bt : Nat} {r : Node} {lst vw va ev : Value} {ws as_ : List Pw} {evs : List (Int × Int)}
set_option maxRecDepth 100000 in
set_option maxHeartbeats 2000000 in
theorem quk (f : Value) (hf : ∃ a b c, f = .func a b c) (w : World) : Calls Tryz.prog 167 #[f] w fun e w' => e = .returned (.pointer (some ⟨w.heap.size, 0, none⟩)) /\ w' = w.alloc (.cells #[f, .slice none 0 0] 247) := by
 obtain ⟨a, b, c, rfl⟩ := hf
 go_enter Tryz.func167, Tryz.ntmps167
 go_wp2_with fail
 go_ret
 exact ⟨rfl, rfl⟩
theorem LdAt.outD (h : LdAt w nodes rr bt r lst vw va ev ws as_ evs) {D : Nat} {x : Option (List Deferred)} (hD : w.heap[D]? = some (.deferred x)) : qdh nodes rr bt vw va ev ws as_ (fun b => b = D) := by
 have key : ∀ b, isCells w b -> b ≠ D := fun b ⟨vs, t, f, hb⟩ e => by subst e; rw [hD] at hb; cases hb
 exact ⟨fun n hn => ⟨key _ ⟨_, _, _, (h.ins n hn).at_⟩, fun g hg => key _ (qcl (h.ins n hn).row hg)⟩, key _ ⟨_, _, _, h.ld.rnd.at_⟩, key _ ⟨_, _, _, h.ld.bk.at_⟩, fun b hb => key _ (qcl h.ld.bk.wrow hb), fun b hb => key _ (qcl h.ld.bk.arow hb), fun b hb => key _ (qcl h.ld.rnd.row hb), fun p hp => key _ ⟨_, _, _, h.ld.bk.works p hp⟩⟩
theorem qjf (ws : List Pw) (l : List Node) : (qap ws l).length <= l.length := by
 unfold qap; exact List.length_filterMap_le ..
theorem qgc (T0 : Tree nodes) {ch : Node -> List Node} (K0 : Kids nodes ch) (hr : r ∈ nodes) (hrk : r.key = []) : (dfs ch 4 r).Perm nodes := by
 have := qgl T0 K0 T0.nd hr
 rw [hrk] at this
 refine this.trans (List.Perm.of_eq ?_)
 rw [List.filter_eq_self]
 intro m _
 rfl
set_option maxRecDepth 100000 in
set_option maxHeartbeats 2000000 in
theorem ql0 (T0 : Tree nodes) (hB : qa7 nodes) {ch : Node -> List Node} (K0 : Kids nodes ch) (h : LdAt w nodes rr bt r lst vw va ev ws as_ evs) (hr : r ∈ nodes) (hrk : r.key = []) {s0 : SS} (R : Rel nodes s0.Ws ws as_) (I : SInv s0) (hev : s0.evs = evs) (hlen : evs.length <= 100) :
  Calls Tryz.prog 130 #[.pointer (some ⟨rr, 0, none⟩)] w fun e w' => e = .returned (.tuple #[]) /\ ∃ vw' va' ev' ws' as', LdAt w' nodes rr bt r lst vw' va' ev' ws' as' (qa2 (nodes.map Node.ent) s0).evs /\ Rel nodes (qa2 (nodes.map Node.ent) s0).Ws ws' as' /\ qbu rr bt w w' vw va ev vw' va' ev' /\ (∀ p ∈ ws' ++ as', p ∈ ws ++ as_) := by
 generalize hfin : qa2 (nodes.map Node.ent) s0 = fin
 have HFIN : Hid (qa2 (nodes.map Node.ent) s0 = fin) := hfin
 clear hfin
 have hdd : ∀ k : Nat, Fence.wide.depth.isSome = true -> 1 <= k := fun k h => by simp [Fence.wide] at h
 have hnh := quk (.func (.func 168) #[] #[]) ⟨_, _, _, rfl⟩
 refine (callsIn_wide (n := 3)).1 ?_
 refine callsIn_of_wp_marks Tryz.func130 rfl trivial ?_ rfl
 simp only [Tryz.ntmps130, List.size_toArray, List.length_cons, List.length_nil, Nat.reduceAdd, Nat.reduceSub, Array.replicate_succ, Array.replicate_zero, List.push_toArray, List.append_toArray, List.nil_append, List.cons_append]
 have hhds := fun W (hW : Below w.heap.size w W) => qlb T0 K0 (h.below hW).rw_ hr
 unfold nptr at hhds
 obtain ⟨W0, hW0⟩ : ∃ W0, W0 = ((w.alloc (.cells #[.pointer (some ⟨rr, 0, none⟩)] 186)).alloc (.cells #[.func (.func 168) #[] #[], .slice none 0 0] 247)).alloc (.cells #[.pointer (some ⟨w.heap.size + 1, 0, none⟩)] 216) := ⟨_, rfl⟩
 have hB0 : Below w.heap.size w W0 := by rw [hW0]; exact bel2
 have hs0 : W0.heap.size = w.heap.size + 3 := by rw [hW0]; simp
 have x1 : Box W0 w.heap.size 186 (.pointer (some ⟨rr, 0, none⟩)) := by rw [hW0]; exact ((Box.new w 186 _).alloc _).alloc _
 have hH0 : HpAt W0 (w.heap.size + 1) (.func (.func 168) #[] #[]) (.slice none 0 0) [] := by
  refine ⟨?_, ⟨rfl, .inl ⟨rfl, rfl⟩⟩, by simp [Value.ownBlock]⟩
  have := (Blk.new (w.alloc (.cells #[.pointer (some ⟨rr, 0, none⟩)] 186)) 247 #[.func (.func 168) #[] #[], .slice none 0 0]).alloc (.cells #[.pointer (some ⟨w.heap.size + 1, 0, none⟩)] 216)
  rw [World.size_alloc] at this; rw [hW0]; exact this
 have x3 : Box W0 (w.heap.size + 1 + 1) 216 (.pointer (some ⟨w.heap.size + 1, 0, none⟩)) := by
  have := Box.new ((w.alloc (.cells #[.pointer (some ⟨rr, 0, none⟩)] 186)).alloc (.cells #[.func (.func 168) #[] #[], .slice none 0 0] 247)) 216 (.pointer (some ⟨w.heap.size + 1, 0, none⟩))
  rw [World.size_alloc, World.size_alloc] at this; rw [hW0]; exact this
 have c1 := x1.cell
 rw [hW0] at c1
 gi_wp2_with (first
  | ((first | refine ⟨trivial, hdd _, ?_⟩ | refine ⟨trivial, ?_⟩); gi_at_call 167; refine (callsIn_wide.2 (hnh _)).mono ?_; rintro e W3 ⟨rfl, rfl⟩)
  | ((first | refine ⟨trivial, hdd _, ?_⟩ | refine ⟨trivial, ?_⟩); gi_at_call 169; refine (callsIn_wide.2 (hhds _ (by exact bel1))).mono ?_; rintro e W3 ⟨rfl, rfl, hseq⟩))
 obtain ⟨W, hW⟩ : ∃ W, W = W0.alloc (.cells #[.pointer (some ⟨rr, 0, none⟩)] 186) := ⟨_, rfl⟩
 have hsz : W.heap.size = w.heap.size + 4 := by rw [hW]; simp [hs0]
 have hB1 : Below W0.heap.size W0 W := by rw [hW]; exact bel2
 have hbw : Below w.heap.size w W := qac hB0 hB1
 have z1 := x1.below hB1 x1.lt
 have z3 := x3.below hB1 x3.lt
 have hH1 := hH0.below hB1
 simp only [World.size_alloc] at hseq
 simp only [<- hW0, <- hW] at hseq ⊢
 have hq := hseq (fun b => b = w.heap.size + 1) (fun b e => by omega) (h.lt (fun b e => by omega)).rw_
 have hxl : (qap ws (dfs ch 4 r)).length <= 20 := Nat.le_trans (qjf ws (dfs ch 4 r)) (qoe T0 K0 hr)
 have hxm : ∀ p ∈ qap ws (dfs ch 4 r), p ∈ ws ++ as_ := fun p hp => List.mem_append_left _ (qjl hp)
 have hprm := qgc T0 K0 hr hrk
 generalize dfs ch 4 r = DX at hq hxl hxm hprm
 have hown : ∀ ys : List Pw, ys.Perm ((qap ws DX).filter fun p => ownP nodes as_ p.x) -> qb2 (nodes.map Node.ent) s0.Ws (ys.map (·.x)) := fun ys hys => R.qxe T0 hB I.wks hprm hys
 generalize qap ws DX = X at hq hxl hxm hown
 clear hseq hhds hW hW0 c1 x1 x3 hH0 hnh
 have hno : ∀ b, b < W.heap.size -> ¬ (False \/ (W.heap.size <= b /\ b < W.heap.size + 2 + 4)) := fun b hb e => by rcases e with e | e; exact e; omega
 refine qgs (T := fun b => b = w.heap.size + 1) (S := fun _ => False) rfl (enters_of Tryz.func206 (by kernel_rfl) rfl) hq (Below.refl _ _) (fun _ => rfl) (fun b e => e.elim) (fun b e => by omega)
  (fun (pre : List Pw) A => (∃ v ys, HpAt A (w.heap.size + 1) (.func (.func 168) #[] #[]) v ys /\ qbp ltP ys /\ ys.Perm (pre.filter fun p => ownP nodes as_ p.x) /\ (∀ b, v.ownBlock = some b -> W.heap.size + 2 + 4 <= b)) /\ Box A w.heap.size 186 (.pointer (some ⟨rr, 0, none⟩)) /\ Box A (w.heap.size + 1 + 1) 216 (.pointer (some ⟨w.heap.size + 1, 0, none⟩)) /\ Below w.heap.size w A)
  (fun c (pre : List Pw) A => False)
  (fun pre A B hs hk => by
   obtain ⟨⟨v, ys, g1, g2, g3, g4⟩, g5, g6, g7⟩ := hs
   exact ⟨⟨v, ys, g1.keep hk (hno _ (by omega)) (fun b hb e => by have := g4 b hb; rcases e with e | e; exact e; omega), g2, g3, g4⟩, g5.keep hk (hno _ (by omega)), g6.keep hk (hno _ (by omega)), g7.trans (hk.toBelow g7.size (fun b hb' => hno b (by omega)))⟩)
  (fun c pre A B hs hk => hs)
  ⟨⟨_, [], hH1, fun j a b hj ha => by simp at ha, by simp, by simp [Value.ownBlock]⟩, z1, z3, hbw⟩
  (fun x => { tmps := #[.pointer (some ⟨rr, 0, none⟩), .pointer (some ⟨w.heap.size, 0, none⟩), .pointer (some ⟨w.heap.size + 1 + 1, 0, none⟩), .pointer (some ⟨x.blk, 0, none⟩), undef, undef, .pointer (some ⟨w.heap.size + 1, 0, none⟩), .pointer (some ⟨rr, 0, none⟩), .func (.func 206) #[] #[.pointer (some ⟨w.heap.size + 1 + 1 + 1, 0, none⟩)], .pointer (some ⟨x.blk, 0, none⟩), undef, undef, undef, undef, undef, undef, undef, undef, undef, undef, undef, undef, undef, undef, undef, undef, undef, undef, undef, undef, undef, undef, undef, undef, undef, undef, undef, undef, undef, undef, undef, undef, undef], defers := [] }) ?assign ?body ?done ?stop
 case assign =>
  intro l x W K hK
  gi_wp2
  exact hK
 case stop =>
  rintro c pre A hpre hx hD
  exact hx.elim
 case body =>
  rintro l2 pre x W2 ⟨⟨v, ys, g1, g2, g3, g4⟩, g5, g6, g7⟩ hszW hpre
  have hA2 := h.below g7
  have hyl : ys.length <= 50 := by
   have := g3.length_eq
   have h1 := List.length_filter_le (fun p => ownP nodes as_ p.x) pre
   have h2 := hpre.length_le
   simp at h2
   omega
  have hpu := qhb T0 hB hA2 g1 g2 hyl (fun p hp => hxm p (hpre.subset (List.mem_append_left _ (List.mem_filter.1 (g3.mem_iff.1 hp)).1))) (h.lt (fun b e => by
   rcases e with e | e
   ·omega
   ·have := g4 b e; omega)) (some x) (fun p e => by cases e; exact hxm x (hpre.subset (by simp)))
  have c1 := g5.cell
  have c2 := g6.cell
  have HY : Hid (ys.Perm (pre.filter fun p => ownP nodes as_ p.x)) := g3
  have HM : Hid (ownMore nodes as_ (some x) = [x].filter fun p => ownP nodes as_ p.x) := by
   show ownMore nodes as_ (some x) = _
   unfold ownMore
   cases hx : ownP nodes as_ x.x <;> simp [hx]
  clear g3 hq hown
  simp only [optP] at hpu
  unfold nptr at hpu
  gi_wp2_with ((first | refine ⟨trivial, hdd _, ?_⟩ | refine ⟨trivial, ?_⟩); gi_at_call 170; refine (CallsIn.inRound l2 (callsIn_wide.2 hpu)).mono ?_; rintro e W5 ⟨rfl, v', zs, y1, y2, y3, y4, y5⟩)
  refine ⟨y4.mono (fun b e => ?_), ⟨v', zs, y3, y2, ?_, fun b hb => ?_⟩, g5.keep y4 (fun e => ?_), g6.keep y4 (fun e => ?_), g7.trans (y4.toBelow g7.size (fun b hb e => ?_))⟩
  ·rcases e with e | e
   ·exact .inl e
   ·exact .inr (g4 b e)
  ·rw [List.filter_append, <- HM.out]
   exact y1.trans (HY.out.append_right _)
  ·rcases y5 with e | ⟨g, e1, e2⟩
   ·rw [e] at hb; exact g4 b hb
   ·rw [e1] at hb; cases hb; omega
  ·rcases e with e | e
   ·omega
   ·have := g4 _ e; omega
  ·rcases e with e | e
   ·omega
   ·have := g4 _ e; omega
  ·rcases e with e | e
   ·omega
   ·have := g4 _ e; omega
 case done =>
  rintro A ⟨⟨v, ys, g1, g2, g3, g4⟩, g5, g6, g7⟩ hD
  have hO := hown ys g3
  have hyl : ys.length <= 20 := by
   have := g3.length_eq
   have h1 := List.length_filter_le (fun p => ownP nodes as_ p.x) X
   omega
  have hym : ∀ p ∈ ys, p ∈ ws ++ as_ := fun p hp => hxm p (List.mem_filter.1 (g3.mem_iff.1 hp)).1
  have hA := h.below g7
  have ho := h.lt (T := fun y => y = w.heap.size + 1 \/ v.ownBlock = some y) (fun b e => by
   rcases e with e | e
   ·omega
   ·have := g4 b e; omega)
  have c1 := g5.cell
  have c2 := g6.cell
  have hGC : GC nodes rr bt r lst w W.heap.size vw va ev ws as_ fin s0.Ws.length A v ys vw va ev ws as_ s0 := ⟨g1, g2, hym, by rw [hev]; exact hA, R, I, HFIN.out.symm, qq8 _ _, by have := I.wks.wks.len; rw [hev]; omega, (qbu.refl _ _ _ _ _ _).below g7, ho, fun b hb => by have := g4 b hb; omega, fun _ e => e, g5, g6, hD⟩
  have hpop := hGC.pop T0 hO
  generalize hk0 : s0.Ws.length = k0 at hpop
  clear hown hxm hq g3 HFIN hk0 hGC hO g1 g2 g4 hA ho hyl hym R I hev z1 z3 hH1 hbw hD
  gi_wp2_with ((first | refine ⟨trivial, hdd _, ?_⟩ | refine ⟨trivial, ?_⟩); gi_at_call 171; refine (callsIn_wide.2 hpop).mono ?_; rintro e A1 ⟨hv, sv, rfl, hG⟩)
  gi_loopg [4, 5] k0 (fun q hv sv wr => ∃ k, k <= q /\ G1 nodes rr bt r lst w W.heap.size vw va ev ws as_ fin k hv sv wr)
  case atStart => exact ⟨k0, Nat.le_refl _, hG⟩
  case round =>
   clear hG
   obtain ⟨k, hkq, v1, ys1, vw1, va1, ev1, ws1, as1, s1, hC, hcase⟩ := hrel
   rcases hcase with ⟨rfl, rfl, hfs⟩ | ⟨rfl, a, rfl, ham, hO, hmin⟩
   ·have HFS : Hid (fin = s1) := hfs
    clear hfs
    gi_wp2_with fail
    have hd := hC.d
    rw [hsz] at hd
    refine ⟨by simp, .inl ⟨_, _, rfl, run_takeDeferred hd, ?_⟩⟩
    have hkD : Keep (fun b => b = w.heap.size + 4) wr (wr.putObj (w.heap.size + 4) (.deferred none)) := (Keep.refl (fun b => b = w.heap.size + 4) _).putObj rfl _
    refine ⟨.tuple #[], by simp [results, Tryz.results130, go_sem], rfl, vw1, va1, ev1, ws1, as1, ?_, ?_, ⟨hC.st.keep.qbo hkD (fun b hb e => by omega), hC.st.new⟩, hC.sub⟩
    ·rw [HFS.out]; exact hC.ld.keep hkD (hC.ld.outD hd)
    ·rw [HFS.out]; exact hC.rel
   ·obtain ⟨r1, r2, r3, r4, r5, r6, k', rfl, r7, r8, r9⟩ := hC.owned ham hO hmin
    obtain ⟨n, hn, hnq, hnk⟩ := hC.ld.lf a ham
    have hroom := qqm T0 hB hC.ld ham hn hnq hnk hC.rel r1 r2
    have c1 := hC.b1.cell
    unfold nptr at hroom
    clear c2 hmin hO
    gi_upto_region 10 with (first
     | ((first | refine ⟨trivial, hdd _, ?_⟩ | refine ⟨trivial, ?_⟩); gi_at_call 172; refine (callsIn_wide.2 hroom).mono ?_; rintro e w1 ⟨rfl, vw2, va2, ev2, ws2, as2, m1, m2, m3, m4, m5⟩; clear hroom; obtain ⟨i, hi, hR2⟩ := r4 _ _ m2 (m5 ham); have hadm := m1.admit r3 hi; have c3 := (hC.b1.keep m3.keep (hC.ld.qdy hC.b1 (by decide) (by decide) (by decide) (by decide))).cell; unfold nptr at hadm)
     | ((first | refine ⟨trivial, hdd _, ?_⟩ | refine ⟨trivial, ?_⟩); gi_at_call 173; refine (callsIn_wide.2 hadm).mono ?_; rintro e w2 ⟨rfl, vw3, va3, ev3, n1, n2⟩; clear hadm))
    have hm1 : ∀ p ∈ (ws2.take i ++ ws2.drop (i + 1)) ++ (as2 ++ [a]), p ∈ ws2 ++ as2 := fun p hp => by
     rcases List.mem_append.1 hp with h1 | h1
     ·exact List.mem_append_left _ (qbb h1)
     ·rcases List.mem_append.1 h1 with h1 | h1
      ·exact List.mem_append_right _ h1
      ·simp at h1; subst h1; exact List.mem_append_left _ (List.mem_of_getElem? hi)
    have hm2 : ∀ p ∈ ws2 ++ as2, p ∈ (ws2.take i ++ ws2.drop (i + 1)) ++ (as2 ++ [a]) := fun p hp => by
     rcases List.mem_append.1 hp with h1 | h1
     ·rcases List.mem_cons.1 ((qb0 hi).mem_iff.1 h1) with rfl | h1
      ·simp
      ·exact List.mem_append_left _ h1
     ·exact List.mem_append_right _ (List.mem_append_left _ h1)
    have hC2 : GC nodes rr bt r lst w W.heap.size vw va ev ws as_ fin k' w2 v1 ys1 vw3 va3 ev3 (ws2.take i ++ ws2.drop (i + 1)) (as2 ++ [a]) (qcs (nodes.map Node.ent) a.x s1) := hC.qng n1 (m3.trans n2) (fun p hp => m4 (hm1 p hp)) (fun p hp => hm2 p (m5 hp)) hR2 r5 r7 r8 r9
    generalize ws2.take i ++ ws2.drop (i + 1) = ws3 at hC2 hm2
    generalize as2 ++ [a] = as3 at hC2 hm2
    have hhead : ∀ W', Below w2.heap.size w2 W' -> Calls Tryz.prog 174 #[.pointer (some ⟨bt, 1, none⟩), .pointer (some ⟨a.q, 0, none⟩)] W' fun e w' => e = .returned (optP (qbl ws3 n.blk)) /\ Below W'.heap.size W' w' := fun W' hW' => by
     have := (hC2.below hW').ld.rw_.head hn
     rw [show a.q = n.blk from hnq.symm]; exact this
    have r6' : qb2 (nodes.map Node.ent) (qcs (nodes.map Node.ent) a.x s1).Ws (moreOwn (nodes.map Node.ent) (qcs (nodes.map Node.ent) a.x s1).Ws n.key ++ ys1.map (·.x)) := by rw [hnk]; exact r6
    have hpush : ∀ W', Below w2.heap.size w2 W' -> Calls Tryz.prog 170 #[.pointer (some ⟨rr, 0, none⟩), .pointer (some ⟨w.heap.size + 1, 0, none⟩), optP (qbl ws3 n.blk)] W' fun e A' => e = .returned (.tuple #[]) /\ ∃ v' zs, GC nodes rr bt r lst w W.heap.size vw va ev ws as_ fin k' A' v' zs vw3 va3 ev3 ws3 as3 (qcs (nodes.map Node.ent) a.x s1) /\ qb2 (nodes.map Node.ent) (qcs (nodes.map Node.ent) a.x s1).Ws (zs.map (·.x)) := fun W' hW' => (hC2.below hW').qs0 T0 hB hn r6'
    have ham3 : a ∈ ws3 ++ as3 := hm2 a (m5 ham)
    have hcl : ∀ (W' : World) (v' : Value) (zs : List Pw), GC nodes rr bt r lst w W.heap.size vw va ev ws as_ fin k' W' v' zs vw3 va3 ev3 ws3 as3 (qcs (nodes.map Node.ent) a.x s1) -> W'.cell? ⟨w.heap.size, 0, none⟩ = some (.pointer (some ⟨rr, 0, none⟩)) /\ W'.cell? ⟨w.heap.size + 1 + 1, 0, none⟩ = some (.pointer (some ⟨w.heap.size + 1, 0, none⟩)) /\ W'.cell? ⟨rr, 1, none⟩ = some (.pointer (some ⟨bt, 1, none⟩)) /\ W'.cell? ⟨a.blk, 1, none⟩ = some (.pointer (some ⟨a.q, 0, none⟩)) := fun W' v' zs hg => ⟨hg.b1.cell, hg.b3.cell, hg.ld.cells.2.1, (hg.ld.pin ham3).cells.2.1⟩
    obtain ⟨e1, e2, e3, e4⟩ := hcl _ _ _ hC2
    have hb2 : ∀ W', Below w2.heap.size w2 W' -> _ := fun W' hW' => hcl _ _ _ (hC2.below hW')
    generalize optP (qbl ws3 n.blk) = ov at hhead hpush
    have hpop2 := fun (W' : World) (v' : Value) (zs : List Pw) (hg : GC nodes rr bt r lst w W.heap.size vw va ev ws as_ fin k' W' v' zs vw3 va3 ev3 ws3 as3 (qcs (nodes.map Node.ent) a.x s1)) ho => hg.pop T0 ho
    have HK : Hid (k' + 1 <= _) := hkq
    clear hC m1 m2 m3 m4 m5 n1 n2 hR2 r4 r5 r6 r6' r7 r8 r9 hi hm2 hkq c1 c3
    refine wpIn_wide.2 ?_
    go_region_held3 (fun w' => w'.cell? ⟨w.heap.size, 0, none⟩ = some (.pointer (some ⟨rr, 0, none⟩)) /\ w'.cell? ⟨w.heap.size + 1 + 1, 0, none⟩ = some (.pointer (some ⟨w.heap.size + 1, 0, none⟩)) /\ w'.cell? ⟨rr, 1, none⟩ = some (.pointer (some ⟨bt, 1, none⟩)) /\ w'.cell? ⟨a.blk, 1, none⟩ = some (.pointer (some ⟨a.q, 0, none⟩))) (go_keep)
     (first
     | (go_at_call 174; refine (hhead _ ?_).mono ?_; (focus exact bel2); rintro e w3 ⟨rfl, hb3⟩; have hB3 : Below w2.heap.size w2 w3 := qac (by exact bel2) hb3; obtain ⟨f1, f2, f3, f4⟩ := hb2 _ hB3)
     | (go_at_call 170; refine (hpush _ ?_).mono ?_; (focus exact bel2); rintro e w4 ⟨rfl, v4, zs4, hC4, hO4⟩; obtain ⟨g1, g2, g3, g4⟩ := hcl _ _ _ hC4))
    have hp4 := hpop2 _ _ _ hC4 hO4
    clear hpush hhead hpop2 hb2 hcl hC2
    gi_wp2_with ((first | refine ⟨trivial, hdd _, ?_⟩ | refine ⟨trivial, ?_⟩); gi_at_call 171; refine (callsIn_wide.2 hp4).mono ?_; rintro e A5 ⟨hv5, sv5, rfl, hG5⟩)
    gi_roundg k'
    case measure => have := HK.out; omega
    case rel => exact ⟨k', Nat.le_refl _, hG5⟩
end
end Go.Proofs.YtphclnolomgjoaaGreatDoor
