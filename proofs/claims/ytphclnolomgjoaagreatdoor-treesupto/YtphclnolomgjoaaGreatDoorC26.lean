import Derived.Test.YtphclnolomgjoaaGreatDoorC25
import Derived.Test.YtphclnolomgjoaaGreatDoorC06
import Derived.Test.YtphclnolomgjoaaGreatDoorC24
set_option linter.unusedVariables false
set_option linter.unusedSimpArgs false
namespace Go.Proofs.YtphclnolomgjoaaGreatDoor
open Go.RowKit
section
variable {nodes : List Node} {Ws : List Wk} {ws as_ : List Pw}
theorem qk0 (Ws : List Wk) (h : ∀ x ∈ Ws, 0 <= x.st) : (Ws.filter (fun x => x.st == 0) ++ Ws.filter (fun x => decide (0 < x.st))).Perm Ws := by
 have h1 := List.filter_append_perm (fun x : Wk => x.st == 0) Ws
 refine List.Perm.trans (List.Perm.append_left _ (List.Perm.of_eq (List.filter_congr fun x hx => ?_))) h1
 have := h x hx
 by_cases e : x.st = 0
 ·simp [e]
 ·rw [beq_eq_false_iff_ne.2 e, decide_eq_true (by omega)]; rfl
theorem Rel.nums (R : Rel nodes Ws ws as_) (h : ∀ x ∈ Ws, 0 <= x.st) : ((ws ++ as_).map (·.x.num)).Perm (Ws.map (·.num)) := by
 obtain ⟨az, h1, h2, _⟩ := R.a
 have e1 : (ws ++ as_).map (·.x.num) = (ws.map (·.x)).map (·.num) ++ (as_.map (·.x)).map (·.num) := by rw [List.map_append, List.map_map, List.map_map]; rfl
 have e2 : (az.map (·.adm 0)).map (·.num) = az.map (·.num) := by rw [List.map_map]; rfl
 rw [e1, h1, e2, R.w]
 have := (qk0 Ws h).map (·.num)
 rw [List.map_append] at this
 exact List.Perm.trans (List.Perm.append_left _ (h2.map _)) this
theorem Rel.uniq (R : Rel nodes Ws ws as_) {st : Int} (hS : WkS Ws st) {p q : Pw} (hp : p ∈ ws ++ as_) (hq : q ∈ ws ++ as_) (e : p.x.num = q.x.num) : p = q := by
 have hnd : ((ws ++ as_).map (·.x.num)).Nodup := (R.nums (fun x hx => (hS.st x hx).1)).nodup_iff.2 hS.nums
 obtain ⟨i, hi⟩ := List.getElem?_of_mem hp
 obtain ⟨j, hj⟩ := List.getElem?_of_mem hq
 have : i = j := qhj (f := fun p : Pw => p.x.num) hnd hi hj e
 subst this
 rw [hi] at hj
 injection hj
theorem Rel.idx (R : Rel nodes Ws ws as_) {st : Int} (hS : WkS Ws st) {a : Pw} (ha : a ∈ ws ++ as_) (hh : qa0 Ws a.x.key = some a.x) : ∃ i : Nat, ws[i]? = some a := by
 obtain ⟨h1, h2, _⟩ := qak hh
 have hm : a.x ∈ ws.map (·.x) := by rw [R.w]; exact List.mem_filter.2 ⟨h1, by simp [h2]⟩
 obtain ⟨p, hp, he⟩ := List.mem_map.1 hm
 have : p = a := R.uniq hS (List.mem_append_left _ hp) ha (by rw [he])
 subst this
 exact List.getElem?_of_mem hp
theorem qeu {b : Nat} {p : Pw} (h : qbl ws b = some p) : p ∈ ws := List.mem_of_find?_eq_some h
theorem qjl {l : List Node} {p : Pw} (h : p ∈ qap ws l) : p ∈ ws := by
 obtain ⟨n, _, hn⟩ := List.mem_filterMap.1 h
 exact qeu hn
theorem Rel.qcu (R : Rel nodes Ws ws as_) (T : Tree nodes) (hB : qa7 nodes) {n : Node} (hn : n ∈ nodes) {p : Pw} (h : qbl ws n.blk = some p) : qa0 Ws n.key = some p.x /\ p.x.key = n.key := by
 have := R.head T hB hn
 unfold qbl at h
 rw [h] at this
 have h1 : qa0 Ws n.key = some p.x := this.symm
 exact ⟨h1, (qak h1).2.2⟩
theorem Rel.more (R : Rel nodes Ws ws as_) (T : Tree nodes) (hB : qa7 nodes) (hW : Wks Ws) {n : Node} (hn : n ∈ nodes) : (ownMore nodes as_ (qbl ws n.blk)).map (·.x) = moreOwn (nodes.map Node.ent) Ws n.key := by
 have hh := R.head T hB hn
 unfold moreOwn ownMore
 cases hp : qbl ws n.blk with
 | none =>
  unfold qbl at hp
  rw [hp] at hh
  rw [<- hh]; rfl
 | some p =>
  obtain ⟨h1, h2⟩ := R.qcu T hB hn hp
  rw [h1]
  simp only
  rw [R.own T hW (by rw [h2]; exact (T.ok n hn).1)]
  split <;> rfl
theorem Rel.qxe (R : Rel nodes Ws ws as_) (T : Tree nodes) (hB : qa7 nodes) {st : Int} (hS : WkS Ws st) {l : List Node} (hl : l.Perm nodes) {ys : List Pw} (hys : ys.Perm ((qap ws l).filter fun p => ownP nodes as_ p.x)) : qb2 (nodes.map Node.ent) Ws (ys.map (·.x)) := by
 have hmem : ∀ p, p ∈ qap ws l ↔ ∃ n ∈ nodes, qbl ws n.blk = some p := fun p => by
  unfold qap
  rw [List.mem_filterMap]
  constructor
  ·rintro ⟨n, h1, h2⟩; exact ⟨n, hl.mem_iff.1 h1, h2⟩
  ·rintro ⟨n, h1, h2⟩; exact ⟨n, hl.mem_iff.2 h1, h2⟩
 have hnd : ((qap ws l).map (·.x.key)).Nodup := by
  have hk : (l.map (·.key)).Nodup := (hl.map _).nodup_iff.2 T.nodup
  have hsub : ((qap ws l).map (·.x.key)).Sublist (l.map (·.key)) := by
   have hln : ∀ n ∈ l, n ∈ nodes := fun n h => hl.mem_iff.1 h
   clear hmem hys hk hl
   induction l with
   | nil => exact List.Sublist.slnil
   | cons n l ih =>
    have ih' := ih (fun m hm => hln m (List.mem_cons_of_mem _ hm))
    have e : qap ws (n :: l) = (qbl ws n.blk).toList ++ qap ws l := by
     unfold qap
     cases h : qbl ws n.blk <;> simp [List.filterMap_cons, h]
    rw [e]
    cases h : qbl ws n.blk with
    | none => simpa using ih'.cons n.key
    | some p =>
     have := (R.qcu T hB (hln n (List.mem_cons_self ..)) h).2
     simp only [Option.toList_some, List.singleton_append, List.map_cons]
     rw [this]
     exact ih'.cons_cons _
  exact hsub.nodup hk
 refine ⟨?_, fun y => ?_⟩
 ·have h1 : ((ys.map (·.x)).map (·.key)).Nodup := by
   rw [List.map_map]
   refine ((hys.map _).nodup_iff).2 ?_
   exact hnd.sublist ((List.filter_sublist ..).map _)
  exact qcc h1
 ·rw [List.mem_map]
  constructor
  ·rintro ⟨p, hp, rfl⟩
   obtain ⟨h1, h2⟩ := List.mem_filter.1 (hys.mem_iff.1 hp)
   obtain ⟨n, hn, h3⟩ := (hmem p).1 h1
   obtain ⟨g1, g2⟩ := R.qcu T hB hn h3
   rw [R.own T hS.wks (by rw [g2]; exact (T.ok n hn).1)] at h2
   exact ⟨by rw [g2]; exact g1, h2⟩
  ·rintro ⟨h1, h2⟩
   obtain ⟨g1, g2, _⟩ := qak h1
   have hm : y ∈ ws.map (·.x) := by rw [R.w]; exact List.mem_filter.2 ⟨g1, by simp [g2]⟩
   obtain ⟨p0, hp0, he0⟩ := List.mem_map.1 hm
   obtain ⟨n, hn, _, hnk⟩ := R.leaf p0 (List.mem_append_left _ hp0)
   rw [he0] at hnk
   have hh := R.head T hB hn
   rw [hnk, h1] at hh
   cases hq : qbl ws n.blk with
   | none => unfold qbl at hq; rw [hq] at hh; cases hh
   | some p =>
    unfold qbl at hq
    rw [hq] at hh
    have hx : p.x = y := by simpa using hh
    refine ⟨p, hys.mem_iff.2 (List.mem_filter.2 ⟨(hmem p).2 ⟨n, hn, hq⟩, ?_⟩), hx⟩
    rw [hx, R.own T hS.wks (hS.wks.ok y g1).1]
    exact h2
end
theorem qdh.ldt {nodes : List Node} {rr bt : Nat} {vw va ev : Value} {ws as_ : List Pw} {T : Nat -> Prop} (h : qdh nodes rr bt vw va ev ws as_ T) {b : Nat} (hb : T b) : ¬ LdT rr bt vw va ev b := by
 rintro (e | (e | e | e) | e)
 ·subst e; exact h.rr hb
 ·subst e; exact h.bt hb
 ·exact h.vw b e hb
 ·exact h.va b e hb
 ·exact h.ev b e hb
theorem qdh.step {nodes : List Node} {rr bt : Nat} {w w' : World} {vw va ev vw' va' ev' : Value} {ws as_ ws' as' : List Pw} {T : Nat -> Prop} (h : qdh nodes rr bt vw va ev ws as_ T) (hs : qbu rr bt w w' vw va ev vw' va' ev') (hT : ∀ b, T b -> b < w.heap.size) (hm : ∀ p ∈ ws' ++ as', p ∈ ws ++ as_) : qdh nodes rr bt vw' va' ev' ws' as' T := by
 have key : ∀ b, vw'.ownBlock = some b \/ va'.ownBlock = some b \/ ev'.ownBlock = some b -> ¬ T b := fun b e hb => by
  rcases hs.new.all b e with e | e | e | e
  ·exact h.vw b e hb
  ·exact h.va b e hb
  ·exact h.ev b e hb
  ·have := hT b hb; omega
 exact ⟨h.ns, h.rr, h.bt, fun b hb => key b (.inl hb), fun b hb => key b (.inr (.inl hb)), fun b hb => key b (.inr (.inr hb)), fun p hp => h.ws p (hm p hp)⟩
end Go.Proofs.YtphclnolomgjoaaGreatDoor
namespace Go.Proofs.YtphclnolomgjoaaGreatDoor
open Go.RowKit Go.Shelf
def isCells (W : World) (b : Nat) : Prop := ∃ vs t f, W.heap[b]? = some (.cells vs t f)
theorem qcl {W : World} {e : TypeId} {size n : Nat} {v : Value} {xs : List Value} (h : W.ownsRow 0 e size v n xs) {b : Nat} (hb : v.ownBlock = some b) : isCells W b := by
 rcases h.2 with ⟨rfl, _⟩ | ⟨g, cap, cur, rfl, _, hg, _⟩
 ·cases hb
 ·simp [Value.ownBlock] at hb; subst hb; exact ⟨_, _, _, hg⟩
theorem qfy {T : Nat -> Prop} {A A' : World} (hk : Keep T A A') {D : Nat} {x : Option (List Deferred)} (hD : A.heap[D]? = some (.deferred x)) (hT : ∀ b, T b -> isCells A b) : A'.heap[D]? = some (.deferred x) := by
 refine (hk.block D (Array.getElem?_eq_some_iff.1 hD).1 (fun e => ?_)).trans hD
 obtain ⟨vs, t, f, h⟩ := hT D e
 rw [hD] at h
 cases h
theorem HpAt.isC {W : World} {hb : Nat} {f v : Value} {ys : List Pw} (h : HpAt W hb f v ys) : ∀ b, (b = hb \/ v.ownBlock = some b) -> isCells W b := fun b e => by
 rcases e with rfl | e
 ·exact ⟨_, _, _, h.at_⟩
 ·exact qcl h.row e
theorem HpAt.qdy {W : World} {hb : Nat} {f v : Value} {ys : List Pw} (h : HpAt W hb f v ys) {b : Nat} {t : TypeId} {vs : Array Value} (hx : Blk W b t vs) (h1 : t ≠ 247) (h2 : t ≠ 95) : ¬ (b = hb \/ v.ownBlock = some b) := by
 rintro (e | e)
 ·exact qax hx h.at_ h1 e
 ·exact qag h.row hx (fun e => h2 e.symm) e
section
variable {W : World} {nodes : List Node} {rr bt : Nat} {r : Node} {lst vw va ev : Value} {ws as_ : List Pw} {evs : List (Int × Int)}
theorem LdAt.isC (h : LdAt W nodes rr bt r lst vw va ev ws as_ evs) : ∀ b, LdT rr bt vw va ev b -> isCells W b := fun b e => by
 rcases e with rfl | (rfl | e | e) | e
 ·exact ⟨_, _, _, h.ld.rnd.at_⟩
 ·exact ⟨_, _, _, h.ld.bk.at_⟩
 ·exact qcl h.ld.bk.wrow e
 ·exact qcl h.ld.bk.arow e
 ·exact qcl h.ld.rnd.row e
theorem LdAt.qdy (h : LdAt W nodes rr bt r lst vw va ev ws as_ evs) {b : Nat} {t : TypeId} {vs : Array Value} (hx : Blk W b t vs) (h1 : t ≠ 188) (h2 : t ≠ 102) (h3 : t ≠ 95) (h4 : t ≠ 60) : ¬ LdT rr bt vw va ev b := by
 rintro (e | (e | e | e) | e)
 ·exact qax hx h.ld.rnd.at_ h1 e
 ·exact qax hx h.ld.bk.at_ h2 e
 ·exact qag h.ld.bk.wrow hx (fun e => h3 e.symm) e
 ·exact qag h.ld.bk.arow hx (fun e => h3 e.symm) e
 ·exact qag h.ld.rnd.row hx (fun e => h4 e.symm) e
end
structure GC (nodes : List Node) (rr bt : Nat) (r : Node) (lst : Value) (w : World) (D : Nat) (vw0 va0 ev0 : Value) (ws0 as0 : List Pw) (fin : SS) (k : Nat) (A : World) (v : Value) (ys : List Pw) (vw va ev : Value) (ws as_ : List Pw) (s : SS) : Prop where
 hp : HpAt A (w.heap.size + 1) (.func (.func 168) #[] #[]) v ys
 heap : qbp ltP ys
 mem : ∀ p ∈ ys, p ∈ ws ++ as_
 ld : LdAt A nodes rr bt r lst vw va ev ws as_ s.evs
 rel : Rel nodes s.Ws ws as_
 inv : SInv s
 it : fin = iterS (ownStep (nodes.map Node.ent)) k s
 ms : mOwn (nodes.map Node.ent) s.Ws <= k
 bd : s.evs.length + 25 * k <= 1000
 st : qbu rr bt w A vw0 va0 ev0 vw va ev
 out : qdh nodes rr bt vw va ev ws as_ (fun y => y = w.heap.size + 1 \/ v.ownBlock = some y)
 low : ∀ b, v.ownBlock = some b -> w.heap.size <= b
 sub : ∀ p ∈ ws ++ as_, p ∈ ws0 ++ as0
 b1 : Box A w.heap.size 186 (.pointer (some ⟨rr, 0, none⟩))
 b3 : Box A (w.heap.size + 1 + 1) 216 (.pointer (some ⟨w.heap.size + 1, 0, none⟩))
 d : A.heap[D]? = some (.deferred (some []))
section
variable {nodes : List Node} {rr bt : Nat} {r : Node} {lst : Value} {w : World} {D : Nat} {vw0 va0 ev0 : Value} {ws0 as0 : List Pw} {fin : SS} {k : Nat} {A A' : World} {v : Value} {ys : List Pw} {vw va ev : Value} {ws as_ : List Pw} {s : SS}
theorem GC.below (h : GC nodes rr bt r lst w D vw0 va0 ev0 ws0 as0 fin k A v ys vw va ev ws as_ s) (hb : Below A.heap.size A A') : GC nodes rr bt r lst w D vw0 va0 ev0 ws0 as0 fin k A' v ys vw va ev ws as_ s :=
 ⟨h.hp.below hb, h.heap, h.mem, h.ld.below hb, h.rel, h.inv, h.it, h.ms, h.bd, h.st.below hb, h.out, h.low, h.sub, h.b1.below hb h.b1.lt, h.b3.below hb h.b3.lt, (hb.block D (Array.getElem?_eq_some_iff.1 h.d).1).trans h.d⟩
theorem GC.ql6 (h : GC nodes rr bt r lst w D vw0 va0 ev0 ws0 as0 fin k A v ys vw va ev ws as_ s) {v' : Value} {zs : List Pw} (hp : HpAt A' (w.heap.size + 1) (.func (.func 168) #[] #[]) v' zs) (hh : qbp ltP zs) (hm : ∀ p ∈ zs, p ∈ ws ++ as_) (hk : Keep (fun y => y = w.heap.size + 1 \/ v.ownBlock = some y) A A') (hn : v'.ownBlock = v.ownBlock \/ ∃ g, v'.ownBlock = some g /\ A.heap.size <= g) : GC nodes rr bt r lst w D vw0 va0 ev0 ws0 as0 fin k A' v' zs vw va ev ws as_ s := by
 have hlow : ∀ b, (b = w.heap.size + 1 \/ v.ownBlock = some b) -> w.heap.size <= b := fun b e => e.elim (fun e => by omega) (h.low b)
 have hws := h.st.keep.size
 refine ⟨hp, hh, hm, h.ld.keep hk h.out, h.rel, h.inv, h.it, h.ms, h.bd, ⟨h.st.keep.qbo hk (fun b hb e => by have := hlow b e; omega), h.st.new⟩, ?_, ?_, h.sub, h.b1.keep hk (h.hp.qdy h.b1 (by decide) (by decide)), h.b3.keep hk (h.hp.qdy h.b3 (by decide) (by decide)), qfy hk h.d h.hp.isC⟩
 ·rcases hn with e | ⟨g, e, hg⟩
  ·rw [e]; exact h.out
  ·have h1 := h.out.mono (T' := fun y => y = w.heap.size + 1) (fun b e => .inl e)
   have h2 := h.ld.lt (T := fun y => v'.ownBlock = some y) (fun b e' => by rw [e] at e'; cases e'; exact hg)
   exact h1.or h2
 ·intro b hb
  rcases hn with e | ⟨g, e, hg⟩
  ·rw [e] at hb; exact h.low b hb
  ·rw [e] at hb; cases hb; omega
theorem GC.qng (h : GC nodes rr bt r lst w D vw0 va0 ev0 ws0 as0 fin k A v ys vw va ev ws as_ s) {k' : Nat} {s' : SS} {vw' va' ev' : Value} {ws' as' : List Pw} (hl : LdAt A' nodes rr bt r lst vw' va' ev' ws' as' s'.evs) (hst : qbu rr bt A A' vw va ev vw' va' ev') (hm1 : ∀ p ∈ ws' ++ as', p ∈ ws ++ as_) (hm2 : ∀ p ∈ ws ++ as_, p ∈ ws' ++ as') (hr : Rel nodes s'.Ws ws' as') (hi : SInv s') (hit : fin = iterS (ownStep (nodes.map Node.ent)) k' s') (hms : mOwn (nodes.map Node.ent) s'.Ws <= k') (hbd : s'.evs.length + 25 * k' <= 1000) : GC nodes rr bt r lst w D vw0 va0 ev0 ws0 as0 fin k' A' v ys vw' va' ev' ws' as' s' := by
 have hk := hst.keep
 have hltA : ∀ b, (b = w.heap.size + 1 \/ v.ownBlock = some b) -> b < A.heap.size := fun b e => e.elim (fun e => by have := h.hp.at_.lt; omega) (fun e => qal h.hp.row e)
 refine ⟨h.hp.keep hk (h.out.ldt (.inl rfl)) (fun b hb => h.out.ldt (.inr hb)), h.heap, fun p hp => hm2 p (h.mem p hp), hl, hr, hi, hit, hms, hbd, h.st.trans hst, h.out.step hst hltA hm1, h.low, fun p hp => h.sub p (hm1 p hp), h.b1.keep hk (h.ld.qdy h.b1 (by decide) (by decide) (by decide) (by decide)), h.b3.keep hk (h.ld.qdy h.b3 (by decide) (by decide) (by decide) (by decide)), qfy hk h.d h.ld.isC⟩
def G1 (nodes : List Node) (rr bt : Nat) (r : Node) (lst : Value) (w : World) (D : Nat) (vw0 va0 ev0 : Value) (ws0 as0 : List Pw) (fin : SS) (k : Nat) (hv sv : Value) (A : World) : Prop :=
 ∃ v ys vw va ev ws as_ s, GC nodes rr bt r lst w D vw0 va0 ev0 ws0 as0 fin k A v ys vw va ev ws as_ s /\
  ((sv = .bool false /\ hv = .pointer none /\ fin = s) \/ (sv = .bool true /\ ∃ a, hv = .pointer (some ⟨a.blk, 0, none⟩) /\ a ∈ ws ++ as_ /\ qb2 (nodes.map Node.ent) s.Ws (a.x :: ys.map (·.x)) /\ ∀ b ∈ ys, ltP b a = false))
theorem GC.len (h : GC nodes rr bt r lst w D vw0 va0 ev0 ws0 as0 fin k A v ys vw va ev ws as_ s) (hO : qb2 (nodes.map Node.ent) s.Ws (ys.map (·.x))) : ys.length <= 24 := by
 have h1 : (ys.map (·.x)).length <= s.Ws.length := by
  have hsub : ∀ y ∈ ys.map (·.x), y ∈ s.Ws := fun y hy => (qak ((hO.all y).1 hy).1).1
  have hnd := hO.nd
  have hnn : ((ys.map (·.x)).map (·.num)).Nodup := by
   rw [List.nodup_iff_pairwise_ne, List.pairwise_map]
   rw [List.nodup_iff_pairwise_ne] at hnd
   exact hnd.imp_of_mem (fun ha hb hne e => hne (qew h.inv.wks.nums (hsub _ ha) (hsub _ hb) e))
  have := qdg hnn (l' := s.Ws.map (·.num)) (fun x hx => by
   obtain ⟨y, hy, rfl⟩ := List.mem_map.1 hx
   exact List.mem_map.2 ⟨y, hsub y hy, rfl⟩)
  simpa using this
 have h2 := h.inv.wks.wks.len
 simp at h1
 omega
theorem GC.pop (T0 : Tree nodes) (h : GC nodes rr bt r lst w D vw0 va0 ev0 ws0 as0 fin k A v ys vw va ev ws as_ s) (hO : qb2 (nodes.map Node.ent) s.Ws (ys.map (·.x))) :
  Calls Tryz.prog 171 #[.pointer (some ⟨w.heap.size + 1, 0, none⟩)] A fun e A' => ∃ hv sv, e = .returned (.tuple #[hv, sv]) /\ G1 nodes rr bt r lst w D vw0 va0 ev0 ws0 as0 fin k hv sv A' := by
 have hl := h.len hO
 refine (qv8 qnp h.hp (by omega) h.heap (h.ld.befs T0 h.out h.mem)).mono ?_
 rintro e A' (⟨h0, rfl, rfl⟩ | ⟨a, v', zs, h1, rfl, h2, h3, h4, h5, h6⟩)
 ·subst h0
  refine ⟨_, _, rfl, v, [], vw, va, ev, ws, as_, s, h, .inl ⟨rfl, rfl, ?_⟩⟩
  rw [h.it]
  exact qb9 (hO.ends h.inv) k
 ·have hmin := h.heap.min qnp h1 (qb8 _)
  refine ⟨_, _, rfl, v', zs, vw, va, ev, ws, as_, s, h.ql6 h4 h3 (fun p hp => h.mem p (h2.mem_iff.1 (List.mem_cons_of_mem _ hp))) h5 (.inl h6), .inr ⟨rfl, a, rfl, h.mem a (h2.mem_iff.1 (List.mem_cons_self ..)), ?_, fun b hb => ?_⟩⟩
  ·exact hO.perm (h2.symm.map (·.x))
  ·obtain ⟨j, hj⟩ := List.getElem?_of_mem (h2.mem_iff.1 (List.mem_cons_of_mem a hb))
   exact hmin j b hj
end
theorem qr1 {L : List Ent} {s : SS} (I : SInv s) {hs : List Wk} (hO : qb2 L s.Ws hs) : hs.length <= 24 := by
 have h1 : hs.length <= s.Ws.length := by
  have hsub : ∀ y ∈ hs, y ∈ s.Ws := fun y hy => (qak ((hO.all y).1 hy).1).1
  have hnd := hO.nd
  have hnn : (hs.map (·.num)).Nodup := by
   rw [List.nodup_iff_pairwise_ne, List.pairwise_map]
   rw [List.nodup_iff_pairwise_ne] at hnd
   exact hnd.imp_of_mem (fun ha hb hne e => hne (qew I.wks.nums (hsub _ ha) (hsub _ hb) e))
  have := qdg hnn (l' := s.Ws.map (·.num)) (fun x hx => by
   obtain ⟨y, hy, rfl⟩ := List.mem_map.1 hx
   exact List.mem_map.2 ⟨y, hsub y hy, rfl⟩)
  simpa using this
 have h2 := I.wks.wks.len
 omega
section
variable {nodes : List Node} {rr bt : Nat} {r : Node} {lst : Value} {w : World} {D : Nat} {vw0 va0 ev0 : Value} {ws0 as0 : List Pw} {fin : SS} {k : Nat} {A A' : World} {v : Value} {ys : List Pw} {vw va ev : Value} {ws as_ : List Pw} {s : SS}
theorem GC.owned (h : GC nodes rr bt r lst w D vw0 va0 ev0 ws0 as0 fin k A v ys vw va ev ws as_ s) {a : Pw} (ha : a ∈ ws ++ as_) (hO : qb2 (nodes.map Node.ent) s.Ws (a.x :: ys.map (·.x))) (hmin : ∀ b ∈ ys, ltP b a = false) :
  RInv (nodes.map Node.ent) a.x s.st s.Ws /\ s.evs.length + admN s.Ws <= 10000 /\ (room (nodes.map Node.ent) a.x (admN s.Ws) ⟨s.Ws, s.evs⟩).evs.length <= 10000 /\
  (∀ ws1 as1, Rel nodes (room (nodes.map Node.ent) a.x (admN s.Ws) ⟨s.Ws, s.evs⟩).Ws ws1 as1 -> a ∈ ws1 ++ as1 -> ∃ i : Nat, ws1[i]? = some a /\ Rel nodes (qcs (nodes.map Node.ent) a.x s).Ws (ws1.take i ++ ws1.drop (i + 1)) (as1 ++ [a])) /\
  SInv (qcs (nodes.map Node.ent) a.x s) /\ qb2 (nodes.map Node.ent) (qcs (nodes.map Node.ent) a.x s).Ws (moreOwn (nodes.map Node.ent) (qcs (nodes.map Node.ent) a.x s).Ws a.x.key ++ ys.map (·.x)) /\
  ∃ k', k = k' + 1 /\ fin = iterS (ownStep (nodes.map Node.ent)) k' (qcs (nodes.map Node.ent) a.x s) /\ mOwn (nodes.map Node.ent) (qcs (nodes.map Node.ent) a.x s).Ws <= k' /\ (qcs (nodes.map Node.ent) a.x s).evs.length + 25 * k' <= 1000 := by
 obtain ⟨d1, d2, d3⟩ := hO.does h.inv (fun y hy => by
  obtain ⟨b, hb, rfl⟩ := List.mem_map.1 hy
  exact hmin b hb)
 obtain ⟨i1, i2, i3, i4, i5⟩ := h.inv.own d1
 have hadm : admN s.Ws <= 24 := Nat.le_trans (List.length_filter_le _ _) h.inv.wks.wks.len
 have hbd := h.bd
 have hms := h.ms
 obtain ⟨g1, g2, g3, g4⟩ := RInv.room (admN s.Ws) ⟨s.Ws, s.evs⟩ d2
 simp only at g3
 refine ⟨d2, by omega, by omega, fun ws1 as1 hR1 ham => ?_, i1, d3, ?_⟩
 ·obtain ⟨i, hi⟩ := hR1.idx g1.wks ham g1.head
  obtain ⟨x1, x2, _⟩ := qak g1.head
  obtain ⟨ix, hix⟩ := List.getElem?_of_mem x1
  refine ⟨i, hi, ?_⟩
  have e : (qcs (nodes.map Node.ent) a.x s).Ws = (room (nodes.map Node.ent) a.x (admN s.Ws) ⟨s.Ws, s.evs⟩).Ws.set ix (a.x.adm (s.st + 1)) := qfa g1.wks.nums hix _
  rw [e]
  exact hR1.admit g1.wks h.inv.st0 hi hix x2 rfl
 ·obtain ⟨k', rfl⟩ : ∃ k', k = k' + 1 := ⟨k - 1, by omega⟩
  exact ⟨k', rfl, by rw [h.it]; exact qfb d1 k', by omega, by omega⟩
theorem GC.qs0 (T0 : Tree nodes) (hB : qa7 nodes) (h : GC nodes rr bt r lst w D vw0 va0 ev0 ws0 as0 fin k A v ys vw va ev ws as_ s) {n : Node} (hn : n ∈ nodes) (hO : qb2 (nodes.map Node.ent) s.Ws (moreOwn (nodes.map Node.ent) s.Ws n.key ++ ys.map (·.x))) :
  Calls Tryz.prog 170 #[.pointer (some ⟨rr, 0, none⟩), .pointer (some ⟨w.heap.size + 1, 0, none⟩), optP (qbl ws n.blk)] A fun e A' => e = .returned (.tuple #[]) /\ ∃ v' zs, GC nodes rr bt r lst w D vw0 va0 ev0 ws0 as0 fin k A' v' zs vw va ev ws as_ s /\ qb2 (nodes.map Node.ent) s.Ws (zs.map (·.x)) := by
 have hl := qr1 h.inv hO
 simp at hl
 refine (qhb T0 hB h.ld h.hp h.heap (by omega) h.mem h.out (qbl ws n.blk) (fun p e => List.mem_append_left _ (qeu e))).mono ?_
 rintro e A' ⟨he, v', zs, y1, y2, y3, y4, y5⟩
 have hmem : ∀ p ∈ ownMore nodes as_ (qbl ws n.blk), p ∈ ws := fun p hp => by
  unfold ownMore at hp
  cases hh : qbl ws n.blk with
  | none => rw [hh] at hp; cases hp
  | some q =>
   rw [hh] at hp
   simp only at hp
   split at hp
   ·simp at hp; subst hp; exact qeu hh
   ·cases hp
 refine ⟨he, v', zs, h.ql6 y3 y2 (fun p hp => ?_) y4 y5, ?_⟩
 ·rcases List.mem_append.1 (y1.mem_iff.1 hp) with e | e
  ·exact h.mem p e
  ·exact List.mem_append_left _ (hmem p e)
 ·refine hO.perm ?_
  rw [<- h.rel.more T0 hB h.inv.wks.wks hn]
  have := y1.map (·.x)
  rw [List.map_append] at this
  exact List.perm_append_comm.trans this.symm
end
end Go.Proofs.YtphclnolomgjoaaGreatDoor
namespace Go.Proofs.YtphclnolomgjoaaGreatDoor
open Go.RowKit
def ltA (a b : Ak) : Bool := before (a.p.x, a.s) (b.p.x, b.s)
theorem qip : Ord ltA := ⟨fun a b h => qle _ _ h, fun a b c h1 h2 => qkr _ _ _ h1 h2⟩
set_option maxRecDepth 100000 in
set_option maxHeartbeats 2000000 in
theorem qqe {w : World} {a b : Ak} (ha : Blk w a.p.blk 105 a.p.cells) (hb : Blk w b.p.blk 105 b.p.cells) :
  Calls Tryz.prog 176 #[akv a, akv b] w fun e w' => e = .returned (.bool (ltA a b)) /\ Below w.heap.size w w' := by
 have la := ha.lt
 have lb := hb.lt
 have na : ∀ W, Below w.heap.size w W -> W.cell? ⟨a.p.blk, 0, none⟩ = some (.int .i64 a.p.x.num) := fun W hW => (ha.below hW la).cell 0
 have nb : ∀ W, Below w.heap.size w W -> W.cell? ⟨b.p.blk, 0, none⟩ = some (.int .i64 b.p.x.num) := fun W hW => (hb.below hW lb).cell 0
 obtain ⟨W0, hW0⟩ : ∃ W0, W0 = (w.alloc (.cells #[.pointer (some ⟨a.p.blk, 0, none⟩), .int .i64 a.s] 226)).alloc (.cells #[.pointer (some ⟨b.p.blk, 0, none⟩), .int .i64 b.s] 226) := ⟨_, rfl⟩
 have hB0 : Below w.heap.size w W0 := by rw [hW0]; exact bel2
 have b1 : Blk W0 w.heap.size 226 #[.pointer (some ⟨a.p.blk, 0, none⟩), .int .i64 a.s] := by rw [hW0]; exact blk2
 have b2 : Blk W0 (w.heap.size + 1) 226 #[.pointer (some ⟨b.p.blk, 0, none⟩), .int .i64 b.s] := by rw [hW0]; exact Blk.new' (by simp)
 have ka := na _ hB0
 have kb := nb _ hB0
 have x0 := b1.cell 0
 have x1 := b1.cell 1
 have y0 := b2.cell 0
 have y1 := b2.cell 1
 simp only [List.getElem?_toArray, List.getElem?_cons_zero, List.getElem?_cons_succ] at x0 x1 y0 y1
 have hlt : ltA a b = if a.s ≠ b.s then decide (a.s < b.s) else decide (a.p.x.num < b.p.x.num) := rfl
 unfold akv nptr
 go_enter Tryz.func176, Tryz.ntmps176
 rw [hW0] at ka kb x0 x1 y0 y1
 by_cases hs : a.s = b.s
 ·rw [hlt, if_neg (by simp [hs])]
  have hs2 : (a.s == b.s) = true := by simp [hs]
  clear hlt hs
  go_upto_region 3 with fail
  go_region
  all_goals go_wp2_with fail
  all_goals go_ret
  all_goals exact ⟨rfl, by exact bel2⟩
 ·rw [hlt, if_pos hs]
  have hs2 : (a.s == b.s) = false := by simp [hs]
  clear hlt
  go_wp2_with fail
  go_ret
  exact ⟨rfl, by exact bel2⟩
theorem wrap64_in {n : Int} (h0 : 0 <= n) (h1 : n <= 2000000000) : wrap64 n = n := by unfold wrap64; omega
theorem Blk.new2 (W : World) (o : Obj) (t : TypeId) (vs : Array Value) : Blk ((W.alloc o).alloc (.cells vs t)) (W.heap.size + 1) t vs := by
 have := Blk.new (W.alloc o) t vs
 rwa [World.size_alloc] at this
def qc0 (nodes : List Node) (l : List Pw) (x : Wk) : Int := max (abv (ws0 (pun l x.key) + x.d0) (pn0 nodes x.key) * max 1 (pn1 nodes [])) (abv (ws1 (pun l x.key) + x.d1) (pn1 nodes x.key) * max 1 (pn0 nodes []))
set_option maxRecDepth 100000 in
set_option maxHeartbeats 2000000 in
theorem qjh {nodes : List Node} (T : Tree nodes) (hB : qa7 nodes) {w : World} {bt rr : Nat} {va : Value} {l : List Pw} (h : Rd w nodes bt rr va l) {r : Node} (hr : r ∈ nodes) (hrk : r.key = []) (hrt : w.cell? ⟨rr, 0, none⟩ = some (nptr r.blk)) {p : Pw} (hp : PwIn w nodes p) :
  Calls Tryz.prog 178 #[.pointer (some ⟨rr, 0, none⟩), nptr p.blk] w fun e w' => e = .returned (akv ⟨p, qc0 nodes l p.x⟩) /\ Below w.heap.size w w' := by
 have hab := fun W (hW : Below w.heap.size w W) => qjr T hB (h.below hW) (hp.below hW)
 have hno := fun W (hW : Below w.heap.size w W) => qcz T hr W (h.below hW).ins
 have hrr : rr < w.heap.size := World.block_lt_of_cell? _ _ h.bk
 have hro := fun W (hW : Below w.heap.size w W) => (hW.cell (p := ⟨rr, 0, none⟩) hrr).trans hrt
 have ubd := h.ubd p.x.key
 have nbd := qna T p.x.key
 have rbd := qna T []
 have dbd := hp.num
 rw [hrk] at hno
 unfold qc0
 have abd : (0 <= abv (ws0 (pun l p.x.key) + p.x.d0) (pn0 nodes p.x.key) /\ abv (ws0 (pun l p.x.key) + p.x.d0) (pn0 nodes p.x.key) <= 100000) /\ (0 <= abv (ws1 (pun l p.x.key) + p.x.d1) (pn1 nodes p.x.key) /\ abv (ws1 (pun l p.x.key) + p.x.d1) (pn1 nodes p.x.key) <= 100000) := by unfold abv; omega
 generalize abv (ws0 (pun l p.x.key) + p.x.d0) (pn0 nodes p.x.key) = a0 at *
 generalize abv (ws1 (pun l p.x.key) + p.x.d1) (pn1 nodes p.x.key) = a1 at *
 generalize pn0 nodes [] = n0 at *
 generalize pn1 nodes [] = n1 at *
 unfold akv nptr at *
 go_enter Tryz.func178, Tryz.ntmps178
 go_upto_region 1 with fail
 obtain ⟨W0, hW0⟩ : ∃ W0, W0 = w.alloc (.cells #[.pointer none, .int .i64 0] 226) := ⟨_, rfl⟩
 have hB0 : Below w.heap.size w W0 := by rw [hW0]; exact bel2
 have b4 : Blk W0 w.heap.size 226 #[.pointer none, .int .i64 0] := by rw [hW0]; exact blk2
 have hs0 : w.heap.size + 1 <= W0.heap.size := by rw [hW0]; simp
 rw [<- hW0]
 clear hW0
 have r0 := hro _ hB0
 have n0a : ¬ (rr = W0.heap.size) := (by omega)
 have n0b : ¬ (W0.heap.size = rr) := (by omega)
 have n0c : ¬ (rr = W0.heap.size + 1) := (by omega)
 have n0d : ¬ (W0.heap.size + 1 = rr) := (by omega)
 go_cut [5, 6] from 8 to 15 (fun c5 c6 wx => ∃ b5 b6, c5 = .pointer (some ⟨b5, 0, none⟩) /\ c6 = .pointer (some ⟨b6, 0, none⟩) /\ Below W0.heap.size W0 wx /\ Blk wx b5 35 #[.int .i64 a0, .int .i64 a1] /\ Blk wx b6 35 #[.int .i64 n0, .int .i64 n1] /\ W0.heap.size <= b5 /\ W0.heap.size <= b6)
 case first =>
  go_region_held3 (fun w' => w'.cell? ⟨rr, 0, none⟩ = some (.pointer (some ⟨r.blk, 0, none⟩))) (go_keep)
   (first
   | (go_at_call 207; refine (hab _ (qac hB0 ?_)).mono ?_; (focus exact bel2); rintro e w1 ⟨rfl, hb1⟩; have hB1 : Below W0.heap.size W0 w1 := qac (by exact bel2) hb1; have r1 := hro _ (qac hB0 hB1); have hz1 := hB1.size; have n1a : ¬ (rr = w1.heap.size) := (by omega); have n1b : ¬ (w1.heap.size = rr) := (by omega); have n1pa : ¬ (rr = w1.heap.size + 1) := (by omega); have n1pb : ¬ (w1.heap.size + 1 = rr) := (by omega); (try (have d1 : Blk w1 W0.heap.size 35 #[.int .i64 0, .int .i64 0] := Blk.below (by first | (with_reducible exact Blk.new _ _ _) | (with_reducible exact Blk.drew (Blk.new _ _ _)) | (with_reducible exact Blk.alloc (Blk.new _ _ _) _) | (with_reducible exact Blk.drew (Blk.alloc (Blk.new _ _ _) _)) | (with_reducible exact Blk.new2 _ _ _ _) | (with_reducible exact Blk.drew (Blk.new2 _ _ _ _))) hb1 (by first | omega | (simp <;> omega)); have ld1 := d1.lt; have o1a : ¬ (W0.heap.size = w1.heap.size) := (by omega); have o1b : ¬ (w1.heap.size = W0.heap.size) := (by omega); have o1qa : ¬ (W0.heap.size = w1.heap.size + 1) := (by omega); have o1qb : ¬ (w1.heap.size + 1 = W0.heap.size) := (by omega))); (try (have d1' : Blk w1 (W0.heap.size + 1) 35 #[.int .i64 0, .int .i64 0] := Blk.below (by first | (with_reducible exact Blk.new _ _ _) | (with_reducible exact Blk.drew (Blk.new _ _ _)) | (with_reducible exact Blk.alloc (Blk.new _ _ _) _) | (with_reducible exact Blk.drew (Blk.alloc (Blk.new _ _ _) _)) | (with_reducible exact Blk.new2 _ _ _ _) | (with_reducible exact Blk.drew (Blk.new2 _ _ _ _))) hb1 (by first | omega | (simp <;> omega)); have ld1' := d1'.lt; have o2a : ¬ (W0.heap.size + 1 = w1.heap.size) := (by omega); have o2b : ¬ (w1.heap.size = W0.heap.size + 1) := (by omega); have o2qa : ¬ (W0.heap.size + 1 = w1.heap.size + 1) := (by omega); have o2qb : ¬ (w1.heap.size + 1 = W0.heap.size + 1) := (by omega))))
   | (go_at_call 85; refine (hno _ (qac hB0 ?_)).mono ?_; (focus exact bel2); rintro e w2 ⟨rfl, hb2⟩; have hB2 : Below W0.heap.size W0 w2 := qac (by exact bel2) hb2; have r2 := hro _ (qac hB0 hB2); have hz2 := hB2.size; have n2a : ¬ (rr = w2.heap.size) := (by omega); have n2b : ¬ (w2.heap.size = rr) := (by omega); have n2pa : ¬ (rr = w2.heap.size + 1) := (by omega); have n2pb : ¬ (w2.heap.size + 1 = rr) := (by omega); (try (have := ld1; have d2 : Blk w2 W0.heap.size 35 #[.int .i64 0, .int .i64 0] := Blk.below (by first | (with_reducible exact d1) | (with_reducible exact d1.alloc _)) hb2 (by first | omega | (simp <;> omega)); have cd2 := d2.cell; have fd2 := d2.frozen; have ld2 := d2.lt; have p1a : ¬ (W0.heap.size = w2.heap.size) := (by omega); have p1b : ¬ (w2.heap.size = W0.heap.size) := (by omega))); (try (have := ld1'; have d2' : Blk w2 (W0.heap.size + 1) 35 #[.int .i64 0, .int .i64 0] := Blk.below (by with_reducible exact d1') hb2 (by first | omega | (simp <;> omega)); have cd3 := d2'.cell; have fd3 := d2'.frozen; have ld3 := d2'.lt; have p2a : ¬ (W0.heap.size + 1 = w2.heap.size) := (by omega); have p2b : ¬ (w2.heap.size = W0.heap.size + 1) := (by omega))); (try (have g2 : Blk w2 w1.heap.size 35 #[.int .i64 0, .int .i64 0] := Blk.below (by first | (with_reducible exact Blk.new _ _ _) | (with_reducible exact Blk.drew (Blk.new _ _ _)) | (with_reducible exact Blk.alloc (Blk.new _ _ _) _) | (with_reducible exact Blk.drew (Blk.alloc (Blk.new _ _ _) _)) | (with_reducible exact Blk.new2 _ _ _ _) | (with_reducible exact Blk.drew (Blk.new2 _ _ _ _))) hb2 (by first | omega | (simp <;> omega)); have cg2 := g2.cell; have fg2 := g2.frozen; have lg2 := g2.lt; have p3a : ¬ (w1.heap.size = w2.heap.size) := (by omega); have p3b : ¬ (w2.heap.size = w1.heap.size) := (by omega))); (try (have g2' : Blk w2 (w1.heap.size + 1) 35 #[.int .i64 0, .int .i64 0] := Blk.below (by first | (with_reducible exact Blk.new _ _ _) | (with_reducible exact Blk.drew (Blk.new _ _ _)) | (with_reducible exact Blk.alloc (Blk.new _ _ _) _) | (with_reducible exact Blk.drew (Blk.alloc (Blk.new _ _ _) _)) | (with_reducible exact Blk.new2 _ _ _ _) | (with_reducible exact Blk.drew (Blk.new2 _ _ _ _))) hb2 (by first | omega | (simp <;> omega)); have cg3 := g2'.cell; have fg3 := g2'.frozen; have lg3 := g2'.lt; have p4a : ¬ (w1.heap.size + 1 = w2.heap.size) := (by omega); have p4b : ¬ (w2.heap.size = w1.heap.size + 1) := (by omega))))
   )
  all_goals go_wp2_with fail
  all_goals go_meet
  all_goals refine ⟨_, _, rfl, rfl, ?_, ?_, ?_, ?_, ?_⟩
  all_goals first
   | (with_reducible omega)
   | ((repeat (first | (with_reducible assumption) | (with_reducible refine qbk ?_ (by omega) ..) | ((with_reducible refine Below.alloc ?_ ?_ _); rotate_left; (focus (first | omega | (simp <;> omega)))))); done)
   | ((repeat (first | (with_reducible assumption) | (with_reducible exact Blk.new _ _ _) | (with_reducible exact Blk.new2 _ _ _ _) | (with_reducible exact qc4 (by assumption) ..) | (with_reducible refine Blk.alloc ?_ _) | (with_reducible refine qff ?_ (by omega) ..))); done)
   | (with_reducible exact qc4 (qff (by assumption) (by omega) ..) ..)
   | exact Blk.new' (by simp)
 case rest =>
  obtain ⟨b5, b6, rfl, rfl, hBc, c5, c6, hl5, hl6⟩ := hcut
  clear hab hno hro r0 n0a n0b n0c n0d
  have b4c := b4.below hBc b4.lt
  have x0 := c5.cell 0
  have x1 := c5.cell 1
  have y0 := c6.cell 0
  have y1 := c6.cell 1
  simp only [List.getElem?_toArray, List.getElem?_cons_zero, List.getElem?_cons_succ] at x0 x1 y0 y1
  have bx : ∀ a n : Int, 0 <= a -> a <= 100000 -> 0 <= n -> n <= 20000 -> 0 <= a * max 1 n /\ a * max 1 n <= 2000000000 := fun a n h1 h2 h3 h4 => by
   have h5 : 1 <= max 1 n := by omega
   have h6 : max 1 n <= 20000 := by omega
   generalize max 1 n = m at h5 h6
   exact ⟨Int.mul_nonneg h1 (by omega), by
    have := Int.mul_le_mul h2 h6 (by omega) (by omega)
    omega⟩
  have b1 := bx a0 n1 (by omega) (by omega) (by omega) (by omega)
  have b2 := bx a1 n0 (by omega) (by omega) (by omega) (by omega)
  clear bx
  have f4 := b4c.frozen
  have g4 := b4c.cell
  have e1 : (max 1 n1 = 1 /\ n1 <= 1) \/ (max 1 n1 = n1 /\ 1 < n1) := by omega
  have e2 : (max 1 n0 = 1 /\ n0 <= 1) \/ (max 1 n0 = n0 /\ 1 < n0) := by omega
  rcases e1 with ⟨e1, h1⟩ | ⟨e1, h1⟩ <;> rcases e2 with ⟨e2, h2⟩ | ⟨e2, h2⟩
  all_goals rw [e1] at b1
  all_goals rw [e2] at b2
  all_goals try simp only [Int.mul_one] at b1
  all_goals try simp only [Int.mul_one] at b2
  all_goals have k1 := wrap64_in b1.1 b1.2
  all_goals have k2 := wrap64_in b2.1 b2.2
  all_goals have E1 : Hid (max 1 n1 = _) := e1
  all_goals have E2 : Hid (max 1 n0 = _) := e2
  all_goals clear e1 e2
  all_goals go_wp2_with fail
  all_goals refine bodyPost_ret (v := .agg #[.pointer (some ⟨p.blk, 0, none⟩), .int .i64 (max (a0 * max 1 n1) (a1 * max 1 n0))]) ?_ rfl ⟨rfl, ?_⟩
  all_goals first
   | exact qbk (qac hB0 hBc) (Nat.le_refl _) ..
   | skip
  all_goals rw [E1.out, E2.out]
  all_goals simp [results, Tryz.results178, go_sem, g4]
  all_goals omega
end Go.Proofs.YtphclnolomgjoaaGreatDoor
