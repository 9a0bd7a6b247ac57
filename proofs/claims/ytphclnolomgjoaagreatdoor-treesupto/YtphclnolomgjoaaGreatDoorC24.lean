import Derived.Test.YtphclnolomgjoaaGreatDoorC22
import Derived.Test.YtphclnolomgjoaaGreatDoorC18
import Derived.Test.YtphclnolomgjoaaGreatDoorC06
import Derived.Test.YtphclnolomgjoaaGreatDoorC20
import Derived.Test.YtphclnolomgjoaaGreatDoorC23
import Derived.Test.YtphclnolomgjoaaGreatDoorC17
import Derived.Deep.LoopGhost
set_option linter.unusedVariables false
set_option linter.unusedSimpArgs false
namespace Go.Proofs.YtphclnolomgjoaaGreatDoor
open Go.RowKit
theorem qvf (x : Wk) (s t : Int) : (x.adm s).adm t = x.adm t := rfl
theorem qtj {x : Wk} (h : x.st = 0) : x.adm 0 = x := by cases x; simp [Wk.adm] at *; exact h.symm
theorem qqp (L : List Ent) (Ws : List Wk) (x v : Wk) : way L Ws x (v.adm 0) = way L Ws x v := rfl
def vicP (nodes : List Node) (as_ : List Pw) (x : Wk) (n : Node) : Option Pw := as_.reverse.find? fun p => (ups nodes 4 n).any (qgt nodes as_ x p.x)
theorem Rel.qv2 {nodes : List Node} {Ws : List Wk} {ws as_ : List Pw} {az : List Wk} (h : as_.map (·.x) = az.map (·.adm 0)) {i : Nat} {p : Pw} (hi : as_[i]? = some p) : ∃ v, az[i]? = some v /\ p.x = v.adm 0 := by
 have := congrArg (fun l => l[i]?) h
 simp only [List.getElem?_map, hi, Option.map_some] at this
 cases hz : az[i]? with
 | none => rw [hz] at this; cases this
 | some v => rw [hz] at this; simp at this; exact ⟨v, rfl, this⟩
theorem Rel.qwr {as_ : List Pw} {az : List Wk} (h : as_.map (·.x) = az.map (·.adm 0)) {i : Nat} {v : Wk} (hi : az[i]? = some v) : ∃ p, as_[i]? = some p /\ p.x = v.adm 0 := by
 have := congrArg (fun l => l[i]?) h
 simp only [List.getElem?_map, hi, Option.map_some] at this
 cases hz : as_[i]? with
 | none => rw [hz] at this; cases this
 | some p => rw [hz] at this; simp at this; exact ⟨p, rfl, this⟩
theorem Rel.qtk {nodes : List Node} {Ws : List Wk} {ws as_ : List Pw} (R : Rel nodes Ws ws as_) (T : Tree nodes) {st : Int} (hS : WkS Ws st) {x : Wk} {n : Node} (hn : n ∈ nodes) (hk : n.key = x.key) (h : vicP nodes as_ x n = none) : qch (nodes.map Node.ent) Ws x = none := by
 refine qji fun u hu h0 => ?_
 obtain ⟨az, h1, h2, _⟩ := R.a
 have hu0 : 0 < u.st := by have := (hS.st u hu).1; omega
 have hua : u ∈ az := h2.mem_iff.2 (List.mem_filter.2 ⟨hu, by simp [hu0]⟩)
 obtain ⟨j, hj⟩ := List.getElem?_of_mem hua
 obtain ⟨p, hp, hpx⟩ := Rel.qwr h1 hj
 unfold vicP at h
 rw [List.find?_eq_none] at h
 have := h p (List.mem_reverse.2 (List.mem_of_getElem? hp))
 have e := R.way (x := x) (v := u.adm 0) T hS.wks hn hk (hS.wks.ok u hu).1 ⟨(hS.wks.num u hu).1.1, (hS.wks.num u hu).2.1⟩
 rw [qqp] at e
 rw [hpx, e] at this
 simpa using this
theorem Rel.qtp {nodes : List Node} {Ws : List Wk} {ws as_ : List Pw} (R : Rel nodes Ws ws as_) (T : Tree nodes) {st : Int} (hS : WkS Ws st) {x : Wk} {n : Node} (hn : n ∈ nodes) (hk : n.key = x.key) {p : Pw} (h : vicP nodes as_ x n = some p) :
  ∃ (i : Nat) (v : Wk) (iw : Nat), as_[i]? = some p /\ qch (nodes.map Node.ent) Ws x = some iw /\ Ws[iw]? = some v /\ 0 < v.st /\ p.x = v.adm 0 := by
 obtain ⟨az, h1, h2, h3⟩ := R.a
 have hway : ∀ u ∈ Ws, ∀ q : Pw, q.x = u.adm 0 -> (ups nodes 4 n).any (qgt nodes as_ x q.x) = Proofs.YtphclnolomgjoaaGreatDoor.way (nodes.map Node.ent) Ws x u := fun u hu q hq => by
  have e := R.way (x := x) (v := u.adm 0) T hS.wks hn hk (hS.wks.ok u hu).1 ⟨(hS.wks.num u hu).1.1, (hS.wks.num u hu).2.1⟩
  rw [qqp] at e
  rw [hq, e]
 have hmem : ∀ u ∈ az, u ∈ Ws /\ 0 < u.st := fun u hu => by have := List.mem_filter.1 (h2.mem_iff.1 hu); exact ⟨this.1, by simpa using this.2⟩
 unfold vicP at h
 obtain ⟨hp, l1, l2, hl, hno⟩ := List.find?_eq_some_iff_append.1 h
 have has : as_ = l2.reverse ++ p :: l1.reverse := by
  rw [<- List.reverse_reverse as_, hl]; simp
 have hi : as_[l2.length]? = some p := by rw [has]; simp
 obtain ⟨v, hv, hpx⟩ := Rel.qv2 (nodes := nodes) (Ws := Ws) (ws := ws) h1 hi
 obtain ⟨hvW, hv0⟩ := hmem v (List.mem_of_getElem? hv)
 have hwv : Proofs.YtphclnolomgjoaaGreatDoor.way (nodes.map Node.ent) Ws x v = true := by rw [<- hway v hvW p hpx]; exact hp
 obtain ⟨iw, e1, e2⟩ := qqd hS x hvW hv0 hwv (fun u hu hu0 hwu => by
  apply Classical.byContradiction
  intro hlt
  have hua : u ∈ az := h2.mem_iff.2 (List.mem_filter.2 ⟨hu, by simp [hu0]⟩)
  obtain ⟨j, hj⟩ := List.getElem?_of_mem hua
  obtain ⟨q, hq, hqx⟩ := Rel.qwr h1 hj
  have hjl := (List.getElem?_eq_some_iff.1 hj)
  have hil := (List.getElem?_eq_some_iff.1 hv)
  have hgt : l2.length < j := by
   rcases Nat.lt_trichotomy j l2.length with h | h | h
   ·have := List.pairwise_iff_getElem.1 h3 j l2.length hjl.1 hil.1 h
    rw [hjl.2, hil.2] at this; omega
   ·subst h; rw [hj] at hv; cases hv; omega
   ·exact h
  have hq1 : q ∈ l1 := by
   rw [has, List.getElem?_append_right (by simp; omega)] at hq
   rw [show j - l2.reverse.length = (j - l2.length - 1) + 1 by simp; omega, List.getElem?_cons_succ] at hq
   exact List.mem_reverse.1 (List.mem_of_getElem? hq)
  have := hno q hq1
  rw [hway u hu q hqx, hwu] at this
  cases this)
 exact ⟨l2.length, v, iw, hi, e1, e2, hv0, hpx⟩
theorem qew {Ws : List Wk} (hn : (Ws.map (·.num)).Nodup) {a b : Wk} (ha : a ∈ Ws) (hb : b ∈ Ws) (e : a.num = b.num) : a = b := qrw hn ha hb e
theorem Rel.qis {nodes : List Node} {Ws : List Wk} {ws as_ : List Pw} (R : Rel nodes Ws ws as_) {st : Int} (hS : WkS Ws st) {i iw : Nat} {p : Pw} {v : Wk} (hi : as_[i]? = some p) (hv : Ws[iw]? = some v) (h0 : 0 < v.st) (hpx : p.x = v.adm 0) :
  Rel nodes (v.adm 0 :: (Ws.take iw ++ Ws.drop (iw + 1))) (p :: ws) (as_.take i ++ as_.drop (i + 1)) := by
 obtain ⟨az, h1, h2, h3⟩ := R.a
 have hsp := qeb hv
 have hz : (v.st == 0) = false := by simp; omega
 have hzp : decide (0 < v.st) = true := decide_eq_true h0
 refine ⟨?_, ?_, ?_⟩
 ·rw [List.map_cons, R.w, hpx, List.filter_cons]
  simp only [Wk.adm, beq_self_eq_true, if_true]
  congr 1
  conv => lhs; rw [hsp]
  rw [List.filter_append, List.filter_cons, hz, List.filter_append]
  simp
 ·obtain ⟨v', hv', hpx'⟩ := Rel.qv2 (nodes := nodes) (Ws := Ws) (ws := ws) h1 hi
  have hvv : v' = v := by
   have m1 := (List.mem_filter.1 (h2.mem_iff.1 (List.mem_of_getElem? hv'))).1
   refine qew hS.nums m1 (List.mem_of_getElem? hv) ?_
   have := congrArg Wk.num (hpx'.symm.trans hpx)
   exact this
  subst hvv
  refine ⟨az.take i ++ az.drop (i + 1), ?_, ?_, ?_⟩
  ·rw [List.map_append, List.map_take, List.map_drop, h1, List.map_append, List.map_take, List.map_drop]
  ·have p1 : az.Perm (v' :: (az.take i ++ az.drop (i + 1))) := qb0 hv'
   have p2 := p1.symm.trans h2
   have p3 : (Ws.filter fun x => decide (0 < x.st)).Perm (v' :: ((Ws.take iw ++ Ws.drop (iw + 1)).filter fun x => decide (0 < x.st))) := by
    have := (qb0 hv).filter (fun x => decide (0 < x.st))
    rwa [List.filter_cons, if_pos hzp] at this
   have p4 := (p2.trans p3).cons_inv
   rw [List.filter_cons, if_neg (by simp [Wk.adm])]
   exact p4
  ·have : (az.take i ++ az.drop (i + 1)).Sublist az := by
    conv => rhs; rw [qeb hv']
    exact (List.Sublist.refl _).append (List.sublist_cons_self ..)
   exact h3.sublist this
 ·intro q hq
  have : q ∈ ws ++ as_ := by
   rcases List.mem_append.1 hq with h | h
   ·rcases List.mem_cons.1 h with rfl | h
    ·exact List.mem_append_right _ (List.mem_of_getElem? hi)
    ·exact List.mem_append_left _ h
   ·exact List.mem_append_right _ (qbb h)
  exact R.leaf q this
theorem Rel.admit {nodes : List Node} {Ws : List Wk} {ws as_ : List Pw} (R : Rel nodes Ws ws as_) {st : Int} (hS : WkS Ws st) (hst : 0 <= st) {i ix : Nat} {p : Pw} {x : Wk} (hi : ws[i]? = some p) (hx : Ws[ix]? = some x) (h0 : x.st = 0) (hpx : p.x = x) :
  Rel nodes (Ws.set ix (x.adm (st + 1))) (ws.take i ++ ws.drop (i + 1)) (as_ ++ [p]) := by
 obtain ⟨az, h1, h2, h3⟩ := R.a
 have hsp := qeb hx
 have hset : Ws.set ix (x.adm (st + 1)) = Ws.take ix ++ x.adm (st + 1) :: Ws.drop (ix + 1) := qge hx _
 have hz : (x.st == 0) = true := by simp [h0]
 have hw := R.w
 have hws : ws.map (·.x) = (Ws.take ix).filter (fun x => x.st == 0) ++ x :: (Ws.drop (ix + 1)).filter (fun x => x.st == 0) := by
  rw [hw]
  conv => lhs; rw [hsp]
  rw [List.filter_append, List.filter_cons, if_pos hz]
 have hnd : (ws.map (·.x)).Nodup := by
  rw [hw]; exact (qcc hS.nums).filter _
 have hix : i = ((Ws.take ix).filter (fun x => x.st == 0)).length := by
  have e1 : (ws.map (·.x))[i]? = some x := by rw [List.getElem?_map, hi, <- hpx]; rfl
  have e2 : (ws.map (·.x))[((Ws.take ix).filter (fun x => x.st == 0)).length]? = some x := by rw [hws]; simp
  exact (List.getElem?_inj (List.getElem?_eq_some_iff.1 e1).1 hnd).1 (e1.trans e2.symm)
 refine ⟨?_, ?_, ?_⟩
 ·rw [List.map_append, List.map_take, List.map_drop, hws, hset, List.filter_append, List.filter_cons, if_neg (by simp [Wk.adm]; omega)]
  rw [hix]
  simp
 ·refine ⟨az ++ [x.adm (st + 1)], ?_, ?_, ?_⟩
  ·rw [List.map_append, List.map_append, h1]
   simp only [List.map_cons, List.map_nil, qvf, hpx, qtj h0]
  ·rw [hset, List.filter_append, List.filter_cons, if_pos (show decide (0 < (x.adm (st + 1)).st) = true from decide_eq_true (show 0 < st + 1 by omega))]
   have e : (Ws.filter fun x => decide (0 < x.st)) = (Ws.take ix).filter (fun x => decide (0 < x.st)) ++ (Ws.drop (ix + 1)).filter (fun x => decide (0 < x.st)) := by
    conv => lhs; rw [hsp]
    rw [List.filter_append, List.filter_cons, if_neg (by simp [h0])]
   rw [e] at h2
   exact (List.perm_append_comm.trans ((h2.cons _))).trans List.perm_middle.symm
  ·rw [List.pairwise_append]
   refine ⟨h3, by simp, fun a ha b hb => ?_⟩
   simp at hb
   subst hb
   have := (hS.st a (List.mem_filter.1 (h2.mem_iff.1 ha)).1).2
   show a.st < st + 1
   omega
 ·intro q hq
  have : q ∈ ws ++ as_ := by
   rcases List.mem_append.1 hq with h | h
   ·exact List.mem_append_left _ (qbb h)
   ·rcases List.mem_append.1 h with h | h
    ·exact List.mem_append_right _ h
    ·simp at h; subst h; exact List.mem_append_left _ (List.mem_of_getElem? hi)
  exact R.leaf q this
theorem Rel.share {nodes : List Node} {Ws : List Wk} {ws as_ : List Pw} (R : Rel nodes Ws ws as_) (T : Tree nodes) (hW : Wks Ws) {x : Wk} (hx : qbn x.key = true) :
  max (abv (ws0 (pun as_ x.key) + x.d0) (pn0 nodes x.key) * max 1 (pn1 nodes [])) (abv (ws1 (pun as_ x.key) + x.d1) (pn1 nodes x.key) * max 1 (pn0 nodes [])) = shp (nodes.map Node.ent) Ws x := by
 have e := qb1 T (k := []) (by rfl)
 unfold shp abv
 rw [(R.use hW hx).1, (R.use hW hx).2, (qb1 T hx).1, (qb1 T hx).2, e.1, e.2]
 rfl
end Go.Proofs.YtphclnolomgjoaaGreatDoor
namespace Go.Proofs.YtphclnolomgjoaaGreatDoor
open Go.RowKit Go.Shelf
attribute [local go_sem] Oper.semAt_some
theorem qg2 {α : Type} {f : α -> Bool} {l : List α} (h : l.all (fun x => !f x) = true) : l.find? f = none := by
 rw [List.find?_eq_none]
 intro x hx
 have := List.all_eq_true.1 h x hx
 simpa using this
theorem qli {α : Type} {f : α -> Bool} {l pre : List α} {x : α} (h : pre ++ [x] <+: l) (hp : pre.all (fun x => !f x) = true) (hx : f x = true) : l.find? f = some x := by
 obtain ⟨t, rfl⟩ := h
 rw [List.append_assoc, List.find?_append, qg2 hp]
 simp [hx]
set_option maxRecDepth 100000 in
set_option maxHeartbeats 2000000 in
theorem qns {nodes : List Node} (T0 : Tree nodes) (hB : qa7 nodes) {w : World} {bt rr : Nat} {va : Value} {l : List Pw} (h : Rd w nodes bt rr va l) {p : Pw} (hp : PwIn w nodes p) {n : Node} (hn : n ∈ nodes) (hnq : n.blk = p.q) :
  Calls Tryz.prog 210 #[.pointer (some ⟨rr, 0, none⟩), nptr p.blk] w fun e w' => e = .returned (optP (vicP nodes l p.x n)) /\ Below w.heap.size w w' := by
 have hdd : ∀ k : Nat, Fence.wide.depth.isSome = true -> 1 <= k := fun k h => by simp [Fence.wide] at h
 have hrrl : rr < w.heap.size := World.block_lt_of_cell? _ _ h.bk
 have hbtl : bt < w.heap.size := World.block_lt_of_cell? _ _ h.ad
 have hnew := fun W' (hW' : Below w.heap.size w W') => qo5 (w := W') (h.below hW').ad ⟨(h.below hW').ps.row, (h.below hW').ps.works⟩ (by have := h.ps.len; omega)
 have hvl := fun b (hb : va.ownBlock = some b) => qal h.ps.row hb
 have hway : ∀ q ∈ l, ∀ W', Below w.heap.size w W' -> Calls Tryz.prog 231 #[.pointer (some ⟨rr, 0, none⟩), nptr q.blk, nptr p.blk] W' fun e w' => e = .returned (.bool ((ups nodes 4 n).any (qgt nodes l p.x q.x))) /\ Below W'.heap.size W' w' := fun q hq W' hW' => by
  obtain ⟨m, hm, h1, h2⟩ := h.ps.leaf q hq
  exact qug T0 hB (h.below hW') (hp.below hW') ((h.ps.one hq).below hW') hn hnq hm h1 h2
 unfold vicP
 generalize hf : (fun q : Pw => (ups nodes 4 n).any (qgt nodes l p.x q.x)) = f
 have hway2 : ∀ q ∈ l, ∀ W', Below w.heap.size w W' -> Calls Tryz.prog 231 #[.pointer (some ⟨rr, 0, none⟩), .pointer (some ⟨q.blk, 0, none⟩), .pointer (some ⟨p.blk, 0, none⟩)] W' fun e w' => e = .returned (.bool (f q)) /\ Below W'.heap.size W' w' := by
  rw [<- hf]; exact hway
 clear hway hf
 refine (callsIn_wide (n := 3)).1 ?_
 refine callsIn_of_wp_marks Tryz.func210 rfl trivial ?_ rfl
 unfold nptr at hnew ⊢
 simp only [Tryz.ntmps210, List.size_toArray, List.length_cons, List.length_nil, Nat.reduceAdd, Nat.reduceSub, Array.replicate_succ, Array.replicate_zero, List.push_toArray, List.append_toArray, List.nil_append, List.cons_append]
 obtain ⟨W0, hW0⟩ : ∃ W0, W0 = ((w.alloc (.cells #[.pointer (some ⟨rr, 0, none⟩)] 186)).alloc (.cells #[.pointer (some ⟨p.blk, 0, none⟩)] 95)).alloc (.cells #[.pointer none] 95) := ⟨_, rfl⟩
 have hB0 : Below w.heap.size w W0 := by rw [hW0]; exact bel2
 have x1 : Box W0 w.heap.size 186 (.pointer (some ⟨rr, 0, none⟩)) := by rw [hW0]; exact ((Box.new w 186 _).alloc _).alloc _
 have x2 : Box W0 (w.heap.size + 1) 95 (.pointer (some ⟨p.blk, 0, none⟩)) := by
  have := (Box.new (w.alloc (.cells #[.pointer (some ⟨rr, 0, none⟩)] 186)) 95 (.pointer (some ⟨p.blk, 0, none⟩))).alloc (.cells #[.pointer none] 95)
  rw [World.size_alloc] at this; rw [hW0]; exact this
 have x3 : Box W0 (w.heap.size + 1 + 1) 95 (.pointer none) := by
  have := Box.new ((w.alloc (.cells #[.pointer (some ⟨rr, 0, none⟩)] 186)).alloc (.cells #[.pointer (some ⟨p.blk, 0, none⟩)] 95)) 95 (.pointer none)
  rw [World.size_alloc, World.size_alloc] at this; rw [hW0]; exact this
 have hs0 : W0.heap.size = w.heap.size + 3 := by rw [hW0]; simp
 have c1 := x1.cell
 have c2 := (h.below hB0).bk
 rw [hW0] at c1 c2
 gi_wp2_with ((first | refine ⟨trivial, hdd _, ?_⟩ | refine ⟨trivial, ?_⟩); gi_at_call 230; refine (callsIn_wide.2 (hnew _ (by exact bel1))).mono ?_; rintro e W3 ⟨rfl, rfl, hseq⟩)
 obtain ⟨W, hW⟩ : ∃ W, W = W0.alloc (.cells #[.pointer (some ⟨bt, 1, none⟩)] 132) := ⟨_, rfl⟩
 have hsz : W.heap.size = w.heap.size + 4 := by rw [hW]; simp [hs0]
 have z1 : Box W w.heap.size 186 (.pointer (some ⟨rr, 0, none⟩)) := by rw [hW]; exact x1.alloc _
 have z2 : Box W (w.heap.size + 1) 95 (.pointer (some ⟨p.blk, 0, none⟩)) := by rw [hW]; exact x2.alloc _
 have z3 : Box W (w.heap.size + 1 + 1) 95 (.pointer none) := by rw [hW]; exact x3.alloc _
 have hbw : Below w.heap.size w W := by rw [hW]; exact hB0.alloc hB0.size _
 simp only [World.size_alloc] at hseq
 simp only [<- hW0, <- hW] at hseq ⊢
 have hq := hseq (fun b => b = w.heap.size + 1 + 1) (fun b e => by omega) (fun e => by omega) (fun b hb e => by have := hvl b hb; omega)
 clear hseq hnew hW hW0 c1 c2
 have hno : ∀ b, b < W.heap.size -> ¬ (False \/ (W.heap.size <= b /\ b < W.heap.size + 2 + 4)) := fun b hb e => by rcases e with e | e; exact e; omega
 refine qgs (T := fun b => b = w.heap.size + 1 + 1) (S := fun _ => False) rfl (enters_of Tryz.func238 (by kernel_rfl) rfl) hq (Below.refl _ _) (fun _ => rfl) (fun b e => e.elim) (fun b e => by omega)
  (fun (pre : List Pw) A => pre.all (fun x => !f x) = true /\ Box A w.heap.size 186 (.pointer (some ⟨rr, 0, none⟩)) /\ Box A (w.heap.size + 1) 95 (.pointer (some ⟨p.blk, 0, none⟩)) /\ Box A (w.heap.size + 1 + 1) 95 (.pointer none) /\ Below w.heap.size w A)
  (fun c (pre : List Pw) A => c = .ret /\ (∃ q pre', pre = pre' ++ [q] /\ pre'.all (fun x => !f x) = true /\ f q = true /\ Box A (w.heap.size + 1 + 1) 95 (.pointer (some ⟨q.blk, 0, none⟩))) /\ Below w.heap.size w A)
  (fun pre A B hs hk => ⟨hs.1, hs.2.1.keep hk (hno _ (by omega)), hs.2.2.1.keep hk (hno _ (by omega)), hs.2.2.2.1.keep hk (hno _ (by omega)), hs.2.2.2.2.trans (hk.toBelow hs.2.2.2.2.size (fun b hb' => hno b (by omega)))⟩)
  (fun c pre A B hs hk => by
   obtain ⟨h1, ⟨q, pre', h2, h3, h4, h5⟩, h6⟩ := hs
   exact ⟨h1, ⟨q, pre', h2, h3, h4, h5.keep hk (hno _ (by omega))⟩, h6.trans (hk.toBelow h6.size (fun b hb' => hno b (by omega)))⟩)
  ⟨rfl, z1, z2, z3, hbw⟩
  (fun x => { tmps := #[.pointer (some ⟨rr, 0, none⟩), .pointer (some ⟨p.blk, 0, none⟩), .pointer (some ⟨w.heap.size, 0, none⟩), .pointer (some ⟨w.heap.size + 1, 0, none⟩), .pointer (some ⟨w.heap.size + 1 + 1, 0, none⟩), .pointer (some ⟨x.blk, 0, none⟩), .pointer (some ⟨rr, 0, none⟩), .pointer (some ⟨rr, 0, none⟩), .pointer (some ⟨rr, 1, none⟩), .pointer (some ⟨bt, 1, none⟩), .func (.func 238) #[] #[.pointer (some ⟨w.heap.size + 1 + 1 + 1, 0, none⟩)], .pointer (some ⟨x.blk, 0, none⟩), undef, undef, undef, undef, undef], defers := [] }) ?assign ?body ?done ?stop
 case assign =>
  intro l x W K hK
  gi_wp2
  exact hK
 case body =>
  rintro l2 pre x W2 ⟨hall, k1, k2, k3, hbel⟩ hszW hpre
  have hxm : x ∈ l := List.mem_reverse.1 (hpre.subset (by simp))
  have hwx := hway2 x hxm W2 hbel
  have c1 := k1.cell
  have c2 := k2.cell
  have HALL : Hid (pre.all (fun x => !f x) = true) := hall
  have l1 := k1.lt
  have l2' := k2.lt
  have l3 := k3.lt
  generalize hfx : f x = fx at hwx
  have HFX : Hid (f x = fx) := hfx
  clear hall hq hfx hpre
  cases fx
  ·gi_wp2_with ((first | refine ⟨trivial, hdd _, ?_⟩ | refine ⟨trivial, ?_⟩); gi_at_call 231; refine (CallsIn.inRound l2 (callsIn_wide.2 hwx)).mono ?_; rintro e W5 ⟨rfl, hb5⟩)
   refine ⟨Keep.new hb5, ?_, k1.below hb5 l1, k2.below hb5 l2', k3.below hb5 l3, qac hbel hb5⟩
   rw [List.all_append, HALL.out]
   simp [HFX.out]
  ·gi_wp2_with ((first | refine ⟨trivial, hdd _, ?_⟩ | refine ⟨trivial, ?_⟩); gi_at_call 231; refine (CallsIn.inRound l2 (callsIn_wide.2 hwx)).mono ?_; rintro e W5 ⟨rfl, hb5⟩; have k5 := k3.below hb5 l3; have c5 := k5.cell; have f5 := k5.frozen)
   exact ⟨(Keep.new (T := fun b => b = w.heap.size + 1 + 1 \/ W.heap.size + 2 + 4 <= b) hb5).setCell (p := ⟨w.heap.size + 1 + 1, 0, none⟩) (.inl rfl) _, rfl, ⟨x, pre, rfl, HALL.out, HFX.out, k5.set _⟩, (qac hbel hb5).setCell (by simp; omega) _⟩
 case done =>
  rintro A ⟨hall, k1, k2, k3, hbel⟩ hD
  have hc := k3.cell
  have hf := k3.frozen
  gi_wp2
  have hD' : (A.setCell ⟨w.heap.size + 1 + 1, 0, none⟩ (.pointer none)).heap[W.heap.size]? = some (.deferred (some [])) := (Below.heap_setCell _ _ _ _ (by simp; omega)).trans hD
  have hb2 := ((k3.set (.pointer none)).put W.heap.size (.deferred none) (by omega)).cell
  refine ⟨by simp, .inl ⟨_, _, rfl, run_takeDeferred hD', ?_⟩⟩
  refine ⟨.pointer none, by simp [results, Tryz.results210, go_sem, hb2], ?_, qa8 (hbel.setCell (by simp; omega) _) _ _ (by omega)⟩
  rw [qg2 hall]; rfl
 case stop =>
  rintro c pre A hpre ⟨rfl, ⟨q, pre', rfl, h3, h4, hbox⟩, hbel⟩ hD
  gi_wp2
  have hb2 := (hbox.put W.heap.size (.deferred none) (by omega)).cell
  refine ⟨by simp, .inl ⟨_, _, rfl, run_takeDeferred hD, ?_⟩⟩
  refine ⟨.pointer (some ⟨q.blk, 0, none⟩), by simp [results, Tryz.results210, go_sem, hb2], ?_, qa8 hbel _ _ (by omega)⟩
  rw [qli hpre h3 h4]; rfl
end Go.Proofs.YtphclnolomgjoaaGreatDoor
namespace Go.Proofs.YtphclnolomgjoaaGreatDoor
open Go.RowKit
structure Ak where
 p : Pw
 s : Int
def akv (a : Ak) : Value := .agg #[nptr a.p.blk, .int .i64 a.s]
def aks (l : List Ak) : List Value := l.flatMap fun a => [nptr a.p.blk, .int .i64 a.s]
theorem qpv (a b : List Ak) : aks (a ++ b) = aks a ++ aks b := by simp [aks]
theorem qmx : ∀ (l : List Ak) (i : Nat) (a : Ak), l[i]? = some a -> (aks l)[i * 2]? = some (nptr a.p.blk) /\ (aks l)[i * 2 + 1]? = some (.int .i64 a.s)
 | [], i, a, h => by simp at h
 | x :: l, 0, a, h => by simp at h; subst h; simp [aks]
 | x :: l, i + 1, a, h => by
  have ih := qmx l i a (by simpa using h)
  have e : aks (x :: l) = [nptr x.p.blk, .int .i64 x.s] ++ aks l := rfl
  rw [e, show (i + 1) * 2 = i * 2 + 2 by omega, show i * 2 + 2 + 1 = i * 2 + 1 + 2 by omega]
  simpa using ih
theorem qkb : ∀ (l : List Ak) (i : Nat) (b : Ak), aks (l.set i b) = ((aks l).set (i * 2) (nptr b.p.blk)).set (i * 2 + 1) (.int .i64 b.s)
 | [], i, b => by simp [aks]
 | x :: l, 0, b => by simp [aks]
 | x :: l, i + 1, b => by
  have ih := qkb l i b
  have e : ∀ l, aks (x :: l) = nptr x.p.blk :: .int .i64 x.s :: aks l := fun l => rfl
  rw [List.set_cons_succ, e, e, ih, show (i + 1) * 2 = i * 2 + 1 + 1 by omega, show i * 2 + 1 + 1 + 1 = (i * 2 + 1) + 1 + 1 by omega]
  simp only [List.set_cons_succ]
theorem qtm (l : List Ak) (m : Nat) : aks (l.take m) = (aks l).take (m * 2) := by
 induction l generalizing m with
 | nil => simp [aks]
 | cons x l ih =>
  cases m with
  | zero => simp [aks]
  | succ m =>
   have e : ∀ l, aks (x :: l) = nptr x.p.blk :: .int .i64 x.s :: aks l := fun l => rfl
   rw [List.take_succ_cons, e, e, ih, show (m + 1) * 2 = m * 2 + 1 + 1 by omega]
   simp only [List.take_succ_cons]
structure HqAt (W : World) (hb : Nat) (f v : Value) (ys : List Ak) : Prop where
 at_ : Blk W hb 254 #[f, v]
 row : W.ownsRow 0 226 2 v ys.length (aks ys)
 ne : v.ownBlock ≠ some hb
theorem HqAt.get {W : World} {hb : Nat} {f v : Value} {ys : List Ak} (h : HqAt W hb f v ys) {i : Nat} {p : Ak} (hi : ys[i]? = some p) : ∃ g cap, v = .slice (some ⟨g, 0, none⟩) ys.length cap /\ g < W.heap.size /\ g ≠ hb /\ ys.length <= cap /\ cap <= maxLen /\ (W.cell? ⟨g, i * 2, none⟩ = some (nptr p.p.blk) /\ W.cell? ⟨g, i * 2 + 1, none⟩ = some (.int .i64 p.s)) /\ (W.frozen? ⟨g, i * 2, none⟩ = false /\ W.frozen? ⟨g, i * 2 + 1, none⟩ = false) := by
 obtain ⟨g, cap, rfl, h1, h2⟩ := qat h.row (Nat.lt_of_le_of_lt (Nat.zero_le _) (List.getElem?_eq_some_iff.1 hi).1)
 have t1 := h.row.cells (g := g) rfl (i * 2) (nptr p.p.blk) (qmx _ _ _ hi).1
 have t2 := h.row.cells (g := g) rfl (i * 2 + 1) (.int .i64 p.s) (qmx _ _ _ hi).2
 rw [Addr.add_lit, Nat.zero_add] at t1 t2
 exact ⟨g, cap, rfl, qal h.row rfl, fun e => h.ne (by simp [Value.ownBlock, e]), h1, h2, ⟨t1, t2⟩, h.row.frozenAt _, h.row.frozenAt _⟩
theorem HqAt.drew {W : World} {hb : Nat} {f v : Value} {ys : List Ak} (h : HqAt W hb f v ys) : HqAt W.drew hb f v ys := ⟨h.at_.drew, h.row.drew, h.ne⟩
theorem HqAt.below {W W' : World} {hb : Nat} {f v : Value} {ys : List Ak} (h : HqAt W hb f v ys) (hB : Below W.heap.size W W') : HqAt W' hb f v ys :=
 ⟨h.at_.below hB h.at_.lt, qab (T := fun _ => False) h.row (Keep.new hB) (fun _ _ e => e), h.ne⟩
set_option maxRecDepth 100000 in
set_option maxHeartbeats 2000000 in
theorem qso {w : World} {hb : Nat} {f v : Value} {ys : List Ak} (h : HqAt w hb f v ys) (hl : ys.length <= 100) {i j : Nat} {a b : Ak} (hi : ys[i]? = some a) (hj : ys[j]? = some b) (hij : i ≠ j) :
  Calls Tryz.prog 233 #[.pointer (some ⟨hb, 0, none⟩), .int .i64 i, .int .i64 j] w fun e w' => e = .returned (.tuple #[]) /\ HqAt w' hb f v (swp ys i j a b) /\ Keep (fun y => v.ownBlock = some y) w w' := by
 obtain ⟨g, cap, hv, hgl, hgh, hc1, hc2, ⟨ci, ci'⟩, fi, fi'⟩ := h.get hi
 obtain ⟨g', cap', hv', _, _, _, _, ⟨cj, cj'⟩, fj, fj'⟩ := h.get hj
 rw [hv] at hv'
 injection hv' with e1 _ e3
 injection e1 with e1
 injection e1 with e1
 subst e1 e3
 have hil := (List.getElem?_eq_some_iff.1 hi).1
 have hjl := (List.getElem?_eq_some_iff.1 hj).1
 have c1 := h.at_.cell 1
 have hlt := h.at_.lt
 simp only [List.getElem?_toArray, List.getElem?_cons_zero, List.getElem?_cons_succ] at c1
 rw [hv] at c1
 obtain ⟨n, hn⟩ : ∃ n, n = ys.length := ⟨_, rfl⟩
 rw [<- hn] at c1 hil hjl hc1 hl
 have h1 : (i : Int) < n := by omega
 have h2 : (0 : Int) <= i := by omega
 have h3 : (j : Int) < n := by omega
 have h4 : (0 : Int) <= j := by omega
 have hji : ¬ (j = i) := fun e => hij e.symm
 have hbg : ¬ (hb = g) := fun e => hgh e.symm
 have k1 : ¬ (j * 2 = i * 2) := by omega
 have k2 : ¬ (j * 2 + 1 = i * 2) := by omega
 have k3 : ¬ (j * 2 = i * 2 + 1) := by omega
 have k4 : ¬ (j * 2 + 1 = i * 2 + 1) := by omega
 obtain ⟨WX, hWX⟩ : ∃ WX, WX = (((w.setCell ⟨g, i * 2, none⟩ (nptr b.p.blk)).setCell ⟨g, i * 2 + 1, none⟩ (.int .i64 b.s)).setCell ⟨g, j * 2, none⟩ (nptr a.p.blk)).setCell ⟨g, j * 2 + 1, none⟩ (.int .i64 a.s) := ⟨_, rfl⟩
 have hpost : HqAt WX hb f v (swp ys i j a b) /\ Keep (fun y => v.ownBlock = some y) w WX := by
  subst hv
  rw [hWX]
  refine ⟨⟨(((h.at_.other _ _ hbg).other _ _ hbg).other _ _ hbg).other _ _ hbg, ?_, h.ne⟩, ?_⟩
  ·have r1 := ((((h.row.stored (i * 2) (nptr b.p.blk)).1.stored (i * 2 + 1) (.int .i64 b.s)).1.stored (j * 2) (nptr a.p.blk)).1.stored (j * 2 + 1) (.int .i64 a.s)).1
   rw [qkv]
   have : aks (swp ys i j a b) = (((((aks ys).set (i * 2) (nptr b.p.blk)).set (i * 2 + 1) (.int .i64 b.s)).set (j * 2) (nptr a.p.blk)).set (j * 2 + 1) (.int .i64 a.s)) := by unfold swp; rw [qkb, qkb]
   rw [this]
   exact r1
  ·exact ((((Keep.refl _ _).setCell (p := ⟨g, i * 2, none⟩) (by simp [Value.ownBlock]) _).setCell (p := ⟨g, i * 2 + 1, none⟩) (by simp [Value.ownBlock]) _).setCell (p := ⟨g, j * 2, none⟩) (by simp [Value.ownBlock]) _).setCell (p := ⟨g, j * 2 + 1, none⟩) (by simp [Value.ownBlock]) _
 have HP : Hid (HqAt WX hb f v (swp ys i j a b) /\ Keep (fun y => v.ownBlock = some y) w WX) := hpost
 have HWX : Hid (WX = (((w.setCell ⟨g, i * 2, none⟩ (nptr b.p.blk)).setCell ⟨g, i * 2 + 1, none⟩ (.int .i64 b.s)).setCell ⟨g, j * 2, none⟩ (nptr a.p.blk)).setCell ⟨g, j * 2 + 1, none⟩ (.int .i64 a.s)) := hWX
 clear hpost h hi hj hn hWX
 unfold nptr at ci cj
 go_enter Tryz.func233, Tryz.ntmps233
 go_wp2_with fail
 go_region
 all_goals go_wp2_with fail
 go_end0
 obtain ⟨p1, p2⟩ := HP.out
 have hz := HWX.out
 unfold nptr at hz
 rw [hz] at p1 p2
 exact ⟨rfl, p1.drew, p2.drew⟩
set_option maxRecDepth 100000 in
set_option maxHeartbeats 2000000 in
theorem qph {w : World} {hb : Nat} {v : Value} {ys : List Ak} (h : HqAt w hb (.func (.func 176) #[] #[]) v ys) (hl : ys.length <= 100) {i j : Nat} {a : Ak} (hi : ys[i]? = some a) (hjb : j <= 1000) (lt : Ak -> Ak -> Bool)
  (hbef : ∀ W, Below w.heap.size w W -> ∀ b, ys[j]? = some b -> Calls Tryz.prog 176 #[akv b, akv a] W fun e w' => e = .returned (.bool (lt b a)) /\ Below W.heap.size W w') :
  Calls Tryz.prog 234 #[.pointer (some ⟨hb, 0, none⟩), .int .i64 i, .int .i64 j] w fun e w' => e = .returned (.int .i64 (match ys[j]? with | some b => if lt b a then (j : Int) else (i : Int) | none => (i : Int))) /\ Below w.heap.size w w' := by
 obtain ⟨g, cap, hv, hgl, hgh, hc1, hc2, ⟨ci, ci'⟩, fi, fi'⟩ := h.get hi
 have hil := (List.getElem?_eq_some_iff.1 hi).1
 have c0 := h.at_.cell 0
 have c1 := h.at_.cell 1
 have hlt := h.at_.lt
 simp only [List.getElem?_toArray, List.getElem?_cons_zero, List.getElem?_cons_succ] at c0 c1
 rw [hv] at c1
 obtain ⟨n, hn⟩ : ∃ n, n = ys.length := ⟨_, rfl⟩
 rw [<- hn] at c1 hil hc1 hl
 have h1 : (i : Int) < n := by omega
 have h2 : (0 : Int) <= i := by omega
 have h4 : (0 : Int) <= j := by omega
 have HN : Hid (n = ys.length) := hn
 clear hn
 cases hj : ys[j]? with
 | none =>
  have hjd : decide (j < n) = false := decide_eq_false (by have := List.getElem?_eq_none_iff.1 hj; have := HN.out; omega)
  clear hbef h hj hi hv
  simp only
  go_enter Tryz.func234, Tryz.ntmps234
  go_wp2_with fail
  go_quiet (fail)
  go_wp2_with fail
  go_ret
  exact ⟨rfl, below_drewN (Below.refl _ _) _⟩
 | some b =>
  obtain ⟨g', cap', hv', _, _, _, _, ⟨cj, cj'⟩, fj, fj'⟩ := h.get hj
  rw [hv] at hv'
  injection hv' with e1 _ e3
  injection e1 with e1
  injection e1 with e1
  subst e1 e3
  have hjn : (j : Int) < n := by have := (List.getElem?_eq_some_iff.1 hj).1; have := HN.out; omega
  have hjd : decide ((j : Int) < n) = true := decide_eq_true hjn
  have hbe := fun W hW => hbef W hW b hj
  unfold akv nptr at hbe
  unfold nptr at ci cj
  clear hbef h hi hj hv
  simp only
  generalize lt b a = t at hbe ⊢
  go_enter Tryz.func234, Tryz.ntmps234
  go_upto_region 1 with fail
  go_cut [34] from 7 (fun q wx => q = .bool t /\ Below w.heap.size w wx)
  case first =>
   go_region_held3 (fun w' => w'.cell? ⟨hb, 0, none⟩ = some (.func (.func 176) #[] #[]) /\ w'.cell? ⟨hb, 1, none⟩ = some (.slice (some ⟨g, 0, none⟩) n cap) /\ w'.cell? ⟨g, i * 2, none⟩ = some (.pointer (some ⟨a.p.blk, 0, none⟩)) /\ w'.cell? ⟨g, i * 2 + 1, none⟩ = some (.int .i64 a.s) /\ w'.cell? ⟨g, j * 2, none⟩ = some (.pointer (some ⟨b.p.blk, 0, none⟩)) /\ w'.cell? ⟨g, j * 2 + 1, none⟩ = some (.int .i64 b.s)) (go_keep)
    (first
    | (go_at_call 176; refine (hbe _ ?_).mono ?_; (focus exact bel2); rintro e w1 ⟨rfl, hb1⟩; have hB1 : Below w.heap.size w w1 := qac (by exact bel2) hb1; have r0 := (hB1.cell (p := ⟨hb, 0, none⟩) hlt).trans c0; have r1 := (hB1.cell (p := ⟨hb, 1, none⟩) hlt).trans c1; have r2 := (hB1.cell (p := ⟨g, i * 2, none⟩) hgl).trans ci; have r2' := (hB1.cell (p := ⟨g, i * 2 + 1, none⟩) hgl).trans ci'; have r3 := (hB1.cell (p := ⟨g, j * 2, none⟩) hgl).trans cj; have r3' := (hB1.cell (p := ⟨g, j * 2 + 1, none⟩) hgl).trans cj'))
   all_goals go_wp2_with fail
   go_meet
   exact ⟨rfl, hB1⟩
  case rest =>
   obtain ⟨rfl, hBc⟩ := hcut
   cases t
   ·go_wp2_with fail
    go_ret
    exact ⟨rfl, hBc⟩
   ·go_wp2_with fail
    go_ret
    exact ⟨rfl, hBc⟩
def Befq (w : World) (T : Nat -> Prop) (ys : List Ak) (lt : Ak -> Ak -> Bool) : Prop :=
 ∀ W, Keep T w W -> ∀ a ∈ ys, ∀ b ∈ ys, Calls Tryz.prog 176 #[akv a, akv b] W fun e w' => e = .returned (.bool (lt a b)) /\ Below W.heap.size W w'
set_option maxRecDepth 100000 in
set_option maxHeartbeats 2000000 in
theorem qu7 {w : World} {hb : Nat} {v : Value} {ys : List Ak} {lt : Ak -> Ak -> Bool} (O : Ord lt) (h : HqAt w hb (.func (.func 176) #[] #[]) v ys) (hl : ys.length <= 100) {k : Nat} (hk : k < ys.length) (hU : qgj lt ys k) (hbef : Befq w (fun y => v.ownBlock = some y) ys lt) :
  Calls Tryz.prog 214 #[.pointer (some ⟨hb, 0, none⟩), .int .i64 k] w fun e w' => e = .returned (.tuple #[]) /\ ∃ zs, zs.Perm ys /\ qbp lt zs /\ HqAt w' hb (.func (.func 176) #[] #[]) v zs /\ Keep (fun y => v.ownBlock = some y) w w' := by
 have hlt := h.at_.lt
 obtain ⟨T, hT⟩ : ∃ T : Nat -> Prop, T = fun y => v.ownBlock = some y := ⟨_, rfl⟩
 rw [<- hT] at hbef ⊢
 have HT : Hid (T = fun y => v.ownBlock = some y) := hT
 clear hT
 go_enter Tryz.func214, Tryz.ntmps214
 go_wp2_with fail
 go_loopg [1] k (fun q vk wr => ∃ (j : Nat) (zs : List Ak), vk = .int .i64 j /\ j <= q /\ j < zs.length /\ zs.Perm ys /\ qgj lt zs j /\ HqAt wr hb (.func (.func 176) #[] #[]) v zs /\ Keep T w wr)
 case atStart => exact ⟨k, ys, rfl, Nat.le_refl _, hk, List.Perm.refl _, hU, h, Keep.refl _ _⟩
 case round =>
  clear h hU hk
  obtain ⟨j, zs, rfl, hjq, hjl, hperm, hU, hH, hK⟩ := hrel
  have hzl : zs.length <= 100 := by rw [hperm.length_eq]; exact hl
  by_cases hj0 : j = 0
  ·subst hj0
   have hend := hU.zero
   have HE : Hid (qbp lt zs) := hend
   clear hend hU
   go_wp2_with fail
   go_end0
   exact ⟨rfl, zs, hperm, HE.out, hH, hK⟩
  ·obtain ⟨a, ha⟩ : ∃ a, zs[j]? = some a := ⟨_, List.getElem?_eq_getElem hjl⟩
   obtain ⟨b, hbx⟩ : ∃ b, zs[(j - 1) / 2]? = some b := ⟨_, List.getElem?_eq_getElem (by omega)⟩
   have hquo := quo2 j (by omega)
   obtain ⟨p, hp⟩ : ∃ p, p = (j - 1) / 2 := ⟨_, rfl⟩
   rw [<- hp] at hbx hquo
   have hpj : p < j := by omega
   have HP : Hid (p = (j - 1) / 2) := hp
   clear hp
   obtain ⟨g, cap, hv, hgl, hgh, hc1, hc2, ⟨ci, ci'⟩, fi, fi'⟩ := hH.get ha
   obtain ⟨g', cap', hv', _, _, _, _, ⟨cj, cj'⟩, fj, fj'⟩ := hH.get hbx
   rw [hv] at hv'
   injection hv' with e1 _ e3
   injection e1 with e1
   injection e1 with e1
   subst e1 e3
   have c0 := hH.at_.cell 0
   have c1 := hH.at_.cell 1
   have hhl := hH.at_.lt
   simp only [List.getElem?_toArray, List.getElem?_cons_zero, List.getElem?_cons_succ] at c0 c1
   rw [hv] at c1
   have ham := hperm.mem_iff.1 (List.mem_of_getElem? ha)
   have hbm := hperm.mem_iff.1 (List.mem_of_getElem? hbx)
   have hbe := fun W (hW : Below wr.heap.size wr W) => hbef W (hK.trans (Keep.new hW)) a ham b hbm
   have hsw := fun W (hW : Below wr.heap.size wr W) => qso (hH.below hW) hzl ha hbx (by omega)
   obtain ⟨n, hn⟩ : ∃ n, n = zs.length := ⟨_, rfl⟩
   rw [<- hn] at c1 hc1 hjl hzl
   have HN : Hid (n = zs.length) := hn
   have HV : Hid (v = .slice (some ⟨g, 0, none⟩) zs.length cap) := hv
   have hj1 : (j : Int) < n := by omega
   have hj2 : (0 : Int) <= j := by omega
   have hj3 : (0 : Int) < j := by omega
   have hp1 : (p : Int) < n := by omega
   have hp2 : (0 : Int) <= p := by omega
   unfold akv nptr at hbe
   unfold nptr at ci cj
   have HH : Hid (HqAt wr hb (.func (.func 176) #[] #[]) v zs) := hH
   have HA : Hid (zs[j]? = some a /\ zs[p]? = some b) := ⟨ha, hbx⟩
   clear hn hv ha hbx hH hj0
   generalize hlt0 : lt a b = t at hbe
   have HLT : Hid (lt a b = t) := hlt0
   clear hlt0
   go_upto_region 2 with fail
   go_cut [29] from 5 to 34 (fun q wx => q = .bool (!t) /\ Below wr.heap.size wr wx)
   case first =>
    go_region_held3 (fun w' => w'.cell? ⟨hb, 0, none⟩ = some (.func (.func 176) #[] #[]) /\ w'.cell? ⟨hb, 1, none⟩ = some (.slice (some ⟨g, 0, none⟩) n cap) /\ w'.cell? ⟨g, j * 2, none⟩ = some (.pointer (some ⟨a.p.blk, 0, none⟩)) /\ w'.cell? ⟨g, j * 2 + 1, none⟩ = some (.int .i64 a.s) /\ w'.cell? ⟨g, p * 2, none⟩ = some (.pointer (some ⟨b.p.blk, 0, none⟩)) /\ w'.cell? ⟨g, p * 2 + 1, none⟩ = some (.int .i64 b.s)) (go_keep)
     (first
     | (go_at_call 176; refine (hbe _ ?_).mono ?_; (focus exact bel2); rintro e w1 ⟨rfl, hb1⟩; have hB1 : Below wr.heap.size wr w1 := qac (by exact bel2) hb1; have r0 := (hB1.cell (p := ⟨hb, 0, none⟩) hhl).trans c0; have r1 := (hB1.cell (p := ⟨hb, 1, none⟩) hhl).trans c1; have r2 := (hB1.cell (p := ⟨g, j * 2, none⟩) hgl).trans ci; have r2' := (hB1.cell (p := ⟨g, j * 2 + 1, none⟩) hgl).trans ci'; have r3 := (hB1.cell (p := ⟨g, p * 2, none⟩) hgl).trans cj; have r3' := (hB1.cell (p := ⟨g, p * 2 + 1, none⟩) hgl).trans cj'))
    all_goals go_wp2_with fail
    go_meet
    exact ⟨rfl, hB1⟩
   case rest =>
    obtain ⟨rfl, hBc⟩ := hcut
    clear c0 c1 ci cj ci' cj' fi fj fi' fj' hbe
    cases t
    ·have hend := hU.stop HA.out.1 (by rw [<- HP.out]; exact HA.out.2) HLT.out
     have HE : Hid (qbp lt zs) := hend
     clear hend hU
     go_wp2_with fail
     exact bodyPost_ret (v := .tuple #[]) (by simp [results, Tryz.results214, go_sem]) rfl ⟨rfl, zs, hperm, HE.out, HH.out.below hBc, hK.trans (Keep.new hBc)⟩
    ·go_wp2_with fail
     refine (hsw _ hBc).mono ?_
     rintro e w3 ⟨rfl, hH3, hK3⟩
     have hU3 : qgj lt (swp zs j p a b) p := by
      have := hU.step O (by omega) HA.out.1 (by rw [<- HP.out]; exact HA.out.2) HLT.out
      rw [<- HP.out] at this
      exact this
     have hperm3 : (swp zs j p a b).Perm ys := (qhi (by omega) HA.out.1 HA.out.2).trans hperm
     have hK4 : Keep T w w3 := (hK.trans (Keep.new hBc)).trans (by rw [HT.out]; exact hK3)
     clear hsw hU
     go_wp2_with fail
     go_roundg p
     case measure => omega
     case rel => exact ⟨p, swp zs j p a b, rfl, Nat.le_refl _, by rw [qkv, <- HN.out]; omega, hperm3, hU3, hH3, hK4⟩
theorem qpj {w : World} {hb : Nat} {v : Value} {ys : List Ak} (h : HqAt w hb (.func (.func 176) #[] #[]) v ys) (hl : ys.length <= 100) {i j : Nat} {a : Ak} (hi : ys[i]? = some a) (hjb : j <= 1000) (lt : Ak -> Ak -> Bool)
  (hbef : Befq w (fun y => v.ownBlock = some y) ys lt) :
  Calls Tryz.prog 234 #[.pointer (some ⟨hb, 0, none⟩), .int .i64 i, .int .i64 j] w fun e w' => e = .returned (.int .i64 (fo lt ys a i j)) /\ Below w.heap.size w w' := by
 refine (qph h hl hi hjb lt (fun W hW b hb => hbef W (Keep.new hW) b (List.mem_of_getElem? hb) a (List.mem_of_getElem? hi))).mono ?_
 rintro e w' ⟨rfl, hB⟩
 refine ⟨?_, hB⟩
 unfold fo
 cases ys[j]? with
 | none => rfl
 | some b => simp only; split <;> rfl
theorem Befq.keep {w w' : World} {T : Nat -> Prop} {ys : List Ak} {lt : Ak -> Ak -> Bool} (h : Befq w T ys lt) (hk : Keep T w w') : Befq w' T ys lt := fun W hW => h W (hk.trans hW)
theorem Befq.perm {w : World} {T : Nat -> Prop} {ys zs : List Ak} {lt : Ak -> Ak -> Bool} (h : Befq w T ys lt) (hp : zs.Perm ys) : Befq w T zs lt := fun W hW a ha b hb => h W hW a (hp.mem_iff.1 ha) b (hp.mem_iff.1 hb)
set_option maxRecDepth 100000 in
set_option maxHeartbeats 2000000 in
theorem qvu {w : World} {hb : Nat} {v : Value} {ys : List Ak} {lt : Ak -> Ak -> Bool} (O : Ord lt) (h : HqAt w hb (.func (.func 176) #[] #[]) v ys) (hl : ys.length <= 100) {k : Nat} (hk : k < ys.length) (hU : qbr lt ys k) (hbef : Befq w (fun y => v.ownBlock = some y) ys lt) :
  Calls Tryz.prog 215 #[.pointer (some ⟨hb, 0, none⟩), .int .i64 k] w fun e w' => e = .returned (.tuple #[]) /\ ∃ zs, zs.Perm ys /\ qbp lt zs /\ HqAt w' hb (.func (.func 176) #[] #[]) v zs /\ Keep (fun y => v.ownBlock = some y) w w' := by
 obtain ⟨T, hT⟩ : ∃ T : Nat -> Prop, T = fun y => v.ownBlock = some y := ⟨_, rfl⟩
 have hfo := fun (W : World) (zs : List Ak) (i j : Nat) (a : Ak) (hH : HqAt W hb (.func (.func 176) #[] #[]) v zs) (hzl : zs.length <= 100) (hi : zs[i]? = some a) (hjb : j <= 1000) (hb' : Befq W T zs lt) => qpj hH hzl hi hjb lt (by rw [<- hT]; exact hb')
 rw [<- hT] at hbef ⊢
 have HT : Hid (T = fun y => v.ownBlock = some y) := hT
 clear hT
 obtain ⟨N, hN⟩ : ∃ N, N = ys.length := ⟨_, rfl⟩
 have HN : Hid (N = ys.length) := hN
 rw [<- hN] at hl
 clear hN
 go_enter Tryz.func215, Tryz.ntmps215
 go_wp2_with fail
 go_loopg [1] N (fun q vk wr => ∃ (j : Nat) (zs : List Ak), vk = .int .i64 j /\ N <= q + j /\ j < N /\ zs.Perm ys /\ qbr lt zs j /\ HqAt wr hb (.func (.func 176) #[] #[]) v zs /\ Keep T w wr)
 case atStart => exact ⟨k, ys, rfl, by omega, by rw [HN.out]; exact hk, List.Perm.refl _, hU, h, Keep.refl _ _⟩
 case round =>
  clear h hU hk
  obtain ⟨j, zs, rfl, hjq, hjl, hperm, hU, hH, hK⟩ := hrel
  have hzN : zs.length = N := by rw [HN.out]; exact hperm.length_eq
  have hzl : zs.length <= 100 := by omega
  obtain ⟨a, ha⟩ : ∃ a, zs[j]? = some a := ⟨_, List.getElem?_eq_getElem (by omega)⟩
  obtain ⟨f1, hf1⟩ : ∃ f1, f1 = fo lt zs a j (2 * j + 1) := ⟨_, rfl⟩
  have hf1l : f1 < zs.length := by rw [hf1]; exact qws lt zs a (by omega)
  obtain ⟨a1, ha1⟩ : ∃ a1, zs[f1]? = some a1 := ⟨_, List.getElem?_eq_getElem hf1l⟩
  obtain ⟨f2, hf2⟩ : ∃ f2, f2 = fo lt zs a1 f1 (2 * j + 2) := ⟨_, rfl⟩
  have hcs := qjm O hU ha (by rw [<- hf1]; exact ha1)
  rw [<- hf1, <- hf2] at hcs
  have hbz := (hbef.keep hK).perm hperm
  have c1 := hfo wr zs j (2 * j + 1) a hH hzl ha (by omega) hbz
  rw [<- hf1] at c1
  have c2 := fun W (hW : Below wr.heap.size wr W) => hfo W zs f1 (2 * j + 2) a1 (hH.below hW) hzl ha1 (by omega) (hbz.keep (Keep.new hW))
  rw [<- hf2] at c2
  have e1 : ((2 * j + 1 : Nat) : Int) = 2 * (j : Int) + 1 := by omega
  have e2 : ((2 * j + 2 : Nat) : Int) = 2 * (j : Int) + 2 := by omega
  rw [e1] at c1
  rw [e2] at c2
  have HC : Hid (f2 = j /\ qbp lt zs \/ (f2 ≠ j /\ ∃ b, zs[f2]? = some b /\ j < f2 /\ qbr lt (swp zs j f2 a b) f2)) := hcs
  have HA : Hid (zs[j]? = some a) := ha
  have HH : Hid (HqAt wr hb (.func (.func 176) #[] #[]) v zs) := hH
  have HZN : Hid (zs.length = N) := hzN
  clear hcs ha ha1 hf1 hf2 hfo hU e1 e2 hH hzN hbz hf1l
  have hj1 : (0 : Int) <= j := by omega
  have hj2 : (j : Int) <= 100 := by omega
  go_wp2_with fail
  refine c1.mono ?_
  rintro e w1 ⟨rfl, hb1⟩
  go_wp2_with fail
  refine (c2 _ hb1).mono ?_
  rintro e w2 ⟨rfl, hb2⟩
  have hB2 : Below wr.heap.size wr w2 := qac hb1 hb2
  clear c1 c2 hb1 hb2
  rcases HC.out with ⟨hf, hheap⟩ | ⟨hf, b, hbf, hjf, hD⟩
  ·have HE : Hid (qbp lt zs) := hheap
   clear hheap
   subst hf
   go_wp2_with fail
   exact bodyPost_ret (v := .tuple #[]) (by simp [results, Tryz.results215, go_sem]) rfl ⟨rfl, zs, hperm, HE.out, HH.out.below hB2, hK.trans (Keep.new hB2)⟩
  ·have hfe : ((f2 : Int) == (j : Int)) = false := by simp; omega
   have hsw := qso (HH.out.below hB2) hzl HA.out hbf (by omega)
   have hperm3 : (swp zs j f2 a b).Perm ys := (qhi (by omega) HA.out hbf).trans hperm
   have hf2l : f2 < N := by have := (List.getElem?_eq_some_iff.1 hbf).1; have := HZN.out; omega
   have HD : Hid (qbr lt (swp zs j f2 a b) f2) := hD
   clear hD hbf hf
   go_wp2_with fail
   refine hsw.mono ?_
   rintro e w3 ⟨rfl, hH3, hK3⟩
   have hK4 : Keep T w w3 := (hK.trans (Keep.new hB2)).trans (by rw [HT.out]; exact hK3)
   clear hsw
   go_wp2_with fail
   go_roundg (N - f2)
   case measure => omega
   case rel => exact ⟨f2, swp zs j f2 a b, rfl, by omega, hf2l, hperm3, HD.out, hH3, hK4⟩
end Go.Proofs.YtphclnolomgjoaaGreatDoor
