import Derived.Test.YtphclnolomgjoaaGreatDoorC06
import Derived.Test.YtphclnolomgjoaaGreatDoorC15
import Derived.Deep.LoopGhost
set_option linter.unusedVariables false
set_option linter.unusedSimpArgs false
namespace Go.Proofs.YtphclnolomgjoaaGreatDoor
open Go.RowKit
structure PwIn (W : World) (nodes : List Node) (p : Pw) : Prop where
 at_ : Blk W p.blk 105 p.cells
 leaf : ∃ n ∈ nodes, n.blk = p.q /\ n.key = p.x.key
 num : (0 <= p.x.d0 /\ p.x.d0 <= 1000) /\ (0 <= p.x.d1 /\ p.x.d1 <= 1000)
theorem PwIn.below {W W' : World} {nodes : List Node} {p : Pw} (h : PwIn W nodes p) (hb : Below W.heap.size W W') : PwIn W' nodes p := ⟨h.at_.below hb h.at_.lt, h.leaf, h.num⟩
theorem qhe.one {W : World} {nodes : List Node} {v : Value} {l : List Pw} (h : qhe W nodes v l) {p : Pw} (hp : p ∈ l) : PwIn W nodes p := ⟨h.works p hp, h.leaf p hp, h.num p hp⟩
theorem PwIn.cells {W : World} {nodes : List Node} {p : Pw} (h : PwIn W nodes p) : W.cell? ⟨p.blk, 0, none⟩ = some (.int .i64 p.x.num) /\ W.cell? ⟨p.blk, 1, none⟩ = some (.pointer (some ⟨p.q, 0, none⟩)) /\ W.cell? ⟨p.blk, 2, none⟩ = some (.int .i64 p.x.d0) /\ W.cell? ⟨p.blk, 3, none⟩ = some (.int .i64 p.x.d1) :=
 ⟨h.at_.cell 0, h.at_.cell 1, h.at_.cell 2, h.at_.cell 3⟩
set_option maxRecDepth 100000 in
set_option maxHeartbeats 2000000 in
theorem qjr {nodes : List Node} (T : Tree nodes) (hB : qa7 nodes) {w : World} {bt rr : Nat} {va : Value} {l : List Pw} (h : Rd w nodes bt rr va l) {p : Pw} (hp : PwIn w nodes p) :
  Calls Tryz.prog 207 #[.pointer (some ⟨rr, 0, none⟩), nptr p.blk] w fun e w' => e = .returned (.agg #[.int .i64 (abv (ws0 (pun l p.x.key) + p.x.d0) (pn0 nodes p.x.key)), .int .i64 (abv (ws1 (pun l p.x.key) + p.x.d1) (pn1 nodes p.x.key))]) /\ Below w.heap.size w w' := by
 obtain ⟨m, hm, hmq, hmk⟩ := hp.leaf
 have hus := fun W (hW : Below w.heap.size w W) => (h.below hW).qvn T hB hm
 have hli := fun W (hW : Below w.heap.size w W) => qcz T hm W (h.below hW).ins
 have hrr : rr < w.heap.size := World.block_lt_of_cell? _ _ h.bk
 have hpl := hp.at_.lt
 have hbk := fun W (hW : Below w.heap.size w W) => (h.below hW).bk
 have hpc := fun W (hW : Below w.heap.size w W) => (hp.below hW).cells.2
 have ubd := h.ubd m.key
 have nbd := qna T m.key
 have hd0 := hp.num.1
 have hd1 := hp.num.2
 rw [hmk] at hus hli ubd nbd
 rw [hmq] at hus hli
 generalize ws0 (pun l p.x.key) = u0 at *
 generalize ws1 (pun l p.x.key) = u1 at *
 generalize pn0 nodes p.x.key = n0 at *
 generalize pn1 nodes p.x.key = n1 at *
 generalize p.x.d0 = a at *
 generalize p.x.d1 = b at *
 generalize p.blk = pb at *
 generalize p.q = pq at *
 have hadd := fun W => qid u0 u1 a b W (by omega) (by omega) (by omega) (by omega) (by omega) (by omega) (by omega) (by omega)
 have habv := fun W => qhu (u0 + a) (u1 + b) n0 n1 W (by omega) (by omega) (by omega) (by omega) (by omega) (by omega) (by omega) (by omega)
 have b6 : Blk (w.alloc (.cells #[.int .i64 0, .int .i64 0] 35)) w.heap.size 35 #[.int .i64 0, .int .i64 0] := Blk.new' (by simp)
 have hB0 : Below w.heap.size w (w.alloc (.cells #[.int .i64 0, .int .i64 0] 35)) := by exact bel2
 clear h hp hm hmq hmk
 unfold nptr at hus hli ⊢
 go_enter Tryz.func207, Tryz.ntmps207
 go_upto_region 1 with fail
 generalize (w.alloc (.cells #[.int .i64 0, .int .i64 0] 35)) = W0 at b6 hB0 ⊢
 have hz0 := hB0.size
 have k1 := hbk _ hB0
 obtain ⟨z1, z2, z3⟩ := hpc _ hB0
 have l6 := b6.lt
 have n0b : ¬ (rr = W0.heap.size) := (by omega)
 have n0d : ¬ (W0.heap.size = rr) := (by omega)
 have n0e : ¬ (pb = W0.heap.size) := (by omega)
 have n0f : ¬ (W0.heap.size = pb) := (by omega)
 go_cut [5] from 6 (fun q wx => ∃ b7, q = .pointer (some ⟨b7, 0, none⟩) /\ Below w.heap.size w wx /\ Blk wx w.heap.size 35 #[.int .i64 0, .int .i64 0] /\ Blk wx b7 35 #[.int .i64 (u0 + a), .int .i64 (u1 + b)] /\ w.heap.size < b7)
 case first =>
  go_region_held3 (fun w' => w'.cell? ⟨rr, 1, none⟩ = some (.pointer (some ⟨bt, 1, none⟩)) /\ w'.cell? ⟨pb, 1, none⟩ = some (.pointer (some ⟨pq, 0, none⟩)) /\ w'.cell? ⟨pb, 2, none⟩ = some (.int .i64 a) /\ w'.cell? ⟨pb, 3, none⟩ = some (.int .i64 b)) (go_keep)
   (first
   | (go_at_call 106; refine (hus _ ?_).mono ?_; (focus exact bel2); rintro e w1 ⟨rfl, hb1⟩; have hB1 : Below w.heap.size w w1 := qac (by exact bel2) hb1; have b61 : Blk w1 w.heap.size 35 #[.int .i64 0, .int .i64 0] := Blk.below (by exact blk2) hb1 (by first | omega | (simp <;> omega)); have k2 := hbk _ hB1; obtain ⟨y1, y2, y3⟩ := hpc _ hB1; have l61 := b61.lt; have hz1 := hB1.size; have n1'' : ¬ (rr = w1.heap.size) := (by omega); have n1b : ¬ (w1.heap.size = rr) := (by omega); have n1c : ¬ (pb = w1.heap.size) := (by omega); have n1d : ¬ (w1.heap.size = pb) := (by omega); (try (have b71 : Blk w1 W0.heap.size 35 #[.int .i64 0, .int .i64 0] := Blk.below (by first | (with_reducible exact Blk.new' (by simp)) | (with_reducible exact Blk.drew (Blk.new' (by simp)))) hb1 (by simp); have l71 := b71.lt)))
   | (go_at_call 139; refine (hadd _).mono ?_; rintro e w2 ⟨rfl, hb2⟩; have hB2 : Below w.heap.size w w2 := qac (by exact bel2) hb2; have b62 : Blk w2 w.heap.size 35 #[.int .i64 0, .int .i64 0] := Blk.below (by exact blk2) hb2 (by first | omega | (simp <;> omega)); have k3 := hbk _ hB2; obtain ⟨x1, x2, x3⟩ := hpc _ hB2; have l62 := b62.lt; have hz2 := hB2.size; have n2'' : ¬ (rr = w2.heap.size) := (by omega); have n2b : ¬ (w2.heap.size = rr) := (by omega); have n2c : ¬ (pb = w2.heap.size) := (by omega); have n2d : ¬ (w2.heap.size = pb) := (by omega); (try (have b72 : Blk w2 W0.heap.size 35 #[.int .i64 0, .int .i64 0] := Blk.below (by with_reducible exact b71) hb2 (by omega); have c7 := b72.cell; have g7 := b72.frozen; have l72 := b72.lt)); (try (have b72 : Blk w2 w1.heap.size 35 #[.int .i64 0, .int .i64 0] := Blk.below (by first | (with_reducible exact Blk.new' (by simp)) | (with_reducible exact Blk.drew (Blk.new' (by simp)))) hb2 (by simp); have c7 := b72.cell; have g7 := b72.frozen; have l72 := b72.lt))))
  all_goals go_wp2_with fail
  ·go_meet
   exact ⟨_, rfl, hB2.alloc hz2 _, b62.alloc _, Blk.new' rfl, by omega⟩
  ·go_meet
   exact ⟨_, rfl, qbk hB2 (by omega) .., qff b62 (by omega) .., qc4 b72 .., by omega⟩
  ·go_meet
   exact ⟨_, rfl, qbk hB2 (by omega) .., qff b62 (by omega) .., qc4 b72 .., by omega⟩
 case rest =>
  obtain ⟨b7, rfl, hBc, b6c, b7c, hlt7⟩ := hcut
  clear b6 hB0 z1 z2 z3 k1 n0b n0d n0e n0f hus hadd hbk
  have z0 := b7c.cell 0
  have z1 := b7c.cell 1
  have l6c := b6c.lt
  have l7c := b7c.lt
  obtain ⟨z2, _, _⟩ := hpc _ hBc
  simp only [List.getElem?_toArray, List.getElem?_cons_zero, List.getElem?_cons_succ] at z0 z1
  go_upto_region 2 with fail
  go_region_with (first
   | (go_at_call 189; refine (habv _).mono ?_; rintro e w2 ⟨rfl, hb2⟩; have hB2 : Below w.heap.size w w2 := qac (by exact bel2) hb2; have b62 : Blk w2 w.heap.size 35 #[.int .i64 0, .int .i64 0] := Blk.below (by exact blk2) hb2 (by first | exact b61.lt | omega | (simp <;> omega)); have q0 := b62.cell 0; have q1 := b62.cell 1; have q2 := b62.frozen 0; have q3 := b62.frozen 1; simp only [List.getElem?_toArray, List.getElem?_cons_zero, List.getElem?_cons_succ] at q0 q1)
   | (go_at_call 85; refine (hli _ ?_).mono ?_; (focus exact bel2); rintro e w1 ⟨rfl, hb1⟩; have hB1 : Below w.heap.size w w1 := qac (by exact bel2) hb1; have b61 : Blk w1 w.heap.size 35 #[.int .i64 0, .int .i64 0] := Blk.below (by exact blk2) hb1 (by first | omega | (simp <;> omega)); have b71 : Blk w1 b7 35 #[.int .i64 (u0 + a), .int .i64 (u1 + b)] := Blk.below (by exact blk2) hb1 (by first | omega | (simp <;> omega)); have y0 := b71.cell 0; have y1 := b71.cell 1; have l61 := b61.lt; simp only [List.getElem?_toArray, List.getElem?_cons_zero, List.getElem?_cons_succ] at y0 y1))
  all_goals go_wp2_with fail
  all_goals have b63 := qc4 b62 (.int .i64 (abv (u0 + a) n0)) (.int .i64 (abv (u1 + b) n1))
  all_goals have hc3 := b63.cell
  all_goals exact bodyPost_ret (v := .agg #[.int .i64 (abv (u0 + a) n0), .int .i64 (abv (u1 + b) n1)]) (by simp [results, Tryz.results207, go_sem, hc3]) rfl ⟨rfl, qbk hB2 (by omega) ..⟩
end Go.Proofs.YtphclnolomgjoaaGreatDoor
namespace Go.Proofs.YtphclnolomgjoaaGreatDoor
def swp {α : Type} (ys : List α) (i j : Nat) (a b : α) : List α := (ys.set i b).set j a
theorem qkv {α : Type} (ys : List α) (i j : Nat) (a b : α) : (swp ys i j a b).length = ys.length := by simp [swp]
theorem qrq {α : Type} {ys : List α} {i j : Nat} {a b : α} (hi : ys[i]? = some a) (hj : ys[j]? = some b) (m : Nat) : (swp ys i j a b)[m]? = if m = j then some a else if m = i then some b else ys[m]? := by
 have h1 := (List.getElem?_eq_some_iff.1 hi).1
 have h2 := (List.getElem?_eq_some_iff.1 hj).1
 unfold swp
 rw [List.getElem?_set, List.length_set, List.getElem?_set]
 by_cases e1 : m = j
 ·subst e1; simp [h2]
 ·rw [if_neg (fun e => e1 e.symm), if_neg e1]
  by_cases e2 : m = i
  ·subst e2; simp [h1]
  ·rw [if_neg (fun e => e2 e.symm), if_neg e2]
theorem set_perm {α : Type} {l : List α} {i : Nat} {a : α} (hi : l[i]? = some a) (b : α) : (b :: l).Perm (a :: l.set i b) := by
 induction l generalizing i with
 | nil => simp at hi
 | cons x l ih =>
  cases i with
  | zero => simp at hi; subst hi; simp; exact List.Perm.swap ..
  | succ i =>
   simp at hi
   have h1 := ih hi
   simp only [List.set_cons_succ]
   exact ((List.Perm.swap x b l).trans (h1.cons x)).trans (List.Perm.swap a x _)
theorem qhi {α : Type} {ys : List α} {i j : Nat} {a b : α} (hij : i ≠ j) (hi : ys[i]? = some a) (hj : ys[j]? = some b) : (swp ys i j a b).Perm ys := by
 unfold swp
 have h1 := set_perm hi b
 have hj' : (ys.set i b)[j]? = some b := by rw [List.getElem?_set, if_neg hij]; exact hj
 have h2 := set_perm hj' a
 exact (List.perm_cons b).1 (h2.symm.trans h1.symm)
structure Ord {α : Type} (lt : α -> α -> Bool) : Prop where
 asymm : ∀ a b, lt a b = true -> lt b a = false
 trans : ∀ a b c, lt a b = false -> lt b c = false -> lt a c = false
def qbp {α : Type} (lt : α -> α -> Bool) (ys : List α) : Prop := ∀ (j : Nat) (a b : α), 0 < j -> ys[j]? = some a -> ys[(j - 1) / 2]? = some b -> lt a b = false
structure qgj {α : Type} (lt : α -> α -> Bool) (ys : List α) (k : Nat) : Prop where
 one : ∀ (j : Nat) (a b : α), 0 < j -> j ≠ k -> ys[j]? = some a -> ys[(j - 1) / 2]? = some b -> lt a b = false
 two : ∀ (j : Nat) (a b : α), 0 < j -> (j - 1) / 2 = k -> 0 < k -> ys[j]? = some a -> ys[(k - 1) / 2]? = some b -> lt a b = false
structure qbr {α : Type} (lt : α -> α -> Bool) (ys : List α) (k : Nat) : Prop where
 one : ∀ (j : Nat) (a b : α), 0 < j -> (j - 1) / 2 ≠ k -> ys[j]? = some a -> ys[(j - 1) / 2]? = some b -> lt a b = false
 two : ∀ (j : Nat) (a b : α), 0 < j -> (j - 1) / 2 = k -> 0 < k -> ys[j]? = some a -> ys[(k - 1) / 2]? = some b -> lt a b = false
theorem qgj.zero {α : Type} {lt : α -> α -> Bool} {ys : List α} (h : qgj lt ys 0) : qbp lt ys := fun j a b hj => h.one j a b hj (by omega)
theorem qgj.stop {α : Type} {lt : α -> α -> Bool} {ys : List α} {k : Nat} (h : qgj lt ys k) {a b : α} (ha : ys[k]? = some a) (hb : ys[(k - 1) / 2]? = some b) (hl : lt a b = false) : qbp lt ys := by
 intro j x y hj hx hy
 by_cases e : j = k
 ·subst e; rw [ha] at hx; rw [hb] at hy; cases hx; cases hy; exact hl
 ·exact h.one j x y hj e hx hy
theorem qgj.step {α : Type} {lt : α -> α -> Bool} (O : Ord lt) {ys : List α} {k : Nat} (hk : 0 < k) (h : qgj lt ys k) {a b : α} (ha : ys[k]? = some a) (hb : ys[(k - 1) / 2]? = some b) (hl : lt a b = true) : qgj lt (swp ys k ((k - 1) / 2) a b) ((k - 1) / 2) := by
 have G := qrq ha hb
 obtain ⟨p, hp⟩ : ∃ p, p = (k - 1) / 2 := ⟨_, rfl⟩
 rw [<- hp] at hb G ⊢
 have hpk : p < k := by omega
 have hab := O.asymm a b hl
 refine ⟨fun j x y hj hjp hx hy => ?_, fun j x y hj hq hp0 hx hy => ?_⟩
 ·rw [G] at hx hy
  rw [if_neg hjp] at hx
  by_cases e : j = k
  ·subst e
   rw [if_pos rfl] at hx
   rw [if_pos (by omega)] at hy
   cases hx; cases hy; exact hab
  ·rw [if_neg e] at hx
   by_cases e1 : (j - 1) / 2 = p
   ·rw [if_pos e1] at hy; cases hy
    exact O.trans x b a (h.one j x b hj e hx (by rw [e1]; exact hb)) hab
   ·rw [if_neg e1] at hy
    by_cases e2 : (j - 1) / 2 = k
    ·rw [if_pos e2] at hy; cases hy
     exact h.two j x b hj e2 hk hx (by rw [<- hp]; exact hb)
    ·rw [if_neg e2] at hy
     exact h.one j x y hj e hx hy
 ·rw [G] at hx hy
  rw [if_neg (by omega), if_neg (by omega)] at hy
  rw [if_neg (by omega)] at hx
  have hbr : lt b y = false := h.one p b y hp0 (by omega) hb hy
  by_cases e : j = k
  ·rw [if_pos e] at hx; cases hx; exact hbr
  ·rw [if_neg e] at hx
   exact O.trans x b y (h.one j x b hj e hx (by rw [hq]; exact hb)) hbr
theorem qbr.stop {α : Type} {lt : α -> α -> Bool} {ys : List α} {k : Nat} (h : qbr lt ys k) {a : α} (ha : ys[k]? = some a) (h1 : ∀ b, ys[2 * k + 1]? = some b -> lt b a = false) (h2 : ∀ b, ys[2 * k + 2]? = some b -> lt b a = false) : qbp lt ys := by
 intro j x y hj hx hy
 by_cases e : (j - 1) / 2 = k
 ·rw [e, ha] at hy; cases hy
  rcases (by omega : j = 2 * k + 1 \/ j = 2 * k + 2) with rfl | rfl
  ·exact h1 x hx
  ·exact h2 x hx
 ·exact h.one j x y hj e hx hy
theorem qbr.step {α : Type} {lt : α -> α -> Bool} (O : Ord lt) {ys : List α} {k f : Nat} (hf : f = 2 * k + 1 \/ f = 2 * k + 2) (h : qbr lt ys k) {a b : α} (ha : ys[k]? = some a) (hb : ys[f]? = some b) (hl : lt b a = true) (hc : ∀ c x, (c = 2 * k + 1 \/ c = 2 * k + 2) -> ys[c]? = some x -> c ≠ f -> lt x b = false) : qbr lt (swp ys k f a b) f := by
 have G := qrq ha hb
 have hba := O.asymm b a hl
 refine ⟨fun j x y hj hq hx hy => ?_, fun j x y hj hq hf0 hx hy => ?_⟩
 ·rw [G] at hx hy
  rw [if_neg hq] at hy
  by_cases e : j = f
  ·rw [if_pos e] at hx
   rw [if_pos (by omega)] at hy
   cases hx; cases hy; exact hba
  ·rw [if_neg e] at hx
   by_cases e1 : j = k
   ·rw [if_pos e1] at hx; cases hx
    rw [if_neg (by omega)] at hy
    exact h.two f b y (by omega) (by omega) (by omega) hb (by rw [<- e1]; exact hy)
   ·rw [if_neg e1] at hx
    by_cases e2 : (j - 1) / 2 = k
    ·rw [if_pos e2] at hy; cases hy
     exact hc j x (by omega) hx e
    ·rw [if_neg e2] at hy
     exact h.one j x y hj e2 hx hy
 ·rw [G] at hx hy
  rw [if_neg (by omega), if_neg (by omega)] at hx
  rw [if_neg (by omega), if_pos (by omega)] at hy
  cases hy
  exact h.one j x b hj (by omega) hx (by rw [hq]; exact hb)
theorem qbp.min {α : Type} {lt : α -> α -> Bool} (O : Ord lt) {ys : List α} (h : qbp lt ys) {m : α} (hm : ys[0]? = some m) (hmm : lt m m = false) : ∀ (j : Nat) (a : α), ys[j]? = some a -> lt a m = false := by
 intro j
 induction j using Nat.strongRecOn with
 | _ j ih =>
  intro a ha
  by_cases e : j = 0
  ·subst e; rw [hm] at ha; cases ha; exact hmm
  ·have hlt := (List.getElem?_eq_some_iff.1 ha).1
   obtain ⟨b, hb⟩ : ∃ b, ys[(j - 1) / 2]? = some b := ⟨_, List.getElem?_eq_getElem (by omega)⟩
   exact O.trans a b m (h j a b (by omega) ha hb) (ih _ (by omega) b hb)
theorem qbp.push {α : Type} {lt : α -> α -> Bool} {ys : List α} (h : qbp lt ys) (x : α) : qgj lt (ys ++ [x]) ys.length := by
 refine ⟨fun j a b hj hn ha hb => ?_, fun j a b hj hq hk ha hb => ?_⟩
 ·have hlt := (List.getElem?_eq_some_iff.1 ha).1
  simp at hlt
  rw [List.getElem?_append_left (by omega)] at ha hb
  exact h j a b hj ha hb
 ·have hlt := (List.getElem?_eq_some_iff.1 ha).1
  simp at hlt
  omega
theorem qbp.pop {α : Type} {lt : α -> α -> Bool} {ys : List α} (h : qbp lt ys) (b : α) : qbr lt ((ys.set 0 b).take (ys.length - 1)) 0 := by
 refine ⟨fun j x y hj hq hx hy => ?_, fun j x y hj hq hk => by omega⟩
 have hlt := (List.getElem?_eq_some_iff.1 hx).1
 simp at hlt
 rw [List.getElem?_take_of_lt (by omega), List.getElem?_set, if_neg (by omega)] at hx hy
 exact h j x y hj hx hy
theorem qnz {α : Type} {ys : List α} {a b : α} (ha : ys[0]? = some a) (hb : ys[ys.length - 1]? = some b) : (a :: (ys.set 0 b).take (ys.length - 1)).Perm ys := by
 cases ys with
 | nil => simp at ha
 | cons x l =>
  simp at ha; subst ha
  rcases List.eq_nil_or_concat l with rfl | ⟨l', z, rfl⟩
  ·simp
  ·have hz : b = z := by simp at hb; exact hb.symm
   subst hz
   simp only [List.set_cons_zero, List.length_cons, List.concat_eq_append, List.length_append, List.length_nil]
   rw [show l'.length + 1 + 1 - 1 = l'.length + 1 by omega, List.take_succ_cons, List.take_left']
   ·exact (List.perm_append_singleton b l').symm.cons x
   ·rfl
end Go.Proofs.YtphclnolomgjoaaGreatDoor
namespace Go.Proofs.YtphclnolomgjoaaGreatDoor
open Go.RowKit
structure HpAt (W : World) (hb : Nat) (f v : Value) (ys : List Pw) : Prop where
 at_ : Blk W hb 247 #[f, v]
 row : W.ownsRow 0 95 1 v ys.length (qay ys)
 ne : v.ownBlock ≠ some hb
theorem HpAt.get {W : World} {hb : Nat} {f v : Value} {ys : List Pw} (h : HpAt W hb f v ys) {i : Nat} {p : Pw} (hi : ys[i]? = some p) : ∃ g cap, v = .slice (some ⟨g, 0, none⟩) ys.length cap /\ g < W.heap.size /\ g ≠ hb /\ ys.length <= cap /\ cap <= maxLen /\ W.cell? ⟨g, i, none⟩ = some (nptr p.blk) /\ W.frozen? ⟨g, i, none⟩ = false := by
 obtain ⟨g, cap, rfl, h1, h2⟩ := qat h.row (Nat.lt_of_le_of_lt (Nat.zero_le _) (List.getElem?_eq_some_iff.1 hi).1)
 have := h.row.cells (g := g) rfl i (nptr p.blk) (by unfold qay; rw [List.getElem?_map, hi]; rfl)
 rw [Addr.add_lit, Nat.zero_add] at this
 exact ⟨g, cap, rfl, qal h.row rfl, fun e => h.ne (by simp [Value.ownBlock, e]), h1, h2, this, h.row.frozenAt _⟩
theorem HpAt.drew {W : World} {hb : Nat} {f v : Value} {ys : List Pw} (h : HpAt W hb f v ys) : HpAt W.drew hb f v ys := ⟨h.at_.drew, h.row.drew, h.ne⟩
set_option maxRecDepth 100000 in
set_option maxHeartbeats 2000000 in
theorem qqn {w : World} {hb : Nat} {f v : Value} {ys : List Pw} (h : HpAt w hb f v ys) (hl : ys.length <= 100) {i j : Nat} {a b : Pw} (hi : ys[i]? = some a) (hj : ys[j]? = some b) (hij : i ≠ j) :
  Calls Tryz.prog 229 #[.pointer (some ⟨hb, 0, none⟩), .int .i64 i, .int .i64 j] w fun e w' => e = .returned (.tuple #[]) /\ HpAt w' hb f v (swp ys i j a b) /\ Keep (fun y => v.ownBlock = some y) w w' := by
 obtain ⟨g, cap, hv, hgl, hgh, hc1, hc2, ci, fi⟩ := h.get hi
 obtain ⟨g', cap', hv', _, _, _, _, cj, fj⟩ := h.get hj
 rw [hv] at hv'
 injection hv' with e1 _ e3
 injection e1 with e1
 injection e1 with e1
 subst e1 e3
 have hil := (List.getElem?_eq_some_iff.1 hi).1
 have hjl := (List.getElem?_eq_some_iff.1 hj).1
 have c1 := h.at_.cell 1
 have hlt := h.at_.lt
 simp only [List.getElem?_toArray, List.getElem?_cons_zero, List.getElem?_cons_succ] at c1
 rw [hv] at c1
 obtain ⟨n, hn⟩ : ∃ n, n = ys.length := ⟨_, rfl⟩
 rw [<- hn] at c1 hil hjl hc1 hl
 have h1 : (i : Int) < n := by omega
 have h2 : (0 : Int) <= i := by omega
 have h3 : (j : Int) < n := by omega
 have h4 : (0 : Int) <= j := by omega
 have hji : ¬ (j = i) := fun e => hij e.symm
 have hbg : ¬ (hb = g) := fun e => hgh e.symm
 have hpost : HpAt ((w.setCell ⟨g, i, none⟩ (nptr b.blk)).setCell ⟨g, j, none⟩ (nptr a.blk)) hb f v (swp ys i j a b) /\ Keep (fun y => v.ownBlock = some y) w ((w.setCell ⟨g, i, none⟩ (nptr b.blk)).setCell ⟨g, j, none⟩ (nptr a.blk)) := by
  subst hv
  refine ⟨⟨(h.at_.other _ _ hbg).other _ _ hbg, ?_, h.ne⟩, ?_⟩
  ·have r1 := ((h.row.stored i (nptr b.blk)).1.stored j (nptr a.blk)).1
   rw [qkv]
   have : qay (swp ys i j a b) = ((qay ys).set i (nptr b.blk)).set j (nptr a.blk) := by simp [qay, swp, List.map_set]
   rw [this]
   exact r1
  ·exact ((Keep.refl _ _).setCell (p := ⟨g, i, none⟩) (by simp [Value.ownBlock]) _).setCell (p := ⟨g, j, none⟩) (by simp [Value.ownBlock]) _
 have HP : Hid (HpAt ((w.setCell ⟨g, i, none⟩ (nptr b.blk)).setCell ⟨g, j, none⟩ (nptr a.blk)) hb f v (swp ys i j a b) /\ Keep (fun y => v.ownBlock = some y) w ((w.setCell ⟨g, i, none⟩ (nptr b.blk)).setCell ⟨g, j, none⟩ (nptr a.blk))) := hpost
 clear hpost h hi hj hn
 unfold nptr at ci cj
 go_enter Tryz.func229, Tryz.ntmps229
 go_wp2_with fail
 go_region
 all_goals go_wp2_with fail
 go_end0
 obtain ⟨p1, p2⟩ := HP.out
 exact ⟨rfl, p1.drew, p2.drew⟩
theorem HpAt.below {W W' : World} {hb : Nat} {f v : Value} {ys : List Pw} (h : HpAt W hb f v ys) (hB : Below W.heap.size W W') : HpAt W' hb f v ys :=
 ⟨h.at_.below hB h.at_.lt, qab (T := fun _ => False) h.row (Keep.new hB) (fun _ _ e => e), h.ne⟩
set_option maxRecDepth 100000 in
set_option maxHeartbeats 2000000 in
theorem qqg {w : World} {hb : Nat} {v : Value} {ys : List Pw} (h : HpAt w hb (.func (.func 168) #[] #[]) v ys) (hl : ys.length <= 100) {i j : Nat} {a : Pw} (hi : ys[i]? = some a) (hjb : j <= 1000) (lt : Pw -> Pw -> Bool)
  (hbef : ∀ W, Below w.heap.size w W -> ∀ b, ys[j]? = some b -> Calls Tryz.prog 168 #[nptr b.blk, nptr a.blk] W fun e w' => e = .returned (.bool (lt b a)) /\ Below W.heap.size W w') :
  Calls Tryz.prog 228 #[.pointer (some ⟨hb, 0, none⟩), .int .i64 i, .int .i64 j] w fun e w' => e = .returned (.int .i64 (match ys[j]? with | some b => if lt b a then (j : Int) else (i : Int) | none => (i : Int))) /\ Below w.heap.size w w' := by
 obtain ⟨g, cap, hv, hgl, hgh, hc1, hc2, ci, fi⟩ := h.get hi
 have hil := (List.getElem?_eq_some_iff.1 hi).1
 have c0 := h.at_.cell 0
 have c1 := h.at_.cell 1
 have hlt := h.at_.lt
 simp only [List.getElem?_toArray, List.getElem?_cons_zero, List.getElem?_cons_succ] at c0 c1
 rw [hv] at c1
 obtain ⟨n, hn⟩ : ∃ n, n = ys.length := ⟨_, rfl⟩
 rw [<- hn] at c1 hil hc1 hl
 have h1 : (i : Int) < n := by omega
 have h2 : (0 : Int) <= i := by omega
 have h4 : (0 : Int) <= j := by omega
 have HN : Hid (n = ys.length) := hn
 clear hn
 cases hj : ys[j]? with
 | none =>
  have hjd : decide (j < n) = false := decide_eq_false (by have := List.getElem?_eq_none_iff.1 hj; have := HN.out; omega)
  clear hbef h hj hi hv
  simp only
  go_enter Tryz.func228, Tryz.ntmps228
  go_wp2_with fail
  go_quiet (fail)
  go_wp2_with fail
  go_ret
  exact ⟨rfl, below_drewN (Below.refl _ _) _⟩
 | some b =>
  obtain ⟨g', cap', hv', _, _, _, _, cj, fj⟩ := h.get hj
  rw [hv] at hv'
  injection hv' with e1 _ e3
  injection e1 with e1
  injection e1 with e1
  subst e1 e3
  have hjn : (j : Int) < n := by have := (List.getElem?_eq_some_iff.1 hj).1; have := HN.out; omega
  have hjd : decide ((j : Int) < n) = true := decide_eq_true hjn
  have hbe := fun W hW => hbef W hW b hj
  unfold nptr at ci cj hbe
  clear hbef h hi hj hv
  simp only
  generalize lt b a = t at hbe ⊢
  go_enter Tryz.func228, Tryz.ntmps228
  go_upto_region 1 with fail
  go_cut [34] from 7 (fun q wx => q = .bool t /\ Below w.heap.size w wx)
  case first =>
   go_region_held3 (fun w' => w'.cell? ⟨hb, 0, none⟩ = some (.func (.func 168) #[] #[]) /\ w'.cell? ⟨hb, 1, none⟩ = some (.slice (some ⟨g, 0, none⟩) n cap) /\ w'.cell? ⟨g, i, none⟩ = some (.pointer (some ⟨a.blk, 0, none⟩)) /\ w'.cell? ⟨g, j, none⟩ = some (.pointer (some ⟨b.blk, 0, none⟩))) (go_keep)
    (first
    | (go_at_call 168; refine (hbe _ ?_).mono ?_; (focus exact bel2); rintro e w1 ⟨rfl, hb1⟩; have hB1 : Below w.heap.size w w1 := qac (by exact bel2) hb1; have r0 := (hB1.cell (p := ⟨hb, 0, none⟩) hlt).trans c0; have r1 := (hB1.cell (p := ⟨hb, 1, none⟩) hlt).trans c1; have r2 := (hB1.cell (p := ⟨g, i, none⟩) hgl).trans ci; have r3 := (hB1.cell (p := ⟨g, j, none⟩) hgl).trans cj))
   all_goals go_wp2_with fail
   go_meet
   exact ⟨rfl, hB1⟩
  case rest =>
   obtain ⟨rfl, hBc⟩ := hcut
   cases t
   ·go_wp2_with fail
    go_ret
    exact ⟨rfl, hBc⟩
   ·go_wp2_with fail
    go_ret
    exact ⟨rfl, hBc⟩
theorem quo2 (k : Nat) (hk : 0 < k) : ((k : Int) - 1).tdiv 2 = ((k - 1) / 2 : Nat) := by
 obtain ⟨m, rfl⟩ : ∃ m, k = m + 1 := ⟨k - 1, by omega⟩
 simp only [Nat.add_sub_cancel]
 rw [show ((m + 1 : Nat) : Int) - 1 = (m : Int) by omega]
 rfl
def Befs (w : World) (T : Nat -> Prop) (ys : List Pw) (lt : Pw -> Pw -> Bool) : Prop :=
 ∀ W, Keep T w W -> ∀ a ∈ ys, ∀ b ∈ ys, Calls Tryz.prog 168 #[nptr a.blk, nptr b.blk] W fun e w' => e = .returned (.bool (lt a b)) /\ Below W.heap.size W w'
set_option maxRecDepth 100000 in
set_option maxHeartbeats 2000000 in
theorem qu6 {w : World} {hb : Nat} {v : Value} {ys : List Pw} {lt : Pw -> Pw -> Bool} (O : Ord lt) (h : HpAt w hb (.func (.func 168) #[] #[]) v ys) (hl : ys.length <= 100) {k : Nat} (hk : k < ys.length) (hU : qgj lt ys k) (hbef : Befs w (fun y => v.ownBlock = some y) ys lt) :
  Calls Tryz.prog 227 #[.pointer (some ⟨hb, 0, none⟩), .int .i64 k] w fun e w' => e = .returned (.tuple #[]) /\ ∃ zs, zs.Perm ys /\ qbp lt zs /\ HpAt w' hb (.func (.func 168) #[] #[]) v zs /\ Keep (fun y => v.ownBlock = some y) w w' := by
 have hlt := h.at_.lt
 obtain ⟨T, hT⟩ : ∃ T : Nat -> Prop, T = fun y => v.ownBlock = some y := ⟨_, rfl⟩
 rw [<- hT] at hbef ⊢
 have HT : Hid (T = fun y => v.ownBlock = some y) := hT
 clear hT
 go_enter Tryz.func227, Tryz.ntmps227
 go_wp2_with fail
 go_loopg [1] k (fun q vk wr => ∃ (j : Nat) (zs : List Pw), vk = .int .i64 j /\ j <= q /\ j < zs.length /\ zs.Perm ys /\ qgj lt zs j /\ HpAt wr hb (.func (.func 168) #[] #[]) v zs /\ Keep T w wr)
 case atStart => exact ⟨k, ys, rfl, Nat.le_refl _, hk, List.Perm.refl _, hU, h, Keep.refl _ _⟩
 case round =>
  clear h hU hk
  obtain ⟨j, zs, rfl, hjq, hjl, hperm, hU, hH, hK⟩ := hrel
  have hzl : zs.length <= 100 := by rw [hperm.length_eq]; exact hl
  by_cases hj0 : j = 0
  ·subst hj0
   have hend := hU.zero
   have HE : Hid (qbp lt zs) := hend
   clear hend hU
   go_wp2_with fail
   go_end0
   exact ⟨rfl, zs, hperm, HE.out, hH, hK⟩
  ·obtain ⟨a, ha⟩ : ∃ a, zs[j]? = some a := ⟨_, List.getElem?_eq_getElem hjl⟩
   obtain ⟨b, hbx⟩ : ∃ b, zs[(j - 1) / 2]? = some b := ⟨_, List.getElem?_eq_getElem (by omega)⟩
   have hquo := quo2 j (by omega)
   obtain ⟨p, hp⟩ : ∃ p, p = (j - 1) / 2 := ⟨_, rfl⟩
   rw [<- hp] at hbx hquo
   have hpj : p < j := by omega
   have HP : Hid (p = (j - 1) / 2) := hp
   clear hp
   obtain ⟨g, cap, hv, hgl, hgh, hc1, hc2, ci, fi⟩ := hH.get ha
   obtain ⟨g', cap', hv', _, _, _, _, cj, fj⟩ := hH.get hbx
   rw [hv] at hv'
   injection hv' with e1 _ e3
   injection e1 with e1
   injection e1 with e1
   subst e1 e3
   have c0 := hH.at_.cell 0
   have c1 := hH.at_.cell 1
   have hhl := hH.at_.lt
   simp only [List.getElem?_toArray, List.getElem?_cons_zero, List.getElem?_cons_succ] at c0 c1
   rw [hv] at c1
   have ham := hperm.mem_iff.1 (List.mem_of_getElem? ha)
   have hbm := hperm.mem_iff.1 (List.mem_of_getElem? hbx)
   have hbe := fun W (hW : Below wr.heap.size wr W) => hbef W (hK.trans (Keep.new hW)) a ham b hbm
   have hsw := fun W (hW : Below wr.heap.size wr W) => qqn (hH.below hW) hzl ha hbx (by omega)
   obtain ⟨n, hn⟩ : ∃ n, n = zs.length := ⟨_, rfl⟩
   rw [<- hn] at c1 hc1 hjl hzl
   have HN : Hid (n = zs.length) := hn
   have HV : Hid (v = .slice (some ⟨g, 0, none⟩) zs.length cap) := hv
   have hj1 : (j : Int) < n := by omega
   have hj2 : (0 : Int) <= j := by omega
   have hj3 : (0 : Int) < j := by omega
   have hp1 : (p : Int) < n := by omega
   have hp2 : (0 : Int) <= p := by omega
   unfold nptr at ci cj hbe
   have HH : Hid (HpAt wr hb (.func (.func 168) #[] #[]) v zs) := hH
   have HA : Hid (zs[j]? = some a /\ zs[p]? = some b) := ⟨ha, hbx⟩
   clear hn hv ha hbx hH hj0
   generalize hlt0 : lt a b = t at hbe
   have HLT : Hid (lt a b = t) := hlt0
   clear hlt0
   go_upto_region 2 with fail
   go_cut [29] from 5 to 34 (fun q wx => q = .bool (!t) /\ Below wr.heap.size wr wx)
   case first =>
    go_region_held3 (fun w' => w'.cell? ⟨hb, 0, none⟩ = some (.func (.func 168) #[] #[]) /\ w'.cell? ⟨hb, 1, none⟩ = some (.slice (some ⟨g, 0, none⟩) n cap) /\ w'.cell? ⟨g, j, none⟩ = some (.pointer (some ⟨a.blk, 0, none⟩)) /\ w'.cell? ⟨g, p, none⟩ = some (.pointer (some ⟨b.blk, 0, none⟩))) (go_keep)
     (first
     | (go_at_call 168; refine (hbe _ ?_).mono ?_; (focus exact bel2); rintro e w1 ⟨rfl, hb1⟩; have hB1 : Below wr.heap.size wr w1 := qac (by exact bel2) hb1; have r0 := (hB1.cell (p := ⟨hb, 0, none⟩) hhl).trans c0; have r1 := (hB1.cell (p := ⟨hb, 1, none⟩) hhl).trans c1; have r2 := (hB1.cell (p := ⟨g, j, none⟩) hgl).trans ci; have r3 := (hB1.cell (p := ⟨g, p, none⟩) hgl).trans cj))
    all_goals go_wp2_with fail
    go_meet
    exact ⟨rfl, hB1⟩
   case rest =>
    obtain ⟨rfl, hBc⟩ := hcut
    clear c0 c1 ci cj fi fj hbe
    cases t
    ·have hend := hU.stop HA.out.1 (by rw [<- HP.out]; exact HA.out.2) HLT.out
     have HE : Hid (qbp lt zs) := hend
     clear hend hU
     go_wp2_with fail
     exact bodyPost_ret (v := .tuple #[]) (by simp [results, Tryz.results227, go_sem]) rfl ⟨rfl, zs, hperm, HE.out, HH.out.below hBc, hK.trans (Keep.new hBc)⟩
    ·go_wp2_with fail
     refine (hsw _ hBc).mono ?_
     rintro e w3 ⟨rfl, hH3, hK3⟩
     have hU3 : qgj lt (swp zs j p a b) p := by
      have := hU.step O (by omega) HA.out.1 (by rw [<- HP.out]; exact HA.out.2) HLT.out
      rw [<- HP.out] at this
      exact this
     have hperm3 : (swp zs j p a b).Perm ys := (qhi (by omega) HA.out.1 HA.out.2).trans hperm
     have hK4 : Keep T w w3 := (hK.trans (Keep.new hBc)).trans (by rw [HT.out]; exact hK3)
     clear hsw hU
     go_wp2_with fail
     go_roundg p
     case measure => omega
     case rel => exact ⟨p, swp zs j p a b, rfl, Nat.le_refl _, by rw [qkv, <- HN.out]; omega, hperm3, hU3, hH3, hK4⟩
def fo {α : Type} (lt : α -> α -> Bool) (zs : List α) (a : α) (i j : Nat) : Nat := match zs[j]? with | some b => if lt b a then j else i | none => i
theorem qjm {α : Type} {lt : α -> α -> Bool} (O : Ord lt) {zs : List α} {k : Nat} {a a1 : α} (h : qbr lt zs k) (ha : zs[k]? = some a) (ha1 : zs[fo lt zs a k (2 * k + 1)]? = some a1) :
  (fo lt zs a1 (fo lt zs a k (2 * k + 1)) (2 * k + 2) = k /\ qbp lt zs) \/
  (fo lt zs a1 (fo lt zs a k (2 * k + 1)) (2 * k + 2) ≠ k /\ ∃ b, zs[fo lt zs a1 (fo lt zs a k (2 * k + 1)) (2 * k + 2)]? = some b /\ k < fo lt zs a1 (fo lt zs a k (2 * k + 1)) (2 * k + 2) /\ qbr lt (swp zs k (fo lt zs a1 (fo lt zs a k (2 * k + 1)) (2 * k + 2)) a b) (fo lt zs a1 (fo lt zs a k (2 * k + 1)) (2 * k + 2))) := by
 unfold fo at *
 cases h1 : zs[2 * k + 1]? with
 | none =>
  rw [h1] at ha1
  simp only at ha1 ⊢
  rw [ha] at ha1; cases ha1
  have h2 : zs[2 * k + 2]? = none := List.getElem?_eq_none_iff.2 (by have := List.getElem?_eq_none_iff.1 h1; omega)
  rw [h2]
  simp only
  exact .inl ⟨trivial, h.stop ha (fun b hb => by rw [h1] at hb; cases hb) (fun b hb => by rw [h2] at hb; cases hb)⟩
 | some c1 =>
  rw [h1] at ha1
  simp only at ha1 ⊢
  cases hl1 : lt c1 a with
  | false =>
   rw [hl1] at ha1
   simp only [Bool.false_eq_true, if_false] at ha1 ⊢
   rw [ha] at ha1; cases ha1
   cases h2 : zs[2 * k + 2]? with
   | none =>
    simp only
    exact .inl ⟨trivial, h.stop ha (fun b hb => by rw [h1] at hb; cases hb; exact hl1) (fun b hb => by rw [h2] at hb; cases hb)⟩
   | some c2 =>
    simp only
    cases hl2 : lt c2 a with
    | false =>
     simp only [Bool.false_eq_true, if_false]
     exact .inl ⟨trivial, h.stop ha (fun b hb => by rw [h1] at hb; cases hb; exact hl1) (fun b hb => by rw [h2] at hb; cases hb; exact hl2)⟩
    | true =>
     simp only [if_true]
     refine .inr ⟨by omega, c2, h2, by omega, h.step O (.inr rfl) ha h2 hl2 (fun c x hc hx hne => ?_)⟩
     have hcc : c = 2 * k + 1 := by omega
     subst hcc
     rw [h1] at hx; cases hx
     exact O.trans _ _ _ hl1 (O.asymm _ _ hl2)
  | true =>
   rw [hl1] at ha1
   simp only [if_true] at ha1 ⊢
   have hc1 : c1 = a1 := by rw [h1] at ha1; injection ha1
   subst hc1
   cases h2 : zs[2 * k + 2]? with
   | none =>
    simp only
    refine .inr ⟨by omega, c1, h1, by omega, h.step O (.inl rfl) ha h1 hl1 (fun c x hc hx hne => ?_)⟩
    have hcc : c = 2 * k + 2 := by omega
    subst hcc
    rw [h2] at hx; cases hx
   | some c2 =>
    simp only
    cases hl2 : lt c2 c1 with
    | false =>
     simp only [Bool.false_eq_true, if_false]
     refine .inr ⟨by omega, c1, h1, by omega, h.step O (.inl rfl) ha h1 hl1 (fun c x hc hx hne => ?_)⟩
     have hcc : c = 2 * k + 2 := by omega
     subst hcc
     rw [h2] at hx; cases hx
     exact hl2
    | true =>
     simp only [if_true]
     have hl3 : lt c2 a = true := by
      cases hh : lt c2 a with
      | true => rfl
      | false =>
       have := O.trans _ _ _ hh (O.asymm _ _ hl1)
       rw [hl2] at this; cases this
     refine .inr ⟨by omega, c2, h2, by omega, h.step O (.inr rfl) ha h2 hl3 (fun c x hc hx hne => ?_)⟩
     have hcc : c = 2 * k + 1 := by omega
     subst hcc
     rw [h1] at hx; cases hx
     exact O.asymm _ _ hl2
theorem qws {α : Type} (lt : α -> α -> Bool) (zs : List α) (a : α) {i j : Nat} (hi : i < zs.length) : fo lt zs a i j < zs.length := by
 unfold fo
 cases h : zs[j]? with
 | none => exact hi
 | some b =>
  simp only
  split
  ·exact (List.getElem?_eq_some_iff.1 h).1
  ·exact hi
theorem qp5 {w : World} {hb : Nat} {v : Value} {ys : List Pw} (h : HpAt w hb (.func (.func 168) #[] #[]) v ys) (hl : ys.length <= 100) {i j : Nat} {a : Pw} (hi : ys[i]? = some a) (hjb : j <= 1000) (lt : Pw -> Pw -> Bool)
  (hbef : Befs w (fun y => v.ownBlock = some y) ys lt) :
  Calls Tryz.prog 228 #[.pointer (some ⟨hb, 0, none⟩), .int .i64 i, .int .i64 j] w fun e w' => e = .returned (.int .i64 (fo lt ys a i j)) /\ Below w.heap.size w w' := by
 refine (qqg h hl hi hjb lt (fun W hW b hb => hbef W (Keep.new hW) b (List.mem_of_getElem? hb) a (List.mem_of_getElem? hi))).mono ?_
 rintro e w' ⟨rfl, hB⟩
 refine ⟨?_, hB⟩
 unfold fo
 cases ys[j]? with
 | none => rfl
 | some b => simp only; split <;> rfl
theorem Befs.keep {w w' : World} {T : Nat -> Prop} {ys : List Pw} {lt : Pw -> Pw -> Bool} (h : Befs w T ys lt) (hk : Keep T w w') : Befs w' T ys lt := fun W hW => h W (hk.trans hW)
theorem Befs.perm {w : World} {T : Nat -> Prop} {ys zs : List Pw} {lt : Pw -> Pw -> Bool} (h : Befs w T ys lt) (hp : zs.Perm ys) : Befs w T zs lt := fun W hW a ha b hb => h W hW a (hp.mem_iff.1 ha) b (hp.mem_iff.1 hb)
set_option maxRecDepth 100000 in
set_option maxHeartbeats 2000000 in
theorem qvy {w : World} {hb : Nat} {v : Value} {ys : List Pw} {lt : Pw -> Pw -> Bool} (O : Ord lt) (h : HpAt w hb (.func (.func 168) #[] #[]) v ys) (hl : ys.length <= 100) {k : Nat} (hk : k < ys.length) (hU : qbr lt ys k) (hbef : Befs w (fun y => v.ownBlock = some y) ys lt) :
  Calls Tryz.prog 209 #[.pointer (some ⟨hb, 0, none⟩), .int .i64 k] w fun e w' => e = .returned (.tuple #[]) /\ ∃ zs, zs.Perm ys /\ qbp lt zs /\ HpAt w' hb (.func (.func 168) #[] #[]) v zs /\ Keep (fun y => v.ownBlock = some y) w w' := by
 obtain ⟨T, hT⟩ : ∃ T : Nat -> Prop, T = fun y => v.ownBlock = some y := ⟨_, rfl⟩
 have hfo := fun (W : World) (zs : List Pw) (i j : Nat) (a : Pw) (hH : HpAt W hb (.func (.func 168) #[] #[]) v zs) (hzl : zs.length <= 100) (hi : zs[i]? = some a) (hjb : j <= 1000) (hb' : Befs W T zs lt) => qp5 hH hzl hi hjb lt (by rw [<- hT]; exact hb')
 rw [<- hT] at hbef ⊢
 have HT : Hid (T = fun y => v.ownBlock = some y) := hT
 clear hT
 obtain ⟨N, hN⟩ : ∃ N, N = ys.length := ⟨_, rfl⟩
 have HN : Hid (N = ys.length) := hN
 rw [<- hN] at hl
 clear hN
 go_enter Tryz.func209, Tryz.ntmps209
 go_wp2_with fail
 go_loopg [1] N (fun q vk wr => ∃ (j : Nat) (zs : List Pw), vk = .int .i64 j /\ N <= q + j /\ j < N /\ zs.Perm ys /\ qbr lt zs j /\ HpAt wr hb (.func (.func 168) #[] #[]) v zs /\ Keep T w wr)
 case atStart => exact ⟨k, ys, rfl, by omega, by rw [HN.out]; exact hk, List.Perm.refl _, hU, h, Keep.refl _ _⟩
 case round =>
  clear h hU hk
  obtain ⟨j, zs, rfl, hjq, hjl, hperm, hU, hH, hK⟩ := hrel
  have hzN : zs.length = N := by rw [HN.out]; exact hperm.length_eq
  have hzl : zs.length <= 100 := by omega
  obtain ⟨a, ha⟩ : ∃ a, zs[j]? = some a := ⟨_, List.getElem?_eq_getElem (by omega)⟩
  obtain ⟨f1, hf1⟩ : ∃ f1, f1 = fo lt zs a j (2 * j + 1) := ⟨_, rfl⟩
  have hf1l : f1 < zs.length := by rw [hf1]; exact qws lt zs a (by omega)
  obtain ⟨a1, ha1⟩ : ∃ a1, zs[f1]? = some a1 := ⟨_, List.getElem?_eq_getElem hf1l⟩
  obtain ⟨f2, hf2⟩ : ∃ f2, f2 = fo lt zs a1 f1 (2 * j + 2) := ⟨_, rfl⟩
  have hcs := qjm O hU ha (by rw [<- hf1]; exact ha1)
  rw [<- hf1, <- hf2] at hcs
  have hbz := (hbef.keep hK).perm hperm
  have c1 := hfo wr zs j (2 * j + 1) a hH hzl ha (by omega) hbz
  rw [<- hf1] at c1
  have c2 := fun W (hW : Below wr.heap.size wr W) => hfo W zs f1 (2 * j + 2) a1 (hH.below hW) hzl ha1 (by omega) (hbz.keep (Keep.new hW))
  rw [<- hf2] at c2
  have e1 : ((2 * j + 1 : Nat) : Int) = 2 * (j : Int) + 1 := by omega
  have e2 : ((2 * j + 2 : Nat) : Int) = 2 * (j : Int) + 2 := by omega
  rw [e1] at c1
  rw [e2] at c2
  have HC : Hid (f2 = j /\ qbp lt zs \/ (f2 ≠ j /\ ∃ b, zs[f2]? = some b /\ j < f2 /\ qbr lt (swp zs j f2 a b) f2)) := hcs
  have HA : Hid (zs[j]? = some a) := ha
  have HH : Hid (HpAt wr hb (.func (.func 168) #[] #[]) v zs) := hH
  have HZN : Hid (zs.length = N) := hzN
  clear hcs ha ha1 hf1 hf2 hfo hU e1 e2 hH hzN hbz hf1l
  have hj1 : (0 : Int) <= j := by omega
  have hj2 : (j : Int) <= 100 := by omega
  go_wp2_with fail
  refine c1.mono ?_
  rintro e w1 ⟨rfl, hb1⟩
  go_wp2_with fail
  refine (c2 _ hb1).mono ?_
  rintro e w2 ⟨rfl, hb2⟩
  have hB2 : Below wr.heap.size wr w2 := qac hb1 hb2
  clear c1 c2 hb1 hb2
  rcases HC.out with ⟨hf, hheap⟩ | ⟨hf, b, hbf, hjf, hD⟩
  ·have HE : Hid (qbp lt zs) := hheap
   clear hheap
   subst hf
   go_wp2_with fail
   exact bodyPost_ret (v := .tuple #[]) (by simp [results, Tryz.results209, go_sem]) rfl ⟨rfl, zs, hperm, HE.out, HH.out.below hB2, hK.trans (Keep.new hB2)⟩
  ·have hfe : ((f2 : Int) == (j : Int)) = false := by simp; omega
   have hsw := qqn (HH.out.below hB2) hzl HA.out hbf (by omega)
   have hperm3 : (swp zs j f2 a b).Perm ys := (qhi (by omega) HA.out hbf).trans hperm
   have hf2l : f2 < N := by have := (List.getElem?_eq_some_iff.1 hbf).1; have := HZN.out; omega
   have HD : Hid (qbr lt (swp zs j f2 a b) f2) := hD
   clear hD hbf hf
   go_wp2_with fail
   refine hsw.mono ?_
   rintro e w3 ⟨rfl, hH3, hK3⟩
   have hK4 : Keep T w w3 := (hK.trans (Keep.new hB2)).trans (by rw [HT.out]; exact hK3)
   clear hsw
   go_wp2_with fail
   go_roundg (N - f2)
   case measure => omega
   case rel => exact ⟨f2, swp zs j f2 a b, rfl, by omega, hf2l, hperm3, HD.out, hH3, hK4⟩
end Go.Proofs.YtphclnolomgjoaaGreatDoor
