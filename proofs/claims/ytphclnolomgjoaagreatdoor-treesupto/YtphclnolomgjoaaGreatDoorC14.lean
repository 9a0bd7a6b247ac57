import Derived.Test.YtphclnolomgjoaaGreatDoorC13
import Derived.Test.YtphclnolomgjoaaGreatDoorC09
set_option linter.unusedVariables false
set_option linter.unusedSimpArgs false
namespace Go.Proofs.YtphclnolomgjoaaGreatDoor
open Go.RowKit
structure SS where
 Ws : List Wk
 st : Int
 evs : List (Int × Int)
def qdq (Ws : List Wk) (b : Nat) : Bs := match Ws[b]? with | some y => joinB y.key | none => []
def qub (Ws : List Wk) (b : Nat) : Int := match Ws[b]? with | some y => y.num | none => 0
def pickStep (L : List Ent) (Ws : List Wk) (best : Option Nat) (i : Nat) : Option Nat :=
 match Ws[i]? with
 | some x => if ownW L Ws x && (match best with | none => true | some b => Op.bytesLess (joinB x.key) (qdq Ws b)) then some i else best
 | none => best
def qc6 (L : List Ent) (Ws : List Wk) (l : List Nat) : Option Nat := l.foldl (pickStep L Ws) none
def qlq (L : List Ent) (Ws : List Wk) : Option Nat := qc6 L Ws (qcn Ws)
def qlh (Ws : List Wk) (n t : Int) : List Wk := Ws.map fun y => if y.num = n then y.adm t else y
def qcs (L : List Ent) (x : Wk) (s : SS) : SS :=
 ⟨qlh (room L x (admN s.Ws) ⟨s.Ws, s.evs⟩).Ws x.num (s.st + 1), s.st + 1, (room L x (admN s.Ws) ⟨s.Ws, s.evs⟩).evs ++ [(1, x.num)]⟩
def ownStep (L : List Ent) (s : SS) : Option SS :=
 match qlq L s.Ws with
 | none => none
 | some b => match s.Ws[b]? with
  | none => none
  | some x => some (qcs L x s)
def qc2 (a b : Int × Int) : Bool := decide (a.1 * b.2 < b.1 * a.2)
def qa3 (L : List Ent) (Ws : List Wk) (acc : Option Nat × (Int × Int)) (i : Nat) : Option Nat × (Int × Int) :=
 match Ws[i]? with
 | none => acc
 | some x => if qbm L Ws x then
   (if (match acc.1 with | none => true | some b => qc2 (qav L Ws x) acc.2 || (!qc2 acc.2 (qav L Ws x) && decide (x.num < qub Ws b))) then (some i, qav L Ws x) else acc)
  else acc
def qaw (L : List Ent) (Ws : List Wk) (l : List Nat) : Option Nat × (Int × Int) := l.foldl (qa3 L Ws) (none, (0, 0))
def qd1 (L : List Ent) (Ws : List Wk) : Option Nat := (qaw L Ws (qcn Ws)).1
def qds (b : Nat) (x : Wk) (s : SS) : SS := ⟨s.Ws.set b (x.adm (s.st + 1)), s.st + 1, s.evs ++ [(1, x.num)]⟩
def qas (L : List Ent) (s : SS) : Option SS :=
 match qd1 L s.Ws with
 | none => none
 | some b => match s.Ws[b]? with
  | none => none
  | some x => some (qds b x s)
def iterS (f : SS -> Option SS) : Nat -> SS -> SS
 | 0, s => s
 | n + 1, s => match f s with
  | none => s
  | some s' => iterS f n s'
def qa2 (L : List Ent) (s : SS) : SS := iterS (ownStep L) s.Ws.length s
def qaj (L : List Ent) (s : SS) : SS := iterS (qas L) s.Ws.length (qa2 L s)
theorem qb9 {f : SS -> Option SS} {s : SS} (h : f s = none) : ∀ n, iterS f n s = s
 | 0 => rfl
 | n + 1 => by simp only [iterS, h]
theorem qfb {f : SS -> Option SS} {s s' : SS} (h : f s = some s') (n : Nat) : iterS f (n + 1) s = iterS f n s' := by simp only [iterS, h]
theorem qe6 {f : SS -> Option SS} {I : SS -> Prop} (hI : ∀ s s', I s -> f s = some s' -> I s') : ∀ (n : Nat) (s : SS), I s -> I (iterS f n s)
 | 0, s, h => h
 | n + 1, s, h => by
  simp only [iterS]
  cases he : f s with
  | none => exact h
  | some s' => exact qe6 hI n s' (hI s s' h he)
theorem qc1 {f : SS -> Option SS} {I : SS -> Prop} {m : SS -> Nat} (hI : ∀ s s', I s -> f s = some s' -> I s' /\ m s' < m s) : ∀ (n k : Nat) (s : SS), I s -> m s <= n -> m s <= k -> iterS f n s = iterS f k s
 | 0, k, s, h, hn, hk => by
  have : f s = none := by
   cases he : f s with
   | none => rfl
   | some s' => have := (hI s s' h he).2; omega
  rw [qb9 this, qb9 this]
 | n + 1, 0, s, h, hn, hk => by
  have : f s = none := by
   cases he : f s with
   | none => rfl
   | some s' => have := (hI s s' h he).2; omega
  rw [qb9 this, qb9 this]
 | n + 1, k + 1, s, h, hn, hk => by
  simp only [iterS]
  cases he : f s with
  | none => rfl
  | some s' =>
   have := hI s s' h he
   exact qc1 hI n k s' this.1 (by omega) (by omega)
def Anti (Ws : List Wk) : Prop := ∀ x ∈ Ws, ∀ y ∈ Ws, inB (joinB x.key) (joinB y.key) = true -> x.key = y.key
theorem qhn {a b : List Wk} (h : a.Perm b) : ws0 a = ws0 b := by
 unfold ws0
 induction h with
 | nil => rfl
 | cons x _ ih => simp [ih]
 | swap x y l => simp; omega
 | trans _ _ h1 h2 => exact h1.trans h2
theorem qhl {a b : List Wk} (h : a.Perm b) : ws1 a = ws1 b := by
 unfold ws1
 induction h with
 | nil => rfl
 | cons x _ ih => simp [ih]
 | swap x y l => simp; omega
 | trans _ _ h1 h2 => exact h1.trans h2
theorem qmb {Ws : List Wk} {i : Nat} {v : Wk} (hi : Ws[i]? = some v) (hv : 0 < v.st) (k : Bs) :
  ws0 (qae Ws k) = ws0 (qae (v.adm 0 :: (Ws.take i ++ Ws.drop (i + 1))) k) + (if inB (joinB v.key) k then v.d0 else 0) /\ ws1 (qae Ws k) = ws1 (qae (v.adm 0 :: (Ws.take i ++ Ws.drop (i + 1))) k) + (if inB (joinB v.key) k then v.d1 else 0) := by
 have hp := (qbg hi).filter fun x => decide (0 < x.st) && inB (joinB x.key) k
 have h0 := qhn hp
 have h1 := qhl hp
 unfold qae
 rw [h0, h1, List.filter_cons, List.filter_cons]
 rw [show (decide (0 < (v.adm 0).st) && inB (joinB (v.adm 0).key) k) = false from by simp [Wk.adm]]
 rw [show (decide (0 < v.st) && inB (joinB v.key) k) = inB (joinB v.key) k from by simp [hv]]
 cases inB (joinB v.key) k <;> simp [ws0, ws1] <;> omega
theorem qie {Ws : List Wk} {i : Nat} {x : Wk} (hi : Ws[i]? = some x) (hx : x.st = 0) {t : Int} (ht : 0 < t) (k : Bs) :
  ws0 (qae (Ws.set i (x.adm t)) k) = ws0 (qae Ws k) + (if inB (joinB x.key) k then x.d0 else 0) /\ ws1 (qae (Ws.set i (x.adm t)) k) = ws1 (qae Ws k) + (if inB (joinB x.key) k then x.d1 else 0) := by
 have hlt := (List.getElem?_eq_some_iff.1 hi).1
 have hset : Ws.set i (x.adm t) = Ws.take i ++ x.adm t :: Ws.drop (i + 1) := List.set_eq_take_append_cons_drop .. |>.trans (by rw [if_pos hlt])
 have hq : (Ws.set i (x.adm t)).Perm (x.adm t :: (Ws.take i ++ Ws.drop (i + 1))) := by rw [hset]; exact List.perm_middle
 have hp := (qbg hi).filter fun x => decide (0 < x.st) && inB (joinB x.key) k
 have hq' := hq.filter fun x => decide (0 < x.st) && inB (joinB x.key) k
 unfold qae
 rw [qhn hp, qhl hp, qhn hq', qhl hq', List.filter_cons, List.filter_cons]
 rw [show (decide (0 < (x.adm t).st) && inB (joinB (x.adm t).key) k) = inB (joinB x.key) k from by simp [Wk.adm, ht]]
 rw [show (decide (0 < x.st) && inB (joinB x.key) k) = false from by simp [hx]]
 cases inB (joinB x.key) k <;> simp [ws0, ws1, Wk.adm] <;> omega
def qa0 (Ws : List Wk) (k : List Bs) : Option Wk := Ws.find? fun y => (y.st == 0) && decide (y.key = k)
def qd2 (L : List Ent) (Ws : List Wk) (k : List Bs) : Bool := match qa0 Ws k with | some h => ownW L Ws h | none => false
def mOwn (L : List Ent) (Ws : List Wk) : Nat := (Ws.filter fun x => (x.st == 0) && qd2 L Ws x.key).length
def qcm (Ws : List Wk) : Nat := (Ws.filter fun x => x.st == 0).length
theorem qq8 (L : List Ent) (Ws : List Wk) : mOwn L Ws <= Ws.length := List.length_filter_le _ _
theorem qom (Ws : List Wk) : qcm Ws <= Ws.length := List.length_filter_le _ _
theorem qak {Ws : List Wk} {k : List Bs} {x : Wk} (h : qa0 Ws k = some x) : x ∈ Ws /\ x.st = 0 /\ x.key = k := by
 have h1 := List.find?_some h
 have h2 := List.mem_of_find?_eq_some h
 simp at h1
 exact ⟨h2, h1.1, h1.2⟩
theorem qcj {Ws : List Wk} (hS : ∀ x ∈ Ws, 0 <= x.st) {i : Nat} {x : Wk} (hi : Ws[i]? = some x) (h : qd7 Ws i x = true) : qa0 Ws x.key = some x := by
 have hlt := (List.getElem?_eq_some_iff.1 hi).1
 have h1 : Ws = Ws.take i ++ x :: Ws.drop (i + 1) := by
  conv => lhs; rw [<- List.take_append_drop i Ws]
  rw [List.drop_eq_getElem_cons hlt]
  rw [List.getElem?_eq_getElem hlt] at hi; cases hi; rfl
 unfold qd7 at h
 simp only [Bool.and_eq_true, beq_iff_eq, List.all_eq_true, Bool.or_eq_true, decide_eq_true_eq] at h
 unfold qa0
 rw [h1, List.find?_append]
 rw [List.find?_eq_none.2 (fun y hy => by
  have := h.2 y hy
  have h0 := hS y (List.mem_of_mem_take hy)
  simp; intro h3
  rcases this with h4 | h4
  ·omega
  ·exact h4)]
 simp [h.1]
theorem qhj {α β : Type} {f : α -> β} {l : List α} (hn : (l.map f).Nodup) {i j : Nat} {x y : α} (hi : l[i]? = some x) (hj : l[j]? = some y) (e : f x = f y) : i = j := by
 obtain ⟨h1, h2⟩ := List.getElem?_eq_some_iff.1 hi
 refine (List.getElem?_inj (l := l.map f) (by simpa using h1) hn).1 ?_
 rw [List.getElem?_map, List.getElem?_map, hi, hj]
 simp [e]
theorem qil {Ws : List Wk} {i : Nat} (h : headAt Ws i = true) : ∃ x, Ws[i]? = some x /\ qd7 Ws i x = true := by
 unfold headAt at h
 split at h
 ·rename_i x hx; exact ⟨x, hx, h⟩
 ·cases h
theorem qfg {Ws : List Wk} {i : Nat} (h : i ∈ qcn Ws) : i < Ws.length /\ headAt Ws i = true := by
 unfold qcn qcw at h
 rw [List.mem_filter, List.mem_range] at h
 exact h
theorem qj6 (L : List Ent) (Ws : List Wk) (l : List Nat) (i : Nat) : qc6 L Ws (l ++ [i]) = pickStep L Ws (qc6 L Ws l) i := by
 unfold qc6; rw [List.foldl_append]; rfl
theorem qiv (L : List Ent) (Ws : List Wk) (a : Option Nat) (i : Nat) : pickStep L Ws a i = a \/ (pickStep L Ws a i = some i /\ ∃ x, Ws[i]? = some x /\ ownW L Ws x = true) := by
 unfold pickStep
 cases hx : Ws[i]? with
 | none => exact .inl rfl
 | some x =>
  simp only
  generalize (match a with | none => true | some b => Op.bytesLess (joinB x.key) (qdq Ws b)) = c
  cases ho : ownW L Ws x <;> cases c
  ·exact .inl rfl
  ·exact .inl rfl
  ·exact .inl rfl
  ·exact .inr ⟨rfl, x, rfl, ho⟩
theorem qi6 (L : List Ent) (Ws : List Wk) : ∀ (l : List Nat) (a : Option Nat) (b : Nat), l.foldl (pickStep L Ws) a = some b -> a = some b \/ (b ∈ l /\ ∃ x, Ws[b]? = some x /\ ownW L Ws x = true)
 | [], a, b, h => .inl h
 | i :: l, a, b, h => by
  rw [List.foldl_cons] at h
  rcases qi6 L Ws l _ b h with h1 | ⟨h1, h2⟩
  ·rcases qiv L Ws a i with h3 | ⟨h3, h4⟩
   ·rw [h3] at h1; exact .inl h1
   ·rw [h3] at h1; cases h1; exact .inr ⟨List.mem_cons_self .., h4⟩
  ·exact .inr ⟨List.mem_cons_of_mem _ h1, h2⟩
theorem qij {L : List Ent} {Ws : List Wk} {l : List Nat} {b : Nat} (h : qc6 L Ws l = some b) : b ∈ l /\ ∃ x, Ws[b]? = some x /\ ownW L Ws x = true := by
 rcases qi6 L Ws l none b h with h1 | h1
 ·cases h1
 ·exact h1
theorem qfc {L : List Ent} {Ws : List Wk} {b : Nat} (h : qlq L Ws = some b) : ∃ x, Ws[b]? = some x /\ qd7 Ws b x = true /\ ownW L Ws x = true := by
 obtain ⟨h1, x, hx, ho⟩ := qij h
 obtain ⟨y, hy, hh⟩ := qil (qfg h1).2
 rw [hx] at hy; cases hy
 exact ⟨x, hx, hh, ho⟩
def qq0 (L : List Ent) (Ws : List Wk) (k : List Bs) : Prop := ws0 (qae Ws (joinB k)) > es0 (qaf L (joinB k)) \/ ws1 (qae Ws (joinB k)) > es1 (qaf L (joinB k))
theorem qoh {L : List Ent} {Ws : List Wk} {x v : Wk} (h : way L Ws x v = true) : qq0 L Ws v.key := by
 unfold way at h
 rw [List.any_eq_true] at h
 obtain ⟨e, _, he⟩ := h
 rw [Bool.or_eq_true] at he
 unfold way0 way1 at he
 simp only [Bool.and_eq_true, decide_eq_true_eq] at he
 rcases he with ⟨_, _, _, h1, _⟩ | ⟨_, _, _, h1, _⟩
 ·exact .inl h1
 ·exact .inr h1
theorem qg7 {L : List Ent} {Ws : List Wk} {x : Wk} (hx : 0 <= x.d0 /\ 0 <= x.d1) (h : ownW L Ws x = true) : ¬ qq0 L Ws x.key := by
 unfold ownW at h
 simp only [Bool.and_eq_true, decide_eq_true_eq] at h
 rintro (h1 | h1) <;> omega
theorem qui (k : List Bs) : inB (joinB k) (joinB k) = true := by simp [inB]
theorem qnw {α : Type} {l : List α} {i : Nat} {x : α} (hi : l[i]? = some x) : l = l.take i ++ x :: l.drop (i + 1) := by
 have hlt := (List.getElem?_eq_some_iff.1 hi).1
 conv => lhs; rw [<- List.take_append_drop i l]
 rw [List.drop_eq_getElem_cons hlt]
 rw [List.getElem?_eq_getElem hlt] at hi; cases hi; rfl
theorem qge {α : Type} {l : List α} {i : Nat} {x : α} (hi : l[i]? = some x) (y : α) : l.set i y = l.take i ++ y :: l.drop (i + 1) := by
 have hlt := (List.getElem?_eq_some_iff.1 hi).1
 exact List.set_eq_take_append_cons_drop .. |>.trans (by rw [if_pos hlt])
theorem qdn {Ws : List Wk} {i : Nat} {v : Wk} (hi : Ws[i]? = some v) (hv : 0 < v.st) (k : List Bs) : qa0 (v.adm 0 :: (Ws.take i ++ Ws.drop (i + 1))) k = if v.key = k then some (v.adm 0) else qa0 Ws k := by
 have h1 := qnw hi
 have hn : ¬ (v.st = 0) := by omega
 unfold qa0
 by_cases hk : v.key = k
 ·rw [if_pos hk, List.find?_cons]; simp [Wk.adm, hk]
 ·rw [if_neg hk, List.find?_cons]
  rw [show (((v.adm 0).st == 0) && decide ((v.adm 0).key = k)) = false from by simp [Wk.adm, hk]]
  simp only
  conv => rhs; rw [h1]
  rw [List.find?_append, List.find?_append, List.find?_cons]
  rw [show ((v.st == 0) && decide (v.key = k)) = false from by simp [hn]]
theorem qcy {Ws : List Wk} {i : Nat} {x : Wk} (hi : Ws[i]? = some x) {t : Int} (ht : 0 < t) {k : List Bs} (hk : x.key ≠ k) : qa0 (Ws.set i (x.adm t)) k = qa0 Ws k := by
 unfold qa0
 rw [qge hi]
 conv => rhs; rw [qnw hi]
 rw [List.find?_append, List.find?_append, List.find?_cons, List.find?_cons]
 rw [show (((x.adm t).st == 0) && decide ((x.adm t).key = k)) = false from by simp [Wk.adm, hk]]
 rw [show ((x.st == 0) && decide (x.key = k)) = false from by simp [hk]]
theorem qce {L : List Ent} {Ws : List Wk} {i : Nat} {v h : Wk} (hi : Ws[i]? = some v) (hv : 0 < v.st) (hn : inB (joinB v.key) (joinB h.key) = false) : ownW L (v.adm 0 :: (Ws.take i ++ Ws.drop (i + 1))) h = ownW L Ws h := by
 have := qmb hi hv (joinB h.key)
 rw [hn] at this
 unfold ownW
 rw [this.1, this.2]
 simp
theorem qd6 {L : List Ent} {Ws : List Wk} {i : Nat} {v : Wk} (hi : Ws[i]? = some v) (hv : 0 < v.st) (ho : qq0 L Ws v.key) : ownW L (v.adm 0 :: (Ws.take i ++ Ws.drop (i + 1))) (v.adm 0) = false := by
 have := qmb hi hv (joinB v.key)
 rw [qui] at this
 simp only [if_true] at this
 unfold ownW
 rw [qsw]
 show (decide (ws0 _ + v.d0 <= _) && decide (ws1 _ + v.d1 <= _)) = false
 rw [<- this.1, <- this.2]
 rcases ho with ho | ho
 ·simp only [Bool.and_eq_false_iff, decide_eq_false_iff_not]; left; omega
 ·simp only [Bool.and_eq_false_iff, decide_eq_false_iff_not]; right; omega
theorem qdl {L : List Ent} {Ws : List Wk} {i : Nat} {x h : Wk} (hi : Ws[i]? = some x) (hx : x.st = 0) {t : Int} (ht : 0 < t) (hn : inB (joinB x.key) (joinB h.key) = false) : ownW L (Ws.set i (x.adm t)) h = ownW L Ws h := by
 have := qie hi hx ht (joinB h.key)
 rw [hn] at this
 unfold ownW
 rw [this.1, this.2]
 simp
theorem Anti.not {Ws : List Wk} (h : Anti Ws) {x y : Wk} (hx : x ∈ Ws) (hy : y ∈ Ws) (hn : x.key ≠ y.key) : inB (joinB x.key) (joinB y.key) = false := by
 cases hh : inB (joinB x.key) (joinB y.key)
 ·rfl
 ·exact absurd (h x hx y hy hh) hn
theorem Anti.keys {Ws Ws' : List Wk} (h : Anti Ws) (hs : ∀ y ∈ Ws', ∃ z ∈ Ws, z.key = y.key) : Anti Ws' := by
 intro x hx y hy hh
 obtain ⟨a, ha, ha'⟩ := hs x hx
 obtain ⟨b, hb, hb'⟩ := hs y hy
 rw [<- ha', <- hb'] at hh ⊢
 exact h a ha b hb hh
theorem qpa {Ws : List Wk} {i : Nat} {v : Wk} (hi : Ws[i]? = some v) (t : Int) : ∀ y ∈ v.adm t :: (Ws.take i ++ Ws.drop (i + 1)), ∃ z ∈ Ws, z.key = y.key := by
 intro y hy
 rcases List.mem_cons.1 hy with rfl | hy
 ·exact ⟨v, List.mem_of_getElem? hi, rfl⟩
 ·exact ⟨y, (qbg hi).mem_iff.2 (List.mem_cons_of_mem _ hy), rfl⟩
theorem qjb {Ws : List Wk} {i : Nat} {v : Wk} (hi : Ws[i]? = some v) (t : Int) : ∀ y ∈ Ws.set i (v.adm t), ∃ z ∈ Ws, z.key = y.key := by
 intro y hy
 rcases List.mem_or_eq_of_mem_set hy with hy | rfl
 ·exact ⟨y, hy, rfl⟩
 ·exact ⟨v, List.mem_of_getElem? hi, rfl⟩
theorem qow {L : List Ent} {Ws : List Wk} (hA : Anti Ws) {i : Nat} {v : Wk} (hi : Ws[i]? = some v) (hv : 0 < v.st) (ho : qq0 L Ws v.key) : mOwn L (v.adm 0 :: (Ws.take i ++ Ws.drop (i + 1))) <= mOwn L Ws := by
 have hp := (qbg hi).countP_eq (fun x => (x.st == 0) && qd2 L Ws x.key)
 have hvm := List.mem_of_getElem? hi
 unfold mOwn
 rw [<- List.countP_eq_length_filter, <- List.countP_eq_length_filter, hp, List.countP_cons, List.countP_cons]
 have h1 : qd2 L (v.adm 0 :: (Ws.take i ++ Ws.drop (i + 1))) (v.adm 0).key = false := by
  unfold qd2
  rw [qdn hi hv, qsw, if_pos rfl]
  exact qd6 hi hv ho
 rw [h1, Bool.and_false]
 have h2 : ¬ (v.st = 0) := by omega
 simp only [Bool.false_eq_true, if_false, Nat.add_zero]
 refine Nat.le_trans (List.countP_mono_left (fun y hy hh => ?_)) (Nat.le_add_right _ _)
 simp only [Bool.and_eq_true, beq_iff_eq] at hh ⊢
 refine ⟨hh.1, ?_⟩
 have h3 := hh.2
 unfold qd2 at h3 ⊢
 rw [qdn hi hv] at h3
 by_cases hk : v.key = y.key
 ·rw [if_pos hk] at h3
  simp only at h3
  rw [qd6 hi hv ho] at h3
  cases h3
 ·rw [if_neg hk] at h3
  cases hh : qa0 Ws y.key with
  | none => rw [hh] at h3; exact h3
  | some z =>
   rw [hh] at h3
   obtain ⟨z1, _, z3⟩ := qak hh
   simp only at h3 ⊢
   rwa [qce hi hv (hA.not hvm z1 (by rw [z3]; exact hk))] at h3
theorem qpn {L : List Ent} {Ws : List Wk} (hA : Anti Ws) {i : Nat} {x : Wk} (hi : Ws[i]? = some x) (hx : x.st = 0) {t : Int} (ht : 0 < t) (hh : qa0 Ws x.key = some x) (ho : ownW L Ws x = true) : mOwn L (Ws.set i (x.adm t)) < mOwn L Ws := by
 have hp := (qbg hi).countP_eq (fun x => (x.st == 0) && qd2 L Ws x.key)
 have hq : (Ws.set i (x.adm t)).Perm (x.adm t :: (Ws.take i ++ Ws.drop (i + 1))) := by rw [qge hi]; exact List.perm_middle
 have hq' := hq.countP_eq (fun y => (y.st == 0) && qd2 L (Ws.set i (x.adm t)) y.key)
 have hxm := List.mem_of_getElem? hi
 have hln : qd2 L Ws x.key = true := by unfold qd2; rw [hh]; exact ho
 unfold mOwn
 rw [<- List.countP_eq_length_filter, <- List.countP_eq_length_filter, hp, hq', List.countP_cons, List.countP_cons]
 have h1 : ((x.adm t).st == 0) = false := by simp [Wk.adm]; omega
 rw [h1, hln, hx]
 simp only [Bool.false_and, Bool.false_eq_true, if_false, Nat.add_zero, beq_self_eq_true, Bool.and_self, if_true]
 refine Nat.lt_succ_of_le (List.countP_mono_left (fun y hy hy2 => ?_))
 simp only [Bool.and_eq_true, beq_iff_eq] at hy2 ⊢
 refine ⟨hy2.1, ?_⟩
 by_cases hk : x.key = y.key
 ·rw [<- hk]; exact hln
 ·have h3 := hy2.2
  unfold qd2 at h3 ⊢
  rw [qcy hi ht hk] at h3
  cases hz : qa0 Ws y.key with
  | none => rw [hz] at h3; exact h3
  | some z =>
   rw [hz] at h3
   obtain ⟨z1, _, z3⟩ := qak hz
   simp only at h3 ⊢
   rwa [qdl hi hx ht (hA.not hxm z1 (by rw [z3]; exact hk))] at h3
structure RInv (L : List Ent) (x : Wk) (st : Int) (Ws : List Wk) : Prop where
 wks : WkS Ws st
 anti : Anti Ws
 head : qa0 Ws x.key = some x
 own : ownW L Ws x = true
theorem qgb {L : List Ent} {x : Wk} {s s' : MS} (h : roomStep L x s = some s') : ∃ (i : Nat) (v : Wk), qch L s.Ws x = some i /\ qbm L s.Ws x = false /\ s.Ws[i]? = some v /\ v.st ≠ 0 /\ way L s.Ws x v = true /\ s' = ⟨v.adm 0 :: (s.Ws.take i ++ s.Ws.drop (i + 1)), s.evs ++ [(2, v.num)]⟩ := by
 unfold roomStep at h
 split at h
 ·cases h
 ·rename_i hf
  split at h
  ·cases h
  ·rename_i i hi
   obtain ⟨v, hv, h0, hw⟩ := qa5 L s.Ws x _ i hi
   rw [hv] at h
   simp only [Option.some.injEq] at h
   exact ⟨i, v, hi, by simpa using hf, hv, h0, hw, h.symm⟩
theorem RInv.step {L : List Ent} {x : Wk} {st : Int} {s s' : MS} (h : RInv L x st s.Ws) (he : roomStep L x s = some s') : RInv L x st s'.Ws /\ mOwn L s'.Ws <= mOwn L s.Ws /\ s'.evs.length + admN s'.Ws = s.evs.length + admN s.Ws /\ s'.Ws.length = s.Ws.length := by
 obtain ⟨i, v, hvi, hf, hv, h0, hw, rfl⟩ := qgb he
 have hst := (h.wks.st v (List.mem_of_getElem? hv)).1
 have hv0 : 0 < v.st := by omega
 have ho := qoh hw
 obtain ⟨x1, x2, _⟩ := qak h.head
 have hxd := h.wks.wks.num x x1
 have hk : v.key ≠ x.key := fun e => qg7 ⟨hxd.1.1, hxd.2.1⟩ h.own (e ▸ ho)
 have had := qje hv hv0
 have hl := (qbg hv).length_eq
 refine ⟨⟨h.wks.qis hv, h.anti.keys (qpa hv 0), ?_, ?_⟩, qow h.anti hv hv0 ho, ?_, ?_⟩
 ·rw [qdn hv hv0, if_neg hk]; exact h.head
 ·rw [qce hv hv0 (h.anti.not (List.mem_of_getElem? hv) x1 hk)]; exact h.own
 ·simp at had ⊢; omega
 ·simp at hl ⊢; omega
theorem RInv.room {L : List Ent} {x : Wk} {st : Int} : ∀ (n : Nat) (s : MS), RInv L x st s.Ws -> RInv L x st (room L x n s).Ws /\ mOwn L (room L x n s).Ws <= mOwn L s.Ws /\ (room L x n s).evs.length + admN (room L x n s).Ws = s.evs.length + admN s.Ws /\ (room L x n s).Ws.length = s.Ws.length
 | 0, s, h => ⟨h, Nat.le_refl _, rfl, rfl⟩
 | n + 1, s, h => by
  simp only [Proofs.YtphclnolomgjoaaGreatDoor.room]
  cases he : roomStep L x s with
  | none => exact ⟨h, Nat.le_refl _, rfl, rfl⟩
  | some s' =>
   obtain ⟨h1, h2, h3, h4⟩ := h.step he
   obtain ⟨g1, g2, g3, g4⟩ := RInv.room n s' h1
   exact ⟨g1, Nat.le_trans g2 h2, g3.trans h3, g4.trans h4⟩
theorem qqx {L : List Ent} {x : Wk} {s s' : MS} (h : roomStep L x s = some s') (n : Nat) : room L x (n + 1) s = room L x n s' := by simp only [room, h]
theorem room_end {L : List Ent} {x : Wk} {s : MS} (h : roomStep L x s = none) (n : Nat) : room L x n s = s := by
 cases n with
 | zero => rfl
 | succ n => simp only [room, h]
theorem qfa {Ws : List Wk} (hn : (Ws.map (·.num)).Nodup) {i : Nat} {x : Wk} (hi : Ws[i]? = some x) (t : Int) : qlh Ws x.num t = Ws.set i (x.adm t) := by
 apply List.ext_getElem?
 intro j
 unfold qlh
 rw [List.getElem?_map, List.getElem?_set]
 by_cases hj : i = j
 ·subst hj
  rw [if_pos rfl, if_pos (List.getElem?_eq_some_iff.1 hi).1, hi]
  simp
 ·rw [if_neg hj]
  cases hy : Ws[j]? with
  | none => rfl
  | some y =>
   have : y.num ≠ x.num := fun e => hj (qhj hn hi hy e.symm)
   simp [this]
structure SInv (s : SS) : Prop where
 wks : WkS s.Ws s.st
 st0 : 0 <= s.st
 anti : Anti s.Ws
theorem qha {L : List Ent} {s s' : SS} (h : ownStep L s = some s') : ∃ (b : Nat) (x : Wk), qlq L s.Ws = some b /\ s.Ws[b]? = some x /\ qd7 s.Ws b x = true /\ ownW L s.Ws x = true /\ s' = qcs L x s := by
 unfold ownStep at h
 split at h
 ·cases h
 ·rename_i b hb
  obtain ⟨x, hx, h1, h2⟩ := qfc hb
  rw [hx] at h
  simp only [Option.some.injEq] at h
  exact ⟨b, x, hb, hx, h1, h2, h.symm⟩
theorem SInv.rinv {L : List Ent} {s : SS} (h : SInv s) {b : Nat} {x : Wk} (hx : s.Ws[b]? = some x) (h1 : qd7 s.Ws b x = true) (h2 : ownW L s.Ws x = true) : RInv L x s.st s.Ws :=
 ⟨h.wks, h.anti, qcj (fun y hy => (h.wks.st y hy).1) hx h1, h2⟩
theorem SInv.own {L : List Ent} {s s' : SS} (h : SInv s) (he : ownStep L s = some s') : SInv s' /\ mOwn L s'.Ws < mOwn L s.Ws /\ s'.st = s.st + 1 /\ s'.Ws.length = s.Ws.length /\ s'.evs.length <= s.evs.length + 25 := by
 obtain ⟨b, x, hb, hx, h1, h2, rfl⟩ := qha he
 obtain ⟨g1, g2, g3, g4⟩ := RInv.room (admN s.Ws) ⟨s.Ws, s.evs⟩ (h.rinv hx h1 h2)
 have hst0 := h.st0
 have hadm : admN s.Ws <= 24 := Nat.le_trans (List.length_filter_le _ _) h.wks.wks.len
 unfold qcs
 obtain ⟨m, hm⟩ : ∃ m, m = Proofs.YtphclnolomgjoaaGreatDoor.room L x (admN s.Ws) ⟨s.Ws, s.evs⟩ := ⟨_, rfl⟩
 rw [<- hm] at g1 g2 g3 g4 ⊢
 obtain ⟨x1, x2, _⟩ := qak g1.head
 obtain ⟨i, hi⟩ := List.getElem?_of_mem x1
 rw [qfa g1.wks.nums hi]
 simp only at g2 g3 g4 ⊢
 refine ⟨⟨g1.wks.admit hst0 hi x2, by show 0 <= s.st + 1; omega, g1.anti.keys (qjb hi _)⟩, Nat.lt_of_lt_of_le (qpn g1.anti hi x2 (by omega) g1.head g1.own) g2, trivial, by rw [List.length_set]; exact g4, ?_⟩
 simp; omega
theorem qks (L : List Ent) (Ws : List Wk) (l : List Nat) (i : Nat) : qaw L Ws (l ++ [i]) = qa3 L Ws (qaw L Ws l) i := by
 unfold qaw; rw [List.foldl_append]; rfl
theorem qe8 (L : List Ent) (Ws : List Wk) (a : Option Nat × (Int × Int)) (i : Nat) : qa3 L Ws a i = a \/ (qa3 L Ws a i).1 = some i /\ ∃ x, Ws[i]? = some x /\ qbm L Ws x = true := by
 unfold qa3
 cases hx : Ws[i]? with
 | none => exact .inl rfl
 | some x =>
  simp only
  obtain ⟨a1, a2⟩ := a
  cases a1 with
  | none =>
   simp only [if_true]
   cases ho : qbm L Ws x
   ·exact .inl rfl
   ·exact .inr ⟨rfl, x, rfl, ho⟩
  | some b =>
   simp only
   split
   ·rename_i ho
    split
    ·exact .inr ⟨rfl, x, rfl, ho⟩
    ·exact .inl rfl
   ·exact .inl rfl
theorem qjt (L : List Ent) (Ws : List Wk) : ∀ (l : List Nat) (a : Option Nat × (Int × Int)) (b : Nat), (l.foldl (qa3 L Ws) a).1 = some b -> a.1 = some b \/ (b ∈ l /\ ∃ x, Ws[b]? = some x /\ qbm L Ws x = true)
 | [], a, b, h => .inl h
 | i :: l, a, b, h => by
  rw [List.foldl_cons] at h
  rcases qjt L Ws l _ b h with h1 | ⟨h1, h2⟩
  ·rcases qe8 L Ws a i with h3 | ⟨h3, h4⟩
   ·rw [h3] at h1; exact .inl h1
   ·rw [h3] at h1; cases h1; exact .inr ⟨List.mem_cons_self .., h4⟩
  ·exact .inr ⟨List.mem_cons_of_mem _ h1, h2⟩
theorem qnj {L : List Ent} {Ws : List Wk} {l : List Nat} {b : Nat} (h : (qaw L Ws l).1 = some b) : b ∈ l /\ ∃ x, Ws[b]? = some x /\ qbm L Ws x = true := by
 rcases qjt L Ws l _ b h with h1 | h1
 ·cases h1
 ·exact h1
theorem qc7 {L : List Ent} {Ws : List Wk} {b : Nat} (h : qd1 L Ws = some b) : ∃ x, Ws[b]? = some x /\ qd7 Ws b x = true /\ qbm L Ws x = true := by
 obtain ⟨h1, x, hx, ho⟩ := qnj h
 obtain ⟨y, hy, hh⟩ := qil (qfg h1).2
 rw [hx] at hy; cases hy
 exact ⟨x, hx, hh, ho⟩
theorem qnn {Ws : List Wk} {i : Nat} {x : Wk} (hi : Ws[i]? = some x) (hx : x.st = 0) {t : Int} (ht : 0 < t) : qcm (Ws.set i (x.adm t)) + 1 = qcm Ws := by
 have hp := (qbg hi).countP_eq (fun x => x.st == 0)
 have hq : (Ws.set i (x.adm t)).Perm (x.adm t :: (Ws.take i ++ Ws.drop (i + 1))) := by rw [qge hi]; exact List.perm_middle
 have hq' := hq.countP_eq (fun y => y.st == 0)
 unfold qcm
 rw [<- List.countP_eq_length_filter, <- List.countP_eq_length_filter, hp, hq', List.countP_cons, List.countP_cons]
 have h1 : ((x.adm t).st == 0) = false := by simp [Wk.adm]; omega
 rw [h1, hx]
 simp
theorem qgi {L : List Ent} {s s' : SS} (h : qas L s = some s') : ∃ (b : Nat) (x : Wk), qd1 L s.Ws = some b /\ s.Ws[b]? = some x /\ qd7 s.Ws b x = true /\ qbm L s.Ws x = true /\ s' = qds b x s := by
 unfold qas at h
 split at h
 ·cases h
 ·rename_i b hb
  obtain ⟨x, hx, h1, h2⟩ := qc7 hb
  rw [hx] at h
  simp only [Option.some.injEq] at h
  exact ⟨b, x, hb, hx, h1, h2, h.symm⟩
theorem qqr {Ws : List Wk} {b : Nat} {x : Wk} (h : qd7 Ws b x = true) : x.st = 0 := by
 unfold qd7 at h
 simp only [Bool.and_eq_true, beq_iff_eq] at h
 exact h.1
theorem SInv.idle {L : List Ent} {s s' : SS} (h : SInv s) (he : qas L s = some s') : SInv s' /\ qcm s'.Ws < qcm s.Ws /\ s'.st = s.st + 1 /\ s'.Ws.length = s.Ws.length /\ s'.evs.length = s.evs.length + 1 := by
 obtain ⟨b, x, hb, hx, h1, h2, rfl⟩ := qgi he
 have hst0 := h.st0
 have hx0 := qqr h1
 have := qnn hx hx0 (t := s.st + 1) (by omega)
 unfold qds
 refine ⟨⟨h.wks.admit hst0 hx hx0, by show 0 <= s.st + 1; omega, h.anti.keys (qjb hx _)⟩, by simp only; omega, rfl, by simp, by simp⟩
def qek (e : Int × Int) : List Value := [.int .i64 e.1, .int .i64 e.2]
def qai (l : List (Int × Int)) : List Value := l.flatMap qek
theorem qll (l : List (Int × Int)) : (qai l).length = l.length * 2 := by
 induction l with
 | nil => rfl
 | cons a l ih => simp [qai, qek] at ih ⊢; omega
theorem qe3 (a b : List (Int × Int)) : qai (a ++ b) = qai a ++ qai b := by simp [qai]
theorem qq4 (k n : Int) : ∀ u ∈ qai [(k, n)], u.oneCell' = true := by
 intro u hu
 simp [qai, qek] at hu
 rcases hu with rfl | rfl <;> rfl
theorem un48 : Tryz.prog.underlying 48 = some (.slice 60) := by kernel_rfl
structure qck (w : World) (br g cap : Nat) (L : List Ent) (o0 : Option Nat) (cnt : Int) (n : Nat) (W : World) (ao : Option Addr) (cW : Nat) (Ws : List Wk) (st : Int) (sl : Value) (evs : List (Int × Int)) : Prop where
 ref : GRef W br g cap L ao cW Ws cnt st
 len : Ws.length = n
 keep : Keep (fun b => b = br \/ o0 = some b) w W
 old : ∀ b, (Value.slice ao Ws.length cW).ownBlock = some b -> b < w.heap.size -> o0 = some b
 row : W.ownsRow 0 60 2 sl evs.length (qai evs)
 new : ∀ b, sl.ownBlock = some b -> w.heap.size <= b
 sep : ∀ b, sl.ownBlock = some b -> (Value.slice ao Ws.length cW).ownBlock ≠ some b
theorem Keep.qc5 {T : Nat -> Prop} {w W W' : World} (h : Keep T w W) (hb : Below W.heap.size W W') : Keep T w W' :=
 ⟨hb.os.trans h.os, hb.tape.trans h.tape, hb.output.trans h.output, Nat.le_trans h.size hb.size, fun k hk ht => (hb.block k (Nat.lt_of_lt_of_le hk h.size)).trans (h.block k hk ht)⟩
theorem Keep.step {T T' : Nat -> Prop} {w W W' : World} (h : Keep T w W) (hk : Keep T' W W') (hs : ∀ b, b < w.heap.size -> T' b -> T b) : Keep T w W' :=
 ⟨hk.os.trans h.os, hk.tape.trans h.tape, hk.output.trans h.output, Nat.le_trans h.size hk.size, fun k hk1 ht => (hk.block k (Nat.lt_of_lt_of_le hk1 h.size) (fun e => ht (hs k hk1 e))).trans (h.block k hk1 ht)⟩
theorem qck.below {w : World} {br g cap : Nat} {L : List Ent} {o0 : Option Nat} {cnt : Int} {n : Nat} {W W' : World} {ao : Option Addr} {cW : Nat} {Ws : List Wk} {st : Int} {sl : Value} {evs : List (Int × Int)} (h : qck w br g cap L o0 cnt n W ao cW Ws st sl evs) (hb : Below W.heap.size W W') : qck w br g cap L o0 cnt n W' ao cW Ws st sl evs :=
 ⟨h.ref.below hb, h.len, h.keep.qc5 hb, h.old, qab (T := fun _ => False) h.row (Keep.new hb) (fun _ _ e => e), h.new, h.sep⟩
theorem qck.start {w : World} {br g cap : Nat} {L : List Ent} {ao : Option Addr} {cW : Nat} {Ws : List Wk} {cnt st : Int} (h : GRef w br g cap L ao cW Ws cnt st) : qck w br g cap L (Value.slice ao Ws.length cW).ownBlock cnt Ws.length w ao cW Ws st (.slice none 0 0) [] :=
 ⟨h, rfl, Keep.refl _ _, fun b hb _ => hb, World.ownsRow_nil _ _ _ _, fun b hb => by simp [Value.ownBlock] at hb, fun b hb => by simp [Value.ownBlock] at hb⟩
theorem GRef.qii {W : World} {br g cap : Nat} {L : List Ent} {ao : Option Addr} {cW : Nat} {Ws : List Wk} {cnt st : Int} (h : GRef W br g cap L ao cW Ws cnt st) : br < W.heap.size := h.ref.at_.lt
theorem qck.qis {w : World} {br g cap : Nat} {L : List Ent} {o0 : Option Nat} {cnt : Int} {n : Nat} {W W' : World} {ao : Option Addr} {cW : Nat} {Ws : List Wk} {st : Int} {sl : Value} {evs : List (Int × Int)} (h : qck w br g cap L o0 cnt n W ao cW Ws st sl evs) (hbr : br < w.heap.size) {Ws' : List Wk} (hl : Ws'.length = Ws.length) {b' c' : Nat} (hb' : W.heap.size <= b') (hr : GRef W' br g cap L (some ⟨b', 0, none⟩) c' Ws' cnt st) (hk : Keep (fun b => b = br) W W') : qck w br g cap L o0 cnt n W' (some ⟨b', 0, none⟩) c' Ws' st sl evs := by
 have hz := h.keep.size
 have hlt : ∀ b, sl.ownBlock = some b -> b < W.heap.size := fun b hb => (h.row.lt b hb).2
 refine ⟨hr, hl.trans h.len, h.keep.step hk (fun b _ e => .inl e), fun b hb hlt2 => ?_, qab h.row hk (fun b hb e => ?_), h.new, fun b hb e => ?_⟩
 ·simp [Value.ownBlock] at hb; omega
 ·have := h.new b hb; omega
 ·simp [Value.ownBlock] at e
  have := hlt b hb; omega
theorem qck.admit {w : World} {br g cap : Nat} {L : List Ent} {o0 : Option Nat} {cnt : Int} {n : Nat} {W W' : World} {ao : Option Addr} {cW : Nat} {Ws : List Wk} {st st' : Int} {sl : Value} {evs : List (Int × Int)} (h : qck w br g cap L o0 cnt n W ao cW Ws st sl evs) (hbr : br < w.heap.size) {Ws' : List Wk} (hl : Ws'.length = Ws.length) (hr : AdmR W br g cap L ao cW Ws' cnt st' W') : qck w br g cap L o0 cnt n W' ao cW Ws' st' sl evs := by
 have hk := hr.keep
 rw [hl] at hk
 refine ⟨hr.ref, hl.trans h.len, h.keep.step hk (fun b hb e => ?_), fun b hb hlt2 => h.old b (by rw [<- hl]; exact hb) hlt2, qab h.row hk (fun b hb e => ?_), h.new, fun b hb e => h.sep b hb (by rw [<- hl]; exact e)⟩
 ·rcases e with e | e
  ·exact .inl e
  ·exact .inr (h.old b e hb)
 ·rcases e with e | e
  ·have := h.new b hb; omega
  ·exact h.sep b hb e
theorem qck.tell {w : World} {br g cap : Nat} {L : List Ent} {o0 : Option Nat} {cnt : Int} {n : Nat} {W W' : World} {ao : Option Addr} {cW : Nat} {Ws : List Wk} {st : Int} {sl : Value} {evs : List (Int × Int)} (h : qck w br g cap L o0 cnt n W ao cW Ws st sl evs) (hbr : br < w.heap.size) (hg : g < w.heap.size) {e : Int × Int} {g' cap' : Nat} (hr : AppR W sl.ownBlock 60 2 (evs.length + 1) (qai evs ++ qai [e]) g' cap' W') : qck w br g cap L o0 cnt n W' ao cW Ws st (.slice (some ⟨g', 0, none⟩) (evs.length + 1) cap') (evs ++ [e]) := by
 have hz := h.keep.size
 have hnb : ¬ (sl.ownBlock = some br) := fun e => by have := h.new br e; omega
 have hng : ¬ (sl.ownBlock = some g) := fun e => by have := h.new g e; omega
 have hW : ∀ b, (Value.slice ao Ws.length cW).ownBlock = some b -> ¬ (sl.ownBlock = some b) := fun b hb e => h.sep b e hb
 refine ⟨⟨h.ref.ref.keep hr.keep hnb hng, qab h.ref.wrow hr.keep hW, h.ref.ne1⟩, h.len, h.keep.step hr.keep (fun b hb e => ?_), h.old, ?_, fun b hb => ?_, fun b hb e2 => ?_⟩
 ·have := h.new b e; omega
 ·rw [qe3, List.length_append]; exact hr.own
 ·simp [Value.ownBlock] at hb; subst hb
  rcases hr.new with e2 | e2
  ·exact h.new _ e2
  ·omega
 ·simp [Value.ownBlock] at hb; subst hb
  rcases hr.new with e3 | e3
  ·exact h.sep _ e3 e2
  ·have := qal h.ref.wrow e2
   omega
def qde (τ : Nat -> Tag) (H : Nat) (b : Nat) : Tag := if b < H then τ b else .free
theorem qbx {τ : Nat -> Tag} {H b : Nat} (h : b < H) : qde τ H b = τ b := by simp [qde, h]
theorem qe4 {τ : Nat -> Tag} {H b : Nat} (h : H <= b) : qde τ H b = .free := by simp [qde, Nat.not_lt.2 h]
theorem qgh.below {τ : Nat -> Tag} {W W' : World} {bw : Nat} {slT slN slE slA slB : Value} {ns es : List Value} {ms me : List Int} (h : qgh τ W bw slT slN slE slA slB ns es ms me) (hb : Below W.heap.size W W') : qgh (qde τ W.heap.size) W' bw slT slN slE slA slB ns es ms me :=
 h.keep (T := fun _ => False) (Keep.new hb) (fun _ _ hf => hf.elim) (fun b hb => qbx hb)
theorem OwnT.from {τ τ' : Nat -> Tag} {W W1 w' : World} {o : Option Nat} (hb : Below W.heap.size W W1) (h : OwnT (qde τ W.heap.size) W1 o τ' w') : OwnT τ W o τ' w' := by
 refine ⟨fun b hlt ho => ?_, fun b hge => ?_, ?_⟩
 ·rw [h.old b (Nat.lt_of_lt_of_le hlt hb.size) ho, qbx hlt]
 ·by_cases ho : o = some b
  ·exact h.new b (.inr ho)
  ·rcases Nat.lt_or_ge b W1.heap.size with h1 | h1
   ·rw [h.old b h1 ho, qe4 (by rcases hge with e | e; exact e; exact absurd e ho)]; exact .inl rfl
   ·exact h.new b (.inl h1)
 ·refine (Keep.new hb).step h.keep (fun b hlt => ?_)
  rintro ⟨_, h2⟩
  rw [qbx hlt] at h2
  exact ⟨hlt, h2⟩
def qro (τ : Nat -> Tag) (W : World) (o : Option Nat) (bw : Nat) (slT : Value) (N : Nat) (e : Ending) (w' : World) : Prop :=
 e = .returned (.bool true) /\ ∃ τ' slN slE slA slB ns es ms me, OwnT τ W o τ' w' /\ qgh τ' w' bw slT slN slE slA slB ns es ms me /\ ns.length <= N /\ es.length <= N
theorem qho {W : World} {e : TypeId} {size n c : Nat} {a : Option Addr} {xs : List Value} (h : W.ownsRow 0 e size (.slice a n c) n xs) : n <= c /\ c <= maxLen := by
 rcases h.2 with ⟨h, h0⟩ | ⟨g, cap, cur, h, _, _, h2, h3, _⟩
 ·cases h; exact ⟨Nat.le_refl _, Nat.zero_le _⟩
 ·cases h; exact ⟨h2, h3⟩
theorem qg1 : ∀ (l : List (Int × Int)) (i : Nat) (e : Int × Int), l[i]? = some e -> (qai l)[i * 2]? = some (.int .i64 e.1) /\ (qai l)[i * 2 + 1]? = some (.int .i64 e.2)
 | [], _, _, h => by simp at h
 | a :: l, 0, x, h => by simp at h; subst h; exact ⟨rfl, rfl⟩
 | a :: l, t + 1, x, h => by
  have ih := qg1 l t x (by simpa using h)
  simp only [qai, List.flatMap_cons] at ih ⊢
  refine ⟨?_, ?_⟩
  ·rw [List.getElem?_append_right (by simp [qek]; omega)]; rw [show (t + 1) * 2 - (qek a).length = t * 2 by simp [qek]; omega]; exact ih.1
  ·rw [List.getElem?_append_right (by simp [qek]; omega)]; rw [show (t + 1) * 2 + 1 - (qek a).length = t * 2 + 1 by simp [qek]; omega]; exact ih.2
theorem qn9 {W : World} {a : Option Addr} {n c : Nat} {l : List (Int × Int)} (h : W.ownsRow 0 60 2 (.slice a n c) n (qai l)) : qry W a l := fun i e hi => by
 rcases h.2 with ⟨h1, h0⟩ | ⟨g, cap, cur, h1, _, hg, _⟩
 ·have hl := h.1
  rw [qll] at hl
  have := (List.getElem?_eq_some_iff.1 hi).1
  omega
 ·cases h1
  obtain ⟨e1, e2⟩ := qg1 l i e hi
  have d1 := h.cells (g := g) rfl _ _ e1
  have d2 := h.cells (g := g) rfl _ _ e2
  rw [Addr.add_lit, Nat.zero_add] at d1 d2
  exact ⟨g, rfl, (Array.getElem?_eq_some_iff.1 hg).1, d1, d2⟩
theorem qlo {W : World} {a : Option Addr} {n c : Nat} {l : List Int} (h : W.ownsRow 0 3 1 (.slice a n c) n (l.map fun m => .int .i64 m)) : qlf W a l := fun i e hi => by
 rcases h.2 with ⟨h1, h0⟩ | ⟨g, cap, cur, h1, _, hg, _⟩
 ·have hl := h.1
  rw [List.length_map] at hl
  have := (List.getElem?_eq_some_iff.1 hi).1
  omega
 ·cases h1
  have d1 := h.cells (g := g) rfl i (.int .i64 e) (by simp [hi])
  rw [Addr.add_lit, Nat.zero_add] at d1
  exact ⟨g, rfl, (Array.getElem?_eq_some_iff.1 hg).1, d1⟩
set_option maxRecDepth 100000 in
set_option maxHeartbeats 1000000 in
theorem qtf {τ : Nat -> Tag} {W : World} {bw : Nat} {slT slN slE slA slB : Value} {ns es : List Value} {ms me : List Int} (h : qgh τ W bw slT slN slE slA slB ns es ms me) (N : Nat) (hN : N <= 900000000) (hl1 : ns.length <= N) (hl2 : es.length <= N)
  {a a2 : Option Addr} {n c c2 : Nat} {evs : List (Int × Int)} (hn : n = evs.length) (hn9 : n <= 990) (hr1 : W.ownsRow 0 60 2 (.slice a n c) n (qai evs)) (hr2 : W.ownsRow 0 60 2 (.slice a2 n c2) n (qai evs)) (hfr : ∀ b, (Value.slice a n c).ownBlock = some b -> τ b = .free) (er : Int) :
  Calls Tryz.prog 68 #[.pointer (some ⟨bw, 0, none⟩), .slice a n c, .int .i64 er, .slice a2 n c2, .int .i64 er] W (qro τ W (Value.slice a n c).ownBlock bw slT (N + 4)) := by
 have hsame := qit (w := W) hn (by omega) (qho hr1) (qho hr2) (qn9 hr1) (qn9 hr2)
 have hlook := fun W1 (hb : Below W.heap.size W W1) => qhq (h.below hb).blk (h.below hb).N (h.below hb).E (by omega) (by omega)
 have hown : ∀ W1, Below W.heap.size W W1 -> Calls Tryz.prog 111 #[.pointer (some ⟨bw, 0, none⟩), .slice a n c] W1 fun e w' => e = .returned (.tuple #[]) /\ qro τ W (Value.slice a n c).ownBlock bw slT (N + 4) (.returned (.bool true)) w' := fun W1 hb => by
  refine (qov (h.below hb) (by omega) (qab (T := fun _ => False) hr1 (Keep.new hb) (fun _ _ h => h)) hn9 (fun b hb' => by rw [qbx (qal hr1 hb')]; exact hfr b hb')).mono ?_
  rintro e w' ⟨rfl, τ', slE', slB', es', me', hT, hI, hlen⟩
  exact ⟨rfl, rfl, τ', _, _, _, _, _, _, _, _, hT.from hb, hI, by omega, by omega⟩
 generalize qro τ W (Value.slice a n c).ownBlock bw slT (N + 4) = X at hown ⊢
 clear h hn hr1 hr2 hfr
 go_enter Tryz.func68, Tryz.ntmps68
 go_wp2_with (first
  | (go_at_call 110; refine hsame.mono ?_; rintro e w1 ⟨rfl, hb1⟩)
  | (go_at_call 37; refine (hlook _ hb1).mono ?_; rintro e w2 ⟨rfl, hb2⟩; have hB2 := qac hb1 hb2)
  | (go_at_call 111; refine (hown _ hB2).mono ?_; rintro e w3 ⟨rfl, hX⟩)
  | (go_at_call 112; refine (qm0 _ _).mono ?_; rintro e w4 ⟨rfl, hw4⟩; subst hw4))
 all_goals exact hX
end Go.Proofs.YtphclnolomgjoaaGreatDoor
