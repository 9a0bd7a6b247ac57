import Derived.WalkKit
import Derived.WalkLawsBesides
import Derived.WalkSpells
import Derived.RegionCalls
import Derived.Deep.QuietTactic
import Derived.BigQuiet
import Derived.Deep.RegionWith
import Derived.Handy
import Derived.Test.YtphclnolomgjoaaGreatDoorProg
import Derived.Lib.Bytealg
import Derived.Lib.Strings
import Derived.Lib.UnsafeStr
import Derived.Lib.BufferWrite
import Derived.Laws.MakeOwn
import Derived.Laws.Externs
namespace Go.Proofs.YtphclnolomgjoaaGreatDoor
open Go.RowKit
theorem qac {w W w1 : World} (h : Below w.heap.size w W) (hb : Below W.heap.size W w1) : Below w.heap.size w w1 := h.trans (hb.mono h.size)
theorem qgn {k : IntKind} {a b : Int} (h : a = b) : Ending.returned (.int k a) = .returned (.int k b) := by rw [h]
theorem qa9 {a b : Bool} (h : a = b) : Ending.returned (.bool a) = .returned (.bool b) := by rw [h]
theorem qsl {a b : ByteArray} (h : a = b) : Ending.returned (.string a) = .returned (.string b) := by rw [h]
set_option maxHeartbeats 400000 in
theorem qm0 (c : Int) (w : World) :
  Calls Tryz.prog 112 #[.int .i64 c] w fun e w' => e = .returned (.int .i64 c) /\ w' = w := by
 go_enter Tryz.func112, Tryz.ntmps112
 go_wp2
 go_ret
 exact ⟨rfl, rfl⟩
def qao (a b : Int) : Bool := decide (0 <= a /\ a <= 1000 /\ 0 <= b /\ b <= 1000)
set_option maxHeartbeats 400000 in
theorem qcg (a b : Int) (w : World) :
  Calls Tryz.prog 115 #[.agg #[.int .i64 a, .int .i64 b]] w fun e w' => e = .returned (.bool (qao a b)) /\ Below w.heap.size w w' := by
 go_enter Tryz.func115, Tryz.ntmps115
 go_wp2
 all_goals go_ret
 all_goals exact ⟨qa9 (by first | (simp [qao]; omega) | (simp [qao]; intros; omega) | (rw [qao, decide_eq_decide]; omega)), (Below.refl _ _).alloc (Nat.le_refl _) _⟩
end Go.Proofs.YtphclnolomgjoaaGreatDoor
namespace Go.Proofs.YtphclnolomgjoaaGreatDoor
abbrev Bs := List UInt8
def splitB : Bs -> List Bs
 | [] => [[]]
 | c :: r => if c = 47 then [] :: splitB r else match splitB r with
  | [] => [[c]]
  | h :: t => (c :: h) :: t
def joinB : List Bs -> Bs
 | [] => []
 | [a] => a
 | a :: b :: r => a ++ 47 :: joinB (b :: r)
def qcf (c : UInt8) : Bool := decide (97 <= c) && decide (c <= 122)
def qbd (n : Bs) : Bool := decide (1 <= n.length) && decide (n.length <= 4) && n.all qcf
def qaa (s : Bs) : List Bs := if s = [] then [] else splitB s
def qar (s : Bs) : Bool := (qaa s).all qbd
theorem qf2 (s : Bs) : splitB s ≠ [] := by
 cases s with
 | nil => simp [splitB]
 | cons c r =>
  simp only [splitB]
  split
  ·simp
  ·split <;> simp
theorem qco (s : Bs) : ∃ h t, splitB s = h :: t := by
 cases e : splitB s with
 | nil => exact absurd e (qf2 s)
 | cons h t => exact ⟨h, t, rfl⟩
theorem qeq (a b : Bs) : ∀ {xs : List Bs} {x y : Bs} {ys : List Bs}, splitB a = xs ++ [x] -> splitB b = y :: ys -> splitB (a ++ b) = xs ++ (x ++ y) :: ys := by
 induction a with
 | nil =>
  intro xs x y ys h1 h2
  simp only [splitB] at h1
  cases xs with
  | nil => simp at h1; subst h1; simpa using h2
  | cons z zs => simp at h1
 | cons c r ih =>
  intro xs x y ys h1 h2
  simp only [splitB] at h1
  simp only [List.cons_append, splitB]
  by_cases hc : c = 47
  ·rw [if_pos hc] at h1 ⊢
   cases xs with
   | nil =>
    simp at h1
    exact absurd h1.2 (qf2 r)
   | cons z zs =>
    simp at h1
    obtain ⟨rfl, h1⟩ := h1
    rw [ih h1 h2]; simp
  ·rw [if_neg hc] at h1 ⊢
   obtain ⟨h, t, e⟩ := qco r
   rw [e] at h1
   simp only at h1
   cases xs with
   | nil =>
    simp at h1
    obtain ⟨rfl, rfl⟩ := h1
    rw [ih (xs := []) (x := h) (by simpa using e) h2]; simp
   | cons z zs =>
    simp at h1
    obtain ⟨rfl, rfl⟩ := h1
    rw [ih (xs := h :: zs) (x := x) (by simpa using e) h2]; simp
theorem qcp (s : Bs) (h : 47 ∉ s) : splitB s = [s] := by
 induction s with
 | nil => rfl
 | cons c r ih =>
  simp only [List.mem_cons, not_or] at h
  simp only [splitB]
  rw [if_neg (fun e => h.1 e.symm), ih h.2]
theorem qca (a b : Bs) : splitB (a ++ 47 :: b) = splitB a ++ splitB b := by
 obtain ⟨y, ys, hb⟩ := qco b
 have h47 : splitB (47 :: b) = [] :: y :: ys := by simp [splitB, hb]
 have hne := qf2 a
 have : splitB a = (splitB a).dropLast ++ [(splitB a).getLast hne] := (List.dropLast_concat_getLast hne).symm
 rw [qeq a (47 :: b) this h47, hb]
 conv => rhs; rw [this]
 simp
theorem qbq (a : Bs) (r : List Bs) (h : r ≠ []) : joinB (a :: r) = a ++ 47 :: joinB r := by
 cases r with
 | nil => exact absurd rfl h
 | cons b t => rfl
theorem qk7 (s : Bs) : joinB (splitB s) = s := by
 induction s with
 | nil => rfl
 | cons c r ih =>
  simp only [splitB]
  obtain ⟨h, t, e⟩ := qco r
  by_cases hc : c = 47
  ·rw [if_pos hc, qbq _ _ (qf2 r), ih, hc]; rfl
  ·rw [if_neg hc, e]
   rw [e] at ih
   simp only
   cases t with
   | nil => simp only [joinB] at ih ⊢; rw [ih]
   | cons b t => simp only [joinB] at ih ⊢; rw [<- ih]; rfl
theorem qes (ks : List Bs) (hne : ks ≠ []) (h : ∀ k ∈ ks, 47 ∉ k) : splitB (joinB ks) = ks := by
 induction ks with
 | nil => exact absurd rfl hne
 | cons a r ih =>
  by_cases hr : r = []
  ·subst hr; simp only [joinB]; exact qcp a (h a (by simp))
  ·rw [qbq a r hr, qca, qcp a (h a (by simp)), ih hr (fun k hk => h k (by simp [hk]))]; rfl
theorem qrd (c : UInt8) (h : qcf c = true) : c ≠ 47 := by
 intro e; subst e; simp [qcf] at h
theorem qe2 {n : Bs} (h : qbd n = true) : 47 ∉ n := by
 simp only [qbd, Bool.and_eq_true, List.all_eq_true] at h
 intro hm
 exact qrd _ (h.2 _ hm) rfl
theorem qsf {n : Bs} (h : qbd n = true) : n ≠ [] := by
 simp only [qbd, Bool.and_eq_true, decide_eq_true_eq] at h
 intro e; subst e; simp at h
theorem qea {n : Bs} (h : qbd n = true) : 1 <= n.length /\ n.length <= 4 := by
 simp only [qbd, Bool.and_eq_true, decide_eq_true_eq] at h
 exact h.1
def qbn (k : List Bs) : Bool := k.all qbd
theorem qbz {k : List Bs} (h : qbn k = true) {n : Bs} (hn : n ∈ k) : qbd n = true := by
 simp only [qbn, List.all_eq_true] at h; exact h n hn
theorem qc8 {k : List Bs} (h : qbn k = true) : joinB k = [] ↔ k = [] := by
 constructor
 ·intro e
  cases k with
  | nil => rfl
  | cons a r =>
   exfalso
   by_cases hr : r = []
   ·subst hr; exact qsf (n := a) (qbz h (by simp)) e
   ·rw [qbq a r hr] at e; simp at e
 ·intro e; subst e; rfl
theorem qg8 {k : List Bs} (h : qbn k = true) : qaa (joinB k) = k := by
 unfold qaa
 by_cases hk : k = []
 ·subst hk; rfl
 ·rw [if_neg (fun e => hk ((qc8 h).1 e))]
  exact qes k hk (fun n hn => qe2 (qbz h hn))
theorem qa6 (s : Bs) : joinB (qaa s) = s := by
 unfold qaa
 split
 ·rename_i e; subst e; rfl
 ·exact qk7 s
theorem qba {s : Bs} : qar s = qbn (qaa s) := rfl
theorem qe5 {k k' : List Bs} (h : qbn k = true) (h' : qbn k' = true) (e : joinB k = joinB k') : k = k' := by
 rw [<- qg8 h, <- qg8 h', e]
theorem qjc (k : List Bs) (n : Bs) (hk : k ≠ []) : joinB (k ++ [n]) = joinB k ++ 47 :: n := by
 induction k with
 | nil => exact absurd rfl hk
 | cons a r ih =>
  by_cases hr : r = []
  ·subst hr; rfl
  ·rw [List.cons_append, qbq a (r ++ [n]) (by simp), qbq a r hr, ih hr]; simp
theorem qk2 (k r : List Bs) (hk : k ≠ []) (hr : r ≠ []) : joinB (k ++ r) = joinB k ++ 47 :: joinB r := by
 induction k with
 | nil => exact absurd rfl hk
 | cons a t ih =>
  by_cases ht : t = []
  ·subst ht; simp only [List.cons_append, List.nil_append]; rw [qbq a r hr]; rfl
  ·rw [List.cons_append, qbq a (t ++ r) (by simp [ht]), qbq a t ht, ih ht]; simp
theorem qj9 (s : Bs) : (splitB s).length = s.count 47 + 1 := by
 induction s with
 | nil => rfl
 | cons c r ih =>
  simp only [splitB]
  obtain ⟨h, t, e⟩ := qco r
  by_cases hc : c = 47
  ·rw [if_pos hc]; subst hc; simp [ih]
  ·rw [if_neg hc, e]; rw [e] at ih; simp at ih ⊢; rw [List.count_cons_of_ne hc]; exact ih
def inB (p a : Bs) : Bool := a.isEmpty || decide (p = a) || (decide (a.length < p.length) && decide (p.take a.length = a) && decide (p[a.length]? = some 47))
theorem qqv {k a : List Bs} (hk : qbn k = true) (ha : qbn a = true) : inB (joinB k) (joinB a) = true ↔ a <+: k := by
 unfold inB
 simp only [Bool.or_eq_true, Bool.and_eq_true, decide_eq_true_eq]
 constructor
 ·rintro ((h | h) | ⟨⟨h1, h2⟩, h3⟩)
  ·have : joinB a = [] := by simpa using h
   rw [qc8 ha] at this; subst this; exact List.nil_prefix
  ·rw [qe5 hk ha h]; exact List.prefix_refl _
  ·-- joinB k = joinB a ++ 47 :: rest
   have e : joinB k = joinB a ++ 47 :: (joinB k).drop ((joinB a).length + 1) := by
    have h4 := List.take_append_drop (joinB a).length (joinB k)
    rw [h2] at h4
    have h5 : (joinB k).drop (joinB a).length = 47 :: (joinB k).drop ((joinB a).length + 1) := by
     rw [List.drop_eq_getElem_cons h1]
     have := List.getElem?_eq_getElem h1
     rw [this] at h3
     simp only [Option.some.injEq] at h3
     rw [h3]
    rw [h5] at h4; exact h4.symm
   by_cases hka : k = []
   ·subst hka; simp [joinB] at h1
   by_cases haa : a = []
   ·subst haa; exact List.nil_prefix
   have s1 := qes k hka (fun n hn => qe2 (qbz hk hn))
   rw [e, qca, qes a haa (fun n hn => qe2 (qbz ha hn))] at s1
   exact ⟨_, s1⟩
 ·rintro ⟨r, rfl⟩
  by_cases haa : a = []
  ·subst haa; left; left; rfl
  by_cases hr : r = []
  ·subst hr; left; right; simp
  ·right
   rw [qk2 a r haa hr]
   refine ⟨⟨by simp, by simp⟩, by simp⟩
theorem qiy (s : Bs) : ∀ x ∈ splitB s, x.length <= s.length := by
 induction s with
 | nil => intro x hx; simp [splitB] at hx; subst hx; simp
 | cons c r ih =>
  intro x hx
  simp only [splitB] at hx
  obtain ⟨h, t, e⟩ := qco r
  by_cases hc : c = 47
  ·rw [if_pos hc] at hx
   rcases List.mem_cons.1 hx with rfl | hx
   ·simp
   ·have := ih x hx; simp; omega
  ·rw [if_neg hc, e] at hx
   rcases List.mem_cons.1 hx with rfl | hx
   ·have := ih h (by rw [e]; simp); simp; omega
   ·have := ih x (by rw [e]; simp [hx]); simp; omega
theorem qix (s : Bs) (x : Bs) (hx : x ∈ qaa s) : x.length <= s.length := by
 unfold qaa at hx
 split at hx
 ·simp at hx
 ·exact qiy s x hx
end Go.Proofs.YtphclnolomgjoaaGreatDoor
namespace Go.Proofs.YtphclnolomgjoaaGreatDoor
open Go.RowKit
def bl (s : ByteArray) : Bs := s.data.toList
def sb (l : Bs) : ByteArray := ⟨l.toArray⟩
theorem qb4 (s : ByteArray) : (bl s).length = s.size := (Lib.size_eq s).symm
theorem qd3 (l : Bs) : (sb l).size = l.length := by simp [sb, ByteArray.size]
theorem qbi (l : Bs) : bl (sb l) = l := by simp [bl, sb]
theorem qp4 (s : ByteArray) : sb (bl s) = s := Lib.mk_data s
theorem qaz (s : ByteArray) : s.toList = bl s := ByteArray.toList_eq s
theorem qer {a b : ByteArray} (h : bl a = bl b) : a = b := by rw [<- qp4 a, h, qp4]
theorem qcq (s : ByteArray) (a b : Nat) : bl (s.extract a b) = ((bl s).drop a).take (b - a) := Lib.extract_data s a b
theorem qu0 (s : ByteArray) (k : Nat) (h : k < s.size) : (bl s)[k]'(by rw [qb4]; exact h) = s[k] := rfl
theorem qsh (s : ByteArray) (k : Nat) (h : k < s.size) : (bl s).take (k + 1) = (bl s).take k ++ [s[k]] := by
 rw [List.take_succ_eq_append_getElem (by rw [qb4]; exact h)]; rfl
theorem qsy (s : ByteArray) (k : Nat) (h : k < s.size) : (bl s).drop k = s[k] :: (bl s).drop (k + 1) := by
 rw [List.drop_eq_getElem_cons (by rw [qb4]; exact h)]; rfl
theorem qec (a b : ByteArray) : bl (a ++ b) = bl a ++ bl b := by simp [bl]
theorem qmj (a b : ByteArray) : (a.toList == b.toList) = decide (bl a = bl b) := by
 rw [qaz, qaz]; by_cases h : bl a = bl b <;> simp [h]
theorem qh4 : bl ⟨#[]⟩ = [] := rfl
theorem qqu (a : UInt8) (k : Nat) (hk : k < 256) : ((a.toNat : Int) = k) ↔ a = UInt8.ofNat k := by
 constructor
 ·intro h
  have : a.toNat = k := by omega
  rw [<- this]; simp
 ·intro h; subst h
  have : (UInt8.ofNat k).toNat = k := by simp; omega
  omega
def qkd (l : Bs) : Nat := l.count 47
def qqi (l : Bs) : Int := Lib.indexByte l 47
def cmpB (a b : Bs) : Int := Lib.compareBytes a b
def qhd (l : Bs) : Prop := 47 ∈ l
/-! strings.Count, strings.Index, strings.Compare at what is asked here -/
theorem qwo (s : ByteArray) (w : World) : (callFunc 218 #[.string s, .int .u8 47]).run Tryz.prog w = .ok (.value (.int .i64 (qkd (bl s)))) w := by
 rw [run_callFunc_extern Tryz.func218 (by kernel_rfl) (by kernel_rfl) (by kernel_rfl) (e := Extern.BytealgCount.count) (by kernel_rfl), Lib.run_countString]; rfl
theorem qwi (s : ByteArray) (w : World) : (callFunc 249 #[.string s, .int .u8 47]).run Tryz.prog w = .ok (.value (.int .i64 (qqi (bl s)))) w := by
 rw [run_callFunc_extern Tryz.func249 (by kernel_rfl) (by kernel_rfl) (by kernel_rfl) (e := Extern.BytealgIndexByte.indexByte) (by kernel_rfl), Lib.run_indexByteString]; rfl
theorem qwa (a b : ByteArray) (w : World) : (callFunc 226 #[.string a, .string b]).run Tryz.prog w = .ok (.value (.int .i64 (cmpB (bl a) (bl b)))) w := by
 rw [run_callFunc_extern Tryz.func226 (by kernel_rfl) (by kernel_rfl) (by kernel_rfl) (e := Extern.BytealgCompare.compare) (by kernel_rfl), Lib.run_compareString]; rfl
set_option maxHeartbeats 400000 in
theorem qmw (a b : ByteArray) (w : World) :
  Calls Tryz.prog 155 #[.string a, .string b] w fun e w' => e = .returned (.int .i64 (cmpB (bl a) (bl b))) /\ w' = w := by
 have h := qwa a b
 go_enter Tryz.func155, Tryz.ntmps155
 go_wp2
 go_ret
 exact ⟨rfl, rfl⟩
set_option maxHeartbeats 400000 in
theorem qr9 (s : ByteArray) (w : World) :
  Calls Tryz.prog 181 #[.string s, .string ⟨#[47]⟩] w fun e w' => e = .returned (.int .i64 (qkd (bl s))) /\ w' = w := by
 have h := qwo s
 have hz : (⟨#[47]⟩ : ByteArray).size = 1 := rfl
 have i0 : ∀ w, (Instr.index 9 (.string ⟨#[47]⟩) (.int .i64 0)).run Tryz.prog w = .ok (.int .u8 47) w := fun _ => by kernel_rfl
 go_enter Tryz.func181, Tryz.ntmps181
 go_wp2
 go_ret
 exact ⟨rfl, rfl⟩
set_option maxHeartbeats 400000 in
theorem qlx (s : ByteArray) (w : World) :
  Calls Tryz.prog 219 #[.string s, .string ⟨#[47]⟩] w fun e w' => e = .returned (.int .i64 (qqi (bl s))) /\ w' = w := by
 have h := qwi s
 have hz : (⟨#[47]⟩ : ByteArray).size = 1 := rfl
 have i0 : ∀ w, (Instr.index 9 (.string ⟨#[47]⟩) (.int .i64 0)).run Tryz.prog w = .ok (.int .u8 47) w := fun _ => by kernel_rfl
 have hq : ∀ x, (([47] : List UInt8) == s.toList) = true -> x = (0 : Int) -> x = qqi (bl s) := fun x h e => by
  rw [qaz] at h
  have : bl s = [47] := by simpa using (by simpa using h : [47] = bl s).symm
  rw [this, e]; rfl
 go_enter Tryz.func219, Tryz.ntmps219
 go_wp2
 all_goals go_ret
 all_goals first | exact ⟨rfl, rfl⟩ | exact ⟨qgn (hq 0 ‹_› rfl), rfl⟩
set_option maxHeartbeats 400000 in
theorem qmg (s : ByteArray) (w : World) (hs : s.size <= maxLen) :
  Calls Tryz.prog 183 #[.string s, .int .u8 47] w fun e w' => (∃ r : Int, e = .returned (.int .i64 r) /\ ((r = -1 /\ ¬ qhd (bl s)) \/ ∃ k : Nat, r = k /\ k < s.size /\ bl s = (bl s).take k ++ 47 :: (bl s).drop (k + 1) /\ ¬ qhd ((bl s).drop (k + 1)))) /\ w' = w := by
 unfold maxLen at hs
 go_enter Tryz.func183, Tryz.ntmps183
 go_wp2
 go_loop [5] (fun i => ∃ k : Nat, k <= s.size /\ i = .int .i64 ((k : Int) - 1) /\ ¬ qhd ((bl s).drop k)) (fun i => (intOf i + 1).toNat)
 case atStart => exact ⟨s.size, Nat.le_refl _, rfl, by rw [<- qb4, List.drop_length]; exact List.not_mem_nil⟩
 case round =>
  obtain ⟨k, hk, rfl, hn⟩ := hrel
  cases k with
  | zero =>
   go_wp2
   go_ret
   exact ⟨⟨-1, rfl, .inl ⟨rfl, by simpa using hn⟩⟩, rfl⟩
  | succ k =>
   have e1 : ((k + 1 : Nat) : Int) - 1 = k := by omega
   rw [e1]
   have hlt : k < s.size := by omega
   have hd := qsy s k hlt
   have HD : Hid ((bl s).drop k = s[k] :: (bl s).drop (k + 1)) := hd
   clear hd
   by_cases h47 : s[k] = 47
   ·have H47 : Hid (s[k] = 47) := h47
    have hb : ((s[k].toNat : Int) == 47) = true := by rw [h47]; rfl
    clear h47
    go_wp2
    go_ret
    refine ⟨⟨k, rfl, .inr ⟨k, rfl, hlt, ?_, hn⟩⟩, rfl⟩
    conv => lhs; rw [<- List.take_append_drop k (bl s), HD.out, H47.out]
   ·have hb : ((s[k].toNat : Int) == 47) = false := by
     have := mt (qqu s[k] 47 (by omega)).1 h47
     simpa using this
    go_wp2
    go_round
    case rel =>
     refine ⟨k, by omega, by go_num, ?_⟩
     rw [HD.out]
     intro hm
     rcases List.mem_cons.1 hm with h | h
     ·exact h47 h.symm
     ·exact hn h
    case measure => simp [intOf]
set_option maxHeartbeats 400000 in
theorem qkj (s : ByteArray) (w : World) (hs : s.size <= maxLen) :
  Calls Tryz.prog 136 #[.string s, .string ⟨#[47]⟩] w fun e w' => (∃ r : Int, e = .returned (.int .i64 r) /\ ((r = -1 /\ ¬ qhd (bl s)) \/ ∃ k : Nat, r = k /\ k < s.size /\ bl s = (bl s).take k ++ 47 :: (bl s).drop (k + 1) /\ ¬ qhd ((bl s).drop (k + 1)))) /\ w' = w := by
 have hz : (⟨#[47]⟩ : ByteArray).size = 1 := rfl
 have i0 : ∀ w, (Instr.index 9 (.string ⟨#[47]⟩) (.int .i64 0)).run Tryz.prog w = .ok (.int .u8 47) w := fun _ => by kernel_rfl
 go_enter Tryz.func136, Tryz.ntmps136
 go_wp2_with (go_at_call 183; refine (qmg _ _ hs).mono ?_; rintro e w1 ⟨⟨r, rfl, hr⟩, rfl⟩)
 go_ret
 exact ⟨⟨r, rfl, hr⟩, rfl⟩
theorem qjk (c : UInt8) : qcf c = (decide (97 <= (c.toNat : Int)) && decide ((c.toNat : Int) <= 122)) := by
 rw [Bool.eq_iff_iff]; simp [qcf, UInt8.le_iff_toNat_le]; omega
set_option maxHeartbeats 400000 in
theorem qkm (s : ByteArray) (w : World) (hs : s.size <= maxLen) :
  Calls Tryz.prog 103 #[.string s] w fun e w' => e = .returned (.bool (qbd (bl s))) /\ w' = w := by
 unfold maxLen at hs
 by_cases hL : 1 <= s.size /\ s.size <= 4
 ·obtain ⟨hL1, hL2⟩ := hL
  go_enter Tryz.func103, Tryz.ntmps103
  go_wp2
  go_loop [14] (fun i => ∃ k : Nat, k <= s.size /\ i = .int .i64 k /\ ((bl s).take k).all qcf = true) (fun i => s.size - (intOf i).toNat)
  case atStart => exact ⟨0, Nat.zero_le _, rfl, rfl⟩
  case round =>
   obtain ⟨k, hk, rfl, hn⟩ := hrel
   by_cases hlt : k < s.size
   ·have HD : Hid ((bl s).take (k + 1) = (bl s).take k ++ [s[k]]) := qsh s k hlt
    have HC : Hid (qcf s[k] = (decide (97 <= (s[k].toNat : Int)) && decide ((s[k].toNat : Int) <= 122))) := qjk _
    have HN : Hid (((bl s).take k).all qcf = true) := hn
    clear hn
    have hbad : qcf s[k] = false -> qbd (bl s) = false := fun h => by
     have : (bl s).all qcf = false := by
      rw [List.all_eq_false]
      exact ⟨s[k], by rw [<- qu0 s k hlt]; exact List.getElem_mem _, by simp [h]⟩
     simp [qbd, this]
    go_wp2
    ·go_ret
     exact ⟨qa9 (hbad (by rw [HC.out]; simp; omega)).symm, rfl⟩
    ·go_round
     case rel => exact ⟨k + 1, by omega, by go_num, by rw [HD.out, List.all_append, HN.out]; simp only [List.all_cons, List.all_nil]; rw [HC.out]; simp; omega⟩
     case measure => simp [intOf]; omega
    ·go_ret
     exact ⟨qa9 (hbad (by rw [HC.out]; simp; omega)).symm, rfl⟩
   ·go_wp2
    go_ret
    have : k = s.size := by omega
    subst this
    rw [List.take_of_length_le (by rw [qb4]; omega)] at hn
    exact ⟨qa9 (by simp [qbd, hn, qb4]; omega), rfl⟩
 ·have hz : qbd (bl s) = false := by
   simp only [qbd, qb4]
   have : ¬ (1 <= s.size) \/ ¬ (s.size <= 4) := by omega
   rcases this with h | h <;> simp [h]
  rw [hz]
  go_enter Tryz.func103, Tryz.ntmps103
  go_wp2
  all_goals first | (exfalso; omega) | (go_ret; exact ⟨rfl, rfl⟩)
set_option maxHeartbeats 1000000 in
set_option maxRecDepth 100000 in
theorem qsk (s : ByteArray) (w : World) (hlim : s.size <= 100000) :
  Calls Tryz.prog 166 #[.string s] w fun e w' => e = .returned (.string s) /\ Below w.heap.size w w' := by
 by_cases h0 : s.size = 0
 ·have hs : s = ⟨#[]⟩ := by
   apply ByteArray.ext
   exact Array.eq_empty_of_size_eq_zero h0
  subst hs
  go_enter Tryz.func166, Tryz.ntmps166
  go_wp2
  go_ret
  exact ⟨rfl, Below.refl _ _⟩
 ·have hinf : (Tryz.prog.info? 5).map (fun i => (i.zero, i.size, i.bytes)) = some (some (.int .u8 0), 1, 1) := by kernel_rfl
  obtain ⟨i0, hi, hz0, hz1, hz2⟩ := info_parts hinf
  have hinfo : (Tryz.prog.info? 5).map (·.size) = some 1 := by rw [hi]; simp [hz1]
  have hco : Tryz.prog.cellsOf 5 = 1 := by kernel_rfl
  obtain ⟨M, hM⟩ : ∃ M, M = madeCells (Value.int .u8 0).cells (((s.size : Nat) : Int).toNat * i0.size) := ⟨_, rfl⟩
  have hMs : M.size = s.size := by rw [hM, size_madeCells, hz1]; simp
  have hmk : ∀ W : World, (Instr.makeSlice 244 (.int .i64 (s.size : Int)) (.int .i64 (s.size : Int))).run Tryz.prog W = .ok (.slice (some ⟨W.heap.size, 0, none⟩) s.size s.size) (W.alloc (.cells M 5)) := fun W => by
   have h := run_make (P := Tryz.prog) W 244 5 i0 (.int .u8 0) Tryz.underlying244 hi hz0 .i64 .i64 (s.size : Int) (s.size : Int) (by omega) (by omega) (by rw [hz2]; omega) (by omega)
   rw [<- hM] at h
   simpa using h
  clear hM
  have hcp := Lib.run_copy_row_string (P := Tryz.prog) (w.alloc (.cells M 5)) 244 9 3 5 w.heap.size 0 s.size s.size s M 5 Tryz.underlying244 hinfo (heap_alloc_new w _) (Nat.le_refl _) (by omega)
  obtain ⟨Y, hY⟩ : ∃ Y, Y = (M.toList.take 0 ++ Lib.byteCells s.data.toList ++ M.toList.drop (0 + s.size)).toArray := ⟨_, rfl⟩
  rw [<- hY] at hcp
  have hYl : Y.toList = Lib.byteCells s.data.toList := by
   rw [hY, List.toList_toArray, List.take_zero, List.nil_append, List.drop_of_length_le (by rw [Array.length_toList]; omega), List.append_nil]
  have hYs : Y.size = s.size := by rw [<- Array.length_toList, hYl, Lib.byteCells_length, <- Lib.size_eq]
  have hgY : ((w.alloc (.cells M 5)).setRow w.heap.size Y).heap[w.heap.size]? = some (.cells Y 5 (0, 0)) := setRow_heap _ _ M _ 5 (0, 0) (heap_alloc_new w _)
  have hne : s.data.toList ≠ [] := fun e => h0 (by rw [Lib.size_eq, e]; rfl)
  have hUS := Lib.run_unsafeString_row (P := Tryz.prog) ((w.alloc (.cells M 5)).setRow w.heap.size Y) 245 3 9 5 Tryz.underlying245 hco w.heap.size Y.size (by unfold World.shape?; rw [hgY]) s.data.toList hne (by rw [<- Lib.size_eq]; omega) (by rw [<- Lib.size_eq]; omega)
   (fun j x hx => Lib.cells_of_row hgY Y.size j _ (by rw [List.take_of_length_le (by rw [Array.length_toList]; exact Nat.le_refl _), hYl]; simp [Lib.byteCells, hx]))
  rw [<- Lib.size_eq] at hUS
  clear hY
  go_enter Tryz.func166, Tryz.ntmps166
  go_wp2
  go_ret
  have hb1 : Below w.heap.size w (w.alloc (.cells M 5)) := (Below.refl _ w).alloc (Nat.le_refl _) _
  have hb2 : Below w.heap.size (w.alloc (.cells M 5)) ((w.alloc (.cells M 5)).setRow w.heap.size Y) := ⟨rfl, rfl, rfl, by simp, fun k hk => setRow_other _ _ _ _ (by omega)⟩
  exact ⟨rfl, Lib.below_freeze (hb1.trans hb2) (p := ⟨w.heap.size, 0, none⟩) (Nat.le_refl _) _⟩
set_option maxHeartbeats 400000 in
theorem qjx (s : ByteArray) (w : World) (hlim : s.size <= 100000) :
  Calls Tryz.prog 129 #[.string s] w fun e w' => e = .returned (.string s) /\ Below w.heap.size w w' := by
 go_enter Tryz.func129, Tryz.ntmps129
 go_wp2_with (go_at_call 166; refine (qsk _ _ hlim).mono ?_; rintro e w1 ⟨rfl, hb1⟩)
 go_ret
 exact ⟨rfl, hb1⟩
def qdm (l : Bs) : Nat := (qaa l).length
theorem ql7 (l : Bs) (h : l ≠ []) : qdm l = qkd l + 1 := by
 unfold qdm qaa qkd; rw [if_neg h, qj9]
set_option maxHeartbeats 400000 in
theorem qq5 (s : ByteArray) (w : World) (hs : s.size <= 2000000) :
  Calls Tryz.prog 134 #[.string s] w fun e w' => e = .returned (.int .i64 (qdm (bl s))) /\ w' = w := by
 have hc : qkd (bl s) <= s.size := by rw [<- qb4]; exact List.count_le_length
 by_cases h0 : bl s = []
 ·have hz : s = ⟨#[]⟩ := qer (h0.trans qh4.symm)
  subst hz
  go_enter Tryz.func134, Tryz.ntmps134
  go_wp2
  go_ret
  exact ⟨rfl, rfl⟩
 ·have hq : (s.toList.isEmpty) = false := by rw [qaz]; simpa using h0
  have HD : Hid (qdm (bl s) = qkd (bl s) + 1) := ql7 _ h0
  have hb : qkd (bl s) <= 2000000 := by omega
  go_enter Tryz.func134, Tryz.ntmps134
  go_wp2_with (go_at_call 181; refine (qr9 _ _).mono ?_; rintro e w1 ⟨rfl, rfl⟩)
  go_ret
  exact ⟨qgn (by rw [HD.out]; rfl), rfl⟩
set_option maxHeartbeats 400000 in
theorem qul (a b : ByteArray) (w : World) (ha : a.size <= 1000) (hb : b.size <= 1000) :
  Calls Tryz.prog 78 #[.string a, .string b] w fun e w' => e = .returned (.string (if bl a = [] then b else sb (bl a ++ 47 :: bl b))) /\ Below w.heap.size w w' := by
 by_cases h0 : bl a = []
 ·have hz : a = ⟨#[]⟩ := qer (h0.trans qh4.symm)
  rw [if_pos h0]
  subst hz
  go_enter Tryz.func78, Tryz.ntmps78
  go_wp2_with (go_at_call 129; refine (qjx _ _ (by omega)).mono ?_; rintro e w1 ⟨rfl, hb1⟩)
  go_ret
  exact ⟨rfl, hb1⟩
 ·rw [if_neg h0]
  have hq : (a.toList.isEmpty) = false := by rw [qaz]; simpa using h0
  go_enter Tryz.func78, Tryz.ntmps78
  go_wp2
  go_ret
  exact ⟨qsl (qer (by rw [qec, qec, qbi]; simp [bl])), Below.refl _ _⟩
theorem qu8 (p a : ByteArray) : inB (bl p) (bl a) = (a.toList.isEmpty || (p.toList == a.toList) || (decide (a.size < p.size) && ((p.extract 0 a.size).toList == a.toList) && (if h : a.size < p.size then ((p[a.size].toNat : Int) == 47) else false))) := by
 unfold inB
 rw [qmj, qmj, qaz a, qcq]
 congr 1
 by_cases h : a.size < p.size
 ·have h1 : (bl p)[(bl a).length]? = some p[a.size] := by
   rw [qb4, List.getElem?_eq_getElem (by rw [qb4]; exact h), qu0]
  have h2 : (((p[a.size].toNat : Int)) == 47) = decide (p[a.size] = 47) := by
   rw [Bool.eq_iff_iff]
   simp only [beq_iff_eq, decide_eq_true_eq]
   exact qqu _ 47 (by omega)
  rw [dif_pos h, h1, h2]
  simp only [qb4, h, List.drop_zero, Nat.sub_zero, Option.some.injEq]
 ·simp [qb4, h]
set_option maxHeartbeats 400000 in
theorem qk9 (p a : ByteArray) (w : World) (_hp : p.size <= 2000000) (_ha : a.size <= 2000000) :
  Calls Tryz.prog 121 #[.string p, .string a] w fun e w' => e = .returned (.bool (inB (bl p) (bl a))) /\ w' = w := by
 have HI : Hid (inB (bl p) (bl a) = (a.toList.isEmpty || (p.toList == a.toList) || (decide (a.size < p.size) && ((p.extract 0 a.size).toList == a.toList) && (if h : a.size < p.size then ((p[a.size].toNat : Int) == 47) else false)))) := qu8 p a
 cases hz : a.toList.isEmpty <;> cases he : (p.toList == a.toList)
 all_goals
  go_enter Tryz.func121, Tryz.ntmps121
  go_wp2
  all_goals go_ret
  all_goals refine ⟨qa9 ?_, rfl⟩
  all_goals rw [HI.out]
  all_goals simp [*]
set_option maxHeartbeats 400000 in
theorem qqy (s : ByteArray) (w : World) (hs : s.size <= 2000000) :
  Calls Tryz.prog 81 #[.string s] w fun e w' => (∃ a b : ByteArray, e = .returned (.tuple #[.string a, .string b]) /\
   ((¬ qhd (bl s) /\ bl a = [] /\ bl b = bl s) \/ (bl s = bl a ++ 47 :: bl b /\ ¬ qhd (bl b)))) /\ (∃ n, w' = w.drewN n) := by
 go_enter Tryz.func81, Tryz.ntmps81
 go_wp2_with (go_at_call 136; refine (qkj _ _ (by unfold maxLen; omega)).mono ?_; rintro e w1 ⟨⟨r, rfl, (⟨rfl, hn⟩ | ⟨k, rfl, hk, he, hn⟩)⟩, rfl⟩)
 ·go_ret2
  exact ⟨⟨⟨#[]⟩, s, rfl, .inl ⟨hn, rfl, rfl⟩⟩, 0, rfl⟩
 ·have HE : Hid (bl s = List.take k (bl s) ++ 47 :: List.drop (k + 1) (bl s)) := he
  have HK : Hid (k < s.size) := hk
  clear he
  have h1 : (k : Int) <= s.size := by omega
  have h2 : (k : Int) + 1 <= s.size := by omega
  go_quiet (fail)
  go_wp2
  go_ret2
  refine ⟨⟨s.extract 0 k, s.extract (k + 1) s.size, rfl, .inr ⟨?_, ?_⟩⟩, _, rfl⟩
  ·rw [qcq, qcq]
   conv => lhs; rw [HE.out]
   have : ((bl s).drop (k + 1)).take (s.size - (k + 1)) = (bl s).drop (k + 1) := List.take_of_length_le (by rw [List.length_drop, qb4]; omega)
   rw [this]; simp
  ·rw [qcq]
   have : ((bl s).drop (k + 1)).take (s.size - (k + 1)) = (bl s).drop (k + 1) := List.take_of_length_le (by rw [List.length_drop, qb4]; omega)
   rw [this]; exact hn
set_option maxHeartbeats 400000 in
theorem qq3 (s : ByteArray) (w : World) :
  Calls Tryz.prog 102 #[.string s] w fun e w' => (bl s = [] /\ e = .returned (.func (.func 151) #[] #[]) /\ w' = w) \/
   (bl s ≠ [] /\ e = .returned (.func (.func 224) #[] #[.pointer (some ⟨w.heap.size + 1, 0, none⟩), .pointer (some ⟨w.heap.size, 0, none⟩), .pointer (some ⟨w.heap.size + 2, 0, none⟩)]) /\
    w' = ((w.alloc (.cells #[.string s] 9)).alloc (.cells #[.string ⟨#[47]⟩] 9)).alloc (.cells #[.int .i64 0] 3)) := by
 have hmf : ∀ (fn : Fn) (first cap : Array Value) (w : World), (Instr.makeFunc fn first cap).run Tryz.prog w = .ok (.func fn first cap) w := fun _ _ _ _ => rfl
 by_cases h0 : bl s = []
 ·have hz : s = ⟨#[]⟩ := qer (h0.trans qh4.symm)
  subst hz
  go_enter Tryz.func102, Tryz.ntmps102
  go_wp2
  go_ret
  exact .inl ⟨rfl, rfl, rfl⟩
 ·have hq : (s.toList.isEmpty) = false := by rw [qaz]; simpa using h0
  go_enter Tryz.func102, Tryz.ntmps102
  go_wp2
  go_ret
  exact .inr ⟨h0, rfl, rfl⟩
end Go.Proofs.YtphclnolomgjoaaGreatDoor
