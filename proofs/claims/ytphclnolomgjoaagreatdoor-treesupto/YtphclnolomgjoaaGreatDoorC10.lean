import Derived.Test.YtphclnolomgjoaaGreatDoorC06
import Derived.Lib.AppendZeros
import Derived.BigRegion
set_option linter.unusedVariables false
set_option linter.unusedSimpArgs false
namespace Go.Proofs.YtphclnolomgjoaaGreatDoor
open Go.RowKit
def strs (l : List Bs) : List Value := l.map fun x => .string (sb x)
theorem qw2 : (Tryz.prog.info? 9).map (fun i => (i.zero, i.size, i.bytes)) = some (some (.string ⟨#[]⟩), 1, 16) := by kernel_rfl
def qsz (s : Bs) (w : World) (e : Ending) (w' : World) : Prop :=
 (qar s = false /\ e = .returned (.tuple #[.slice none 0 0, .bool false])) \/
 (qar s = true /\ ∃ sl, e = .returned (.tuple #[sl, .bool true]) /\ w'.ownsRow w.heap.size 9 1 sl (qaa s).length (strs (qaa s)))
theorem qs7 (p xs : List Bs) (x y : Bs) (ys : List Bs) (c : UInt8) (s r : Bs) (hs : s ≠ []) (h : splitB s = xs ++ (x ++ c :: y) :: ys) (hb : qcf c = false \/ 4 <= x.length) : qar s = false := by
 have hn : qaa s = splitB s := by simp [qaa, hs]
 rw [qba, hn, h]
 cases hk : qbn (xs ++ (x ++ c :: y) :: ys)
 ·rfl
 ·have h1 := qbz hk (n := x ++ c :: y) (by simp)
  rcases hb with hb | hb
  ·simp [qbd, hb] at h1
  ·have := (qea h1).2; simp at this; omega
theorem qlv (s : Bs) (hs : s ≠ []) (a b : List Bs) (h : splitB s = a ++ [] :: b) : qar s = false := by
 have hn : qaa s = splitB s := by simp [qaa, hs]
 rw [qba, hn, h]
 cases hk : qbn (a ++ [] :: b)
 ·rfl
 ·have h1 := qbz hk (n := []) (by simp)
  simp [qbd] at h1
theorem qt9 (s : Bs) (hs : s ≠ []) (xs : List Bs) (h : splitB s = xs) (hx : xs.all qbd = true) : qar s = true /\ qaa s = xs := by
 have hn : qaa s = splitB s := by simp [qaa, hs]
 rw [qba, hn, h]; exact ⟨hx, rfl⟩
theorem qma (y : Bs) (h : y.all qcf = true) (h4 : y.length <= 4) (h1 : 1 <= y.length) : qbd y = true := by
 unfold qbd; rw [h]; simp; omega
theorem qr5 (y : Bs) : (sb y).toList.isEmpty = y.isEmpty := by rw [qaz, qbi]
theorem ql4 (xs : List Bs) (y : Bs) : strs (xs ++ [y]) = strs xs ++ [.string (sb y)] := by simp [strs]
set_option maxRecDepth 100000 in
set_option maxHeartbeats 4000000 in
theorem ql8 (s : ByteArray) (hs : s.size <= 2000000) (w : World) :
  Calls Tryz.prog 113 #[.string s] w fun e w' => qsz (bl s) w e w' /\ Below w.heap.size w w' := by
 by_cases h0 : bl s = []
 ·have hz : s = ⟨#[]⟩ := qer (h0.trans qh4.symm)
  subst hz
  go_enter Tryz.func113, Tryz.ntmps113
  go_wp2
  go_ret2
  exact ⟨.inr ⟨rfl, _, rfl, World.ownsRow_nil _ _ _ _⟩, Below.refl _ _⟩
 have hq : (s.toList.isEmpty) = false := by rw [qaz]; simpa using h0
 have HNE : Hid (bl s ≠ []) := h0
 clear h0
 obtain ⟨i0, hi, hz0, hz1, hz2⟩ := info_parts qw2
 go_enter Tryz.func113, Tryz.ntmps113
 go_wp2
 go_loopw [4, 5, 6] (fun o x i wr => ∃ (k : Nat) (xs : List Bs) (y : Bs), i = .int .i64 k /\ x = .string (sb y) /\ wr.ownsRow w.heap.size 9 1 o xs.length (strs xs) /\ Below w.heap.size w wr /\ xs.all qbd = true /\ y.all qcf = true /\ y.length <= 4 /\ xs.length <= k /\
   ((k <= s.size /\ splitB ((bl s).take k) = xs ++ [y]) \/ (k = s.size + 1 /\ splitB (bl s) = xs)))
  (fun _ _ i _ => s.size + 2 - (intOf i).toNat)
 case atStart => exact ⟨0, [], [], rfl, rfl, World.ownsRow_nil _ _ _ _, Below.refl _ _, rfl, rfl, by simp, Nat.le_refl _, .inl ⟨Nat.zero_le _, by simp [splitB]⟩⟩
 case round =>
  obtain ⟨k, xs, y, rfl, rfl, hown, hbel, hxs, hy, hy4, hkx, hsp⟩ := hrel
  have HXS : Hid (xs.all qbd = true) := hxs
  have HY : Hid (y.all qcf = true) := hy
  clear hxs hy
  rcases hsp with ⟨hk, hsp⟩ | ⟨hk, hsp⟩
  ·have HSP : Hid (splitB ((bl s).take k) = xs ++ [y]) := hsp
   clear hsp
   by_cases hlt : k < s.size
   ·have HD : Hid ((bl s).drop k = s[k] :: (bl s).drop (k + 1)) := qsy s k hlt
    have HT : Hid ((bl s).take (k + 1) = (bl s).take k ++ [s[k]]) := qsh s k hlt
    by_cases h47 : s[k] = 47
    ·have H47 : Hid (s[k] = 47) := h47
     have hb : ((s[k].toNat : Int) != 47) = false := by rw [h47]; rfl
     clear h47
     have HS0 : splitB (bl s) = xs ++ y :: splitB ((bl s).drop (k + 1)) := by
      have h1 := qca ((bl s).take k) ((bl s).drop (k + 1))
      have h2 := List.take_append_drop k (bl s)
      rw [HD.out, H47.out] at h2
      rw [h2, HSP.out] at h1
      rw [h1]; simp
     have HS : Hid (splitB (bl s) = xs ++ y :: splitB ((bl s).drop (k + 1))) := HS0
     clear HS0
     have hye := qr5 y
     cases hy0 : y.isEmpty
     ·rw [hy0] at hye
      have HNY : Hid (qbd y = true) := qma y HY.out hy4 (by cases y <;> simp at hy0 ⊢)
      go_wp2_with (at_builtin; refine wpList_append_own _ rfl _ _ 46 rfl w.heap.size 9 i0 (.string ⟨#[]⟩) 1 16 Tryz.underlying46 hi hz0 hz1 hz2 rfl (by decide) _ _ _ rfl (hown.alloc _) ⟨wr.heap.size, 0, none⟩ 1 1 [.string (sb y)] rfl rfl (cell_one_new _ _ _) (by simp [Value.oneCell']) (by unfold maxLen; omega) (by omega) (by have := hbel.size; simp; omega) ?_; intro v' w1 hown' hgrow _)
      go_roundw
      case rel =>
       refine ⟨k + 1, xs ++ [y], [], by go_num, rfl, by rw [ql4]; simpa using hown', ?_, by simp [HXS.out, HNY.out], rfl, by simp, by simp; omega, .inl ⟨by omega, ?_⟩⟩
       ·exact (hbel.alloc hbel.size _).grown hgrow (by have := hbel.size; simp; omega) (fun j hj => (hown.lt j hj).1)
       ·rw [HT.out, H47.out, show (bl s).take k ++ [47] = (bl s).take k ++ 47 :: [] from rfl, qca, HSP.out]; simp [splitB]
      case measure => simp [intOf]; omega
     ·rw [hy0] at hye
      have hbad : qar (bl s) = false := qlv _ HNE.out xs _ (by
       have := HS.out
       cases y with
       | nil => exact this
       | cons c y => simp at hy0)
      go_wp2
      go_ret2
      exact ⟨.inl ⟨hbad, rfl⟩, hbel⟩
    ·have hb : ((s[k].toNat : Int) != 47) = true := by
      have := mt (qqu s[k] 47 (by omega)).1 h47
      simpa using this
     obtain ⟨h', t', he'⟩ := qco ((bl s).drop (k + 1))
     have HS : Hid (splitB (bl s) = xs ++ (y ++ s[k] :: h') :: t') := by
      have h1 : splitB ((bl s).drop k) = (s[k] :: h') :: t' := by rw [HD.out]; simp only [splitB]; rw [if_neg h47, he']
      have h2 := qeq ((bl s).take k) ((bl s).drop k) HSP.out h1
      rw [List.take_append_drop] at h2; exact h2
     have HC : Hid (qcf s[k] = (decide (97 <= (s[k].toNat : Int)) && decide ((s[k].toNat : Int) <= 122))) := qjk _
     have hsz := qd3 y
     by_cases hgood : qcf s[k] = true /\ y.length < 4
     ·obtain ⟨hg1, hg2⟩ := hgood
      have HG : Hid (qcf s[k] = true) := hg1
      have hc1 : 97 <= (s[k].toNat : Int) := by have := HC.out; rw [hg1] at this; simp at this; omega
      have hc2 : (s[k].toNat : Int) <= 122 := by have := HC.out; rw [hg1] at this; simp at this; omega
      have h4 : ((y.length : Int) == 4) = false := by simp only [beq_eq_false_iff_ne, ne_eq]; omega
      clear hg1 he'
      go_wp2
      refine ⟨⟨k + 1, xs, y ++ [s[k]], by go_num, ?_, hown, hbel, HXS.out, by rw [List.all_append, HY.out]; simp [HG.out], by simp; omega, by omega, .inl ⟨by omega, ?_⟩⟩, by simp [intOf]; omega⟩
      ·exact congrArg Value.string (qer (by
        rw [qec, qbi, qbi, qcq, HD.out]; simp))
      ·rw [HT.out, qeq ((bl s).take k) [s[k]] HSP.out (by simp only [splitB]; rw [if_neg h47])]
     ·have hbad : qar (bl s) = false := qs7 [] xs y h' t' s[k] (bl s) [] HNE.out HS.out (by
       cases hcc : qcf s[k]
       ·exact .inl rfl
       ·right
        have : ¬ y.length < 4 := fun h => hgood ⟨hcc, h⟩
        omega)
      have hor : ¬ (97 <= (s[k].toNat : Int)) \/ ¬ ((s[k].toNat : Int) <= 122) \/ (y.length : Int) = 4 := by
       have h1 := HC.out
       by_cases a1 : 97 <= (s[k].toNat : Int)
       ·by_cases a2 : (s[k].toNat : Int) <= 122
        ·right; right
         have hcc : qcf s[k] = true := by rw [h1]; simp [a1, a2]
         have : ¬ y.length < 4 := fun h => hgood ⟨hcc, h⟩
         omega
        ·exact .inr (.inl a2)
       ·exact .inl a1
      clear hgood he'
      rcases hor with hor | hor | hor
      ·go_wp2
       all_goals (go_ret2; exact ⟨.inl ⟨hbad, rfl⟩, hbel⟩)
      ·go_wp2
       all_goals (go_ret2; exact ⟨.inl ⟨hbad, rfl⟩, hbel⟩)
      ·have h4b : ((y.length : Int) == 4) = true := by simp [hor]
       clear hor
       go_wp2
       all_goals (go_ret2; exact ⟨.inl ⟨hbad, rfl⟩, hbel⟩)
   ·obtain rfl : k = s.size := by omega
    have HS : Hid (splitB (bl s) = xs ++ [y]) := by
     have := HSP.out
     rwa [List.take_of_length_le (by rw [qb4]; omega)] at this
    have hye := qr5 y
    cases hy0 : y.isEmpty
    ·rw [hy0] at hye
     have HNY : Hid (qbd y = true) := qma y HY.out hy4 (by cases y <;> simp at hy0 ⊢)
     go_wp2_with (at_builtin; refine wpList_append_own _ rfl _ _ 46 rfl w.heap.size 9 i0 (.string ⟨#[]⟩) 1 16 Tryz.underlying46 hi hz0 hz1 hz2 rfl (by decide) _ _ _ rfl (hown.alloc _) ⟨wr.heap.size, 0, none⟩ 1 1 [.string (sb y)] rfl rfl (cell_one_new _ _ _) (by simp [Value.oneCell']) (by unfold maxLen; omega) (by omega) (by have := hbel.size; simp; omega) ?_; intro v' w1 hown' hgrow _)
     go_roundw
     case rel =>
      refine ⟨s.size + 1, xs ++ [y], [], by go_num, rfl, by rw [ql4]; simpa using hown', ?_, by simp [HXS.out, HNY.out], rfl, by simp, by simp <;> omega, .inr ⟨rfl, HS.out⟩⟩
      exact (hbel.alloc hbel.size _).grown hgrow (by have := hbel.size; simp; omega) (fun j hj => (hown.lt j hj).1)
     case measure => simp [intOf]
    ·rw [hy0] at hye
     have hbad : qar (bl s) = false := qlv _ HNE.out xs [] (by
      have := HS.out
      cases y with
      | nil => exact this
      | cons c y => simp at hy0)
     go_wp2
     go_ret2
     exact ⟨.inl ⟨hbad, rfl⟩, hbel⟩
  ·obtain ⟨hg1, hg2⟩ := qt9 _ HNE.out xs hsp HXS.out
   subst hk
   clear hsp
   go_wp2
   go_ret2
   exact ⟨.inr ⟨hg1, _, rfl, by rw [hg2]; exact hown⟩, hbel⟩
theorem qp8 (k : List Bs) (h : ∀ x ∈ k, x.length <= 1000) : (joinB k).length <= 1001 * k.length := by
 induction k with
 | nil => simp [joinB]
 | cons a r ih =>
  have ha := h a (by simp)
  by_cases e : r = []
  ·subst e; simp [joinB]; omega
  ·rw [qbq a r e]; have := ih (fun x hx => h x (by simp [hx])); simp; omega
set_option maxRecDepth 100000 in
set_option maxHeartbeats 400000 in
theorem quj (ao : Option Addr) (cap : Nat) (l : List Bs) (w : World) (hl : l.length <= 2000000) (hsm : ∀ x ∈ l, x.length <= 1000) (hl4 : l.length <= 1000)
  (hc : ∀ (j : Nat) (x : Bs), l[j]? = some x -> ∃ g, ao = some ⟨g, 0, none⟩ /\ w.cell? ⟨g, j, none⟩ = some (.string (sb x))) :
  Calls Tryz.prog 122 #[.slice ao l.length cap] w fun e w' => e = .returned (.string (sb (joinB l))) /\ w' = w := by
 obtain ⟨n, hn⟩ : ∃ n, n = l.length := ⟨_, rfl⟩
 rw [<- hn] at hl hl4 ⊢
 have HN : Hid (n = l.length) := hn
 clear hn
 go_enter Tryz.func122, Tryz.ntmps122
 go_wp2
 go_loop [3, 4] (fun s i => ∃ k : Nat, k <= n /\ i = .int .i64 k /\ s = .string (sb (joinB (l.take k)))) (fun _ i => n - (intOf i).toNat)
 case atStart => exact ⟨0, Nat.zero_le _, rfl, rfl⟩
 case round =>
  obtain ⟨k, hk, rfl, rfl⟩ := hrel
  by_cases hlt : k < n
  ·have hlt' : k < l.length := by rw [<- HN.out]; exact hlt
   obtain ⟨x, hx⟩ : ∃ x, l[k]? = some x := ⟨_, List.getElem?_eq_getElem hlt'⟩
   have HT : Hid (l.take (k + 1) = l.take k ++ [x]) := by
    rw [List.take_succ_eq_append_getElem hlt']; rw [List.getElem?_eq_getElem hlt'] at hx; cases hx; rfl
   obtain ⟨g, hao, hcell⟩ := hc k x hx
   have hxs : (sb x).size <= 1000 := by rw [qd3]; exact hsm x (List.mem_of_getElem? hx)
   have hac : (sb (joinB (l.take k))).size <= 2000000 := by
    rw [qd3]; have := qp8 (l.take k) (fun y hy => hsm y (List.mem_of_mem_take hy)); simp at this; omega
   obtain ⟨acc, hacc⟩ : ∃ acc, acc = sb (joinB (l.take k)) := ⟨_, rfl⟩
   rw [<- hacc] at hac ⊢
   have HA : Hid (acc = sb (joinB (l.take k))) := hacc
   clear hx hc hsm hacc
   subst hao
   rcases Nat.eq_zero_or_pos k with rfl | hpos
   ·go_wp2
    go_round
    case rel =>
     refine ⟨1, by omega, by go_num, congrArg Value.string (qer ?_)⟩
     have := HT.out
     rw [Nat.zero_add] at this
     rw [qec, HA.out, qbi, qbi, qbi, this]; simp [joinB]
    case measure => simp [intOf]; omega
   ·go_wp2
    go_round
    case rel =>
     refine ⟨k + 1, by omega, by go_num, congrArg Value.string (qer ?_)⟩
     rw [qec, qec, HA.out, qbi, qbi, qbi, HT.out, qjc _ _ (fun e => by have h1 := congrArg List.length e; rw [List.length_take, List.length_nil] at h1; have := HN.out; omega)]
     simp [bl]
    case measure => simp [intOf]; omega
  ·go_wp2
   go_ret
   refine ⟨qsl (by rw [List.take_of_length_le (by rw [<- HN.out]; omega)]), rfl⟩
/-! the sum of the nominals -/
def qaf (L : List Ent) (s : Bs) : List Ent := L.filter fun e => e.leaf && inB (joinB e.key) s
def es0 (l : List Ent) : Int := (l.map (·.n0)).sum
def es1 (l : List Ent) : Int := (l.map (·.n1)).sum
theorem qus (l : List Ent) (h : ∀ n ∈ l, 0 <= n.n0 /\ n.n0 <= 1000) : 0 <= es0 l /\ es0 l <= 1000 * l.length := by
 induction l with
 | nil => simp [es0]
 | cons a l ih =>
  have h1 := ih (fun n hn => h n (by simp [hn]))
  have h2 := h a (by simp)
  simp [es0] at h1 ⊢; omega
theorem quq (l : List Ent) (h : ∀ n ∈ l, 0 <= n.n1 /\ n.n1 <= 1000) : 0 <= es1 l /\ es1 l <= 1000 * l.length := by
 induction l with
 | nil => simp [es1]
 | cons a l ih =>
  have h1 := ih (fun n hn => h n (by simp [hn]))
  have h2 := h a (by simp)
  simp [es1] at h1 ⊢; omega
structure Ents (L : List Ent) : Prop where
 ok : ∀ e ∈ L, qbn e.key = true /\ e.key.length <= 4
 num : ∀ e ∈ L, (0 <= e.n0 /\ e.n0 <= 1000) /\ (0 <= e.n1 /\ e.n1 <= 1000)
 len : L.length <= 20
 pos : 0 < L.length
theorem Ents.small {L : List Ent} (h : Ents L) {e : Ent} (he : e ∈ L) : (sb (joinB e.key)).size <= 2000000 := by
 rw [qd3]; have := qgm _ (h.ok e he).1; have := (h.ok e he).2; omega
set_option maxRecDepth 100000 in
set_option maxHeartbeats 400000 in
theorem qcr {w : World} {br g cap : Nat} {L : List Ent} {v1 v2 v3 : Value} (h : qc9 w br g cap L v1 v2 v3) (E : Ents L) (s : ByteArray) (hs : s.size <= 2000000) :
  Calls Tryz.prog 203 #[.pointer (some ⟨br, 0, none⟩), .string s] w fun e w' => e = .returned (.agg #[.int .i64 (es0 (qaf L (bl s))), .int .i64 (es1 (qaf L (bl s)))]) /\ Below w.heap.size w w' := by
 have hbr := h.at_.lt
 obtain ⟨n, hn⟩ : ∃ n, n = L.length := ⟨_, rfl⟩
 have hL20 := E.len
 rw [<- hn] at hL20
 have HN : Hid (n = L.length) := hn
 have hc0 : w.cell? ⟨br, 0, none⟩ = some (.slice (some ⟨g, 0, none⟩) n cap) := by have := h.at_.cell 0; rw [hn]; simpa using this
 clear hn
 go_enter Tryz.func203, Tryz.ntmps203
 go_wp2
 go_loopw [6] (fun i wr => ∃ k : Nat, k <= n /\ i = .int .i64 k /\ Below w.heap.size w wr /\ Blk wr w.heap.size 35 #[.int .i64 0, .int .i64 0] /\ Blk wr (w.heap.size + 1) 35 #[.int .i64 (es0 (qaf (L.take k) (bl s))), .int .i64 (es1 (qaf (L.take k) (bl s)))])
  (fun i _ => n - (intOf i).toNat)
 case atStart => exact ⟨0, Nat.zero_le _, rfl, by exact bel2, by exact blk2, by refine Blk.new' ?_; simp⟩
 case round =>
  obtain ⟨k, hk, rfl, hbel, hb4, hb5⟩ := hrel
  have hR := h.below hbel
  have hc := (hbel.cell (p := ⟨br, 0, none⟩) hbr).trans hc0
  by_cases hlt : k < n
  ·have hlt' : k < L.length := by rw [<- HN.out]; exact hlt
   obtain ⟨x, hx⟩ : ∃ x, L[k]? = some x := ⟨_, List.getElem?_eq_getElem hlt'⟩
   have HT : Hid (L.take (k + 1) = L.take k ++ [x]) := by
    rw [List.take_succ_eq_append_getElem hlt']; rw [List.getElem?_eq_getElem hlt'] at hx; cases hx; rfl
   have hxm := List.mem_of_getElem? hx
   have p0 := hR.ent hx (j := 0) (v := .string (sb (joinB x.key))) rfl
   have p1 := hR.ent hx (j := 1) (v := .bool x.leaf) rfl
   have p2 := hR.ent hx (j := 2) (v := .int .i64 x.n0) rfl
   have p3 := hR.ent hx (j := 3) (v := .int .i64 x.n1) rfl
   simp only [Nat.add_zero] at p0
   have hin := fun W => qk9 (sb (joinB x.key)) s W (E.small hxm) hs
   rw [qbi] at hin
   have x0 := (E.num x hxm).1
   have x1 := (E.num x hxm).2
   have hsub : ∀ e ∈ qaf (L.take k) (bl s), e ∈ L := fun e he => List.mem_of_mem_take (List.mem_filter.1 he).1
   have s0 := qus (qaf (L.take k) (bl s)) (fun e he => (E.num e (hsub e he)).1)
   have s1 := quq (qaf (L.take k) (bl s)) (fun e he => (E.num e (hsub e he)).2)
   have hlen : (qaf (L.take k) (bl s)).length <= 20 := by
    refine Nat.le_trans (List.length_filter_le _ _) ?_
    simp; have := HN.out; omega
   have HE00 : qaf (L.take (k + 1)) (bl s) = qaf (L.take k) (bl s) ++ (if x.leaf && inB (joinB x.key) (bl s) then [x] else []) := by
    unfold qaf; rw [HT.out, List.filter_append]; simp [List.filter_cons]
   have HE : Hid (qaf (L.take (k + 1)) (bl s) = qaf (L.take k) (bl s) ++ (if x.leaf && inB (joinB x.key) (bl s) then [x] else [])) := HE00
   clear HE00
   clear hx
   obtain ⟨e0, he0⟩ : ∃ e0, e0 = es0 (qaf (L.take k) (bl s)) := ⟨_, rfl⟩
   obtain ⟨e1, he1⟩ : ∃ e1, e1 = es1 (qaf (L.take k) (bl s)) := ⟨_, rfl⟩
   rw [<- he0] at hb5 s0
   rw [<- he1] at hb5 s1
   have HE0 : Hid (e0 = es0 (qaf (L.take k) (bl s))) := he0
   have HE1 : Hid (e1 = es1 (qaf (L.take k) (bl s))) := he1
   clear he0 he1 hsub
   have d0 := hb5.cell 0
   have d1 := hb5.cell 1
   have f0 := hb5.frozen 0
   have f1 := hb5.frozen 1
   simp only [List.getElem?_toArray, List.getElem?_cons_zero, List.getElem?_cons_succ] at d0 d1
   have hbg : ¬ (g = w.heap.size + 1) := fun e => by have := (h.row.lt g rfl).2; omega
   have hbb : ¬ (br = w.heap.size + 1) := fun e => by omega
   cases hl : x.leaf
   ·rw [hl] at p1
    go_wp2_with (go_at_call 121; refine (hin _).mono ?_; rintro e w1 ⟨rfl, hw1⟩; subst hw1)
    refine ⟨⟨k + 1, by omega, by go_num, hbel, hb4, ?_⟩, by simp [intOf]; omega⟩
    have := HE.out; rw [hl] at this; rw [this]; have := HE0.out; have := HE1.out; subst e0 e1; simpa using hb5
   ·rw [hl] at p1
    cases hi : inB (joinB x.key) (bl s)
    ·rw [hi] at hin
     go_wp2_with (go_at_call 121; refine (hin _).mono ?_; rintro e w1 ⟨rfl, hw1⟩; subst hw1)
     refine ⟨⟨k + 1, by omega, by go_num, hbel, hb4, ?_⟩, by simp [intOf]; omega⟩
     have := HE.out; rw [hi] at this; rw [this]; have := HE0.out; have := HE1.out; subst e0 e1; simpa using hb5
    ·rw [hi] at hin
     go_wp2_with (go_at_call 121; refine (hin _).mono ?_; rintro e w1 ⟨rfl, hw1⟩; subst hw1)
     clear hin
     go_region
     go_wp2
     go_region
     go_wp2
     refine ⟨⟨k + 1, by omega, by go_num, ((hbel.setCell (by simp) _).setCell (by simp) _).drew.drew, ((hb4.other _ _ (by simp)).other _ _ (by simp)).drew.drew, ?_⟩, by simp [intOf]; omega⟩
     have hb6 := (((hb5.set 0 (.int .i64 (e0 + x.n0))).set 1 (.int .i64 (e1 + x.n1)))).drew.drew
     have h1 := HE.out; rw [hl, hi] at h1; rw [h1]
     have h2 := HE0.out; have h3 := HE1.out; subst e0 e1
     simpa [es0, es1] using hb6
  ·have d0 := hb5.cell 0
   have d1 := hb5.cell 1
   have c0 := hb4.cell 0
   have c1 := hb4.cell 1
   have f0 := hb4.frozen 0
   have f1 := hb4.frozen 1
   simp only [List.getElem?_toArray, List.getElem?_cons_zero, List.getElem?_cons_succ] at d0 d1 c0 c1
   go_wp2
   have HTT : L.take k = L := List.take_of_length_le (by rw [<- HN.out]; omega)
   have hb4' := (hb4.set 0 (.int .i64 (es0 (qaf (L.take k) (bl s))))).set 1 (.int .i64 (es1 (qaf (L.take k) (bl s))))
   have hc' := hb4'.cell
   rw [HTT] at hc'
   refine bodyPost_ret (v := .agg #[.int .i64 (es0 (qaf L (bl s))), .int .i64 (es1 (qaf L (bl s)))]) ?_ rfl ⟨rfl, by exact bel2⟩
   rw [HTT]
   simp [results, Tryz.results133, go_sem, hc']
theorem qh1 (s : ByteArray) (hs : s.size <= 2000000) (hv : qar (bl s) = false) (w : World) :
  Calls Tryz.prog 113 #[.string s] w fun e w' => e = .returned (.tuple #[.slice none 0 0, .bool false]) /\ Below w.heap.size w w' := by
 refine (ql8 s hs w).mono ?_
 rintro e w' ⟨(⟨_, rfl⟩ | ⟨h, _⟩), hb⟩
 ·exact ⟨rfl, hb⟩
 ·rw [hv] at h; cases h
structure NRow (W : World) (l : List Bs) (ao : Option Addr) (cap : Nat) : Prop where
 le : l.length <= cap
 mx : cap <= maxLen
 cell : ∀ (j : Nat) (x : Bs), l[j]? = some x -> ∃ g, ao = some ⟨g, 0, none⟩ /\ g < W.heap.size /\ W.cell? ⟨g, j, none⟩ = some (.string (sb x))
theorem NRow.below {W W' : World} {l : List Bs} {ao : Option Addr} {cap : Nat} (h : NRow W l ao cap) (hb : Below W.heap.size W W') : NRow W' l ao cap :=
 ⟨h.le, h.mx, fun j x hx => by
  obtain ⟨g, h1, h2, h3⟩ := h.cell j x hx
  exact ⟨g, h1, Nat.lt_of_lt_of_le h2 hb.size, (hb.cell (p := ⟨g, j, none⟩) h2).trans h3⟩⟩
theorem qdd (s : ByteArray) (hs : s.size <= 2000000) (hv : qar (bl s) = true) (w : World) :
  Calls Tryz.prog 113 #[.string s] w fun e w' => (∃ ao cap, e = .returned (.tuple #[.slice ao (qaa (bl s)).length cap, .bool true]) /\ NRow w' (qaa (bl s)) ao cap) /\ Below w.heap.size w w' := by
 refine (ql8 s hs w).mono ?_
 rintro e w' ⟨(⟨h, _⟩ | ⟨_, sl, rfl, hown⟩), hb⟩
 ·rw [hv] at h; cases h
 ·refine ⟨?_, hb⟩
  obtain ⟨hl, hr⟩ := hown
  rcases hr with ⟨rfl, h0⟩ | ⟨g, cap, cur, rfl, hbg, hg, h1, h2, h3, h4⟩
  ·exact ⟨none, 0, by rw [h0], by omega, Nat.zero_le _, fun j x hx => by rw [List.getElem?_eq_none (by omega)] at hx; cases hx⟩
  ·refine ⟨_, _, rfl, h1, h2, fun j x hx => ⟨g, rfl, (Array.getElem?_eq_some_iff.1 hg).1, ?_⟩⟩
   unfold World.cell?
   simp only [hg]
   have hs1 : (strs (qaa (bl s)))[j]? = some (.string (sb x)) := by simp [strs, hx]
   rw [<- h4] at hs1
   have hlt := (List.getElem?_eq_some_iff.1 hx).1
   rw [List.getElem?_take_of_lt (by omega)] at hs1
   simpa using hs1
theorem qqb {L : List Ent} (hinj : ∀ a ∈ L, ∀ b ∈ L, a.key = b.key -> a = b) {x : Ent} (hx : x ∈ L) {k : List Bs} (hk : x.key = k) : qcv L k = some x := by
 unfold qcv
 cases h : L.find? fun n => n.key == k with
 | none => have := List.find?_eq_none.1 h x hx; simp [hk] at this
 | some m =>
  have h1 := List.mem_of_find?_eq_some h
  have h2 := List.find?_some h
  simp at h2
  rw [hinj m h1 x hx (by rw [h2, hk])]
theorem qpl {L : List Ent} {k : List Bs} (h : ∀ n ∈ L, n.key ≠ k) : qcv L k = none := by
 unfold qcv; rw [List.find?_eq_none]; intro n hn; simpa using h n hn
def AtK (L : List Ent) (k : List Bs) (e : Ending) : Prop :=
 (qcv L k = none /\ e = .returned (.int .i64 (-1))) \/ (∃ (i : Nat) (x : Ent), qcv L k = some x /\ L[i]? = some x /\ e = .returned (.int .i64 i))
theorem qst {w : World} {br g cap : Nat} {L : List Ent} {v1 v2 v3 : Value} (h : qc9 w br g cap L v1 v2 v3) (E : Ents L) (hinj : ∀ a ∈ L, ∀ b ∈ L, a.key = b.key -> a = b) (s : ByteArray) (k : List Bs) (hk : qbn k = true) (hs : bl s = joinB k) :
  Calls Tryz.prog 114 #[.pointer (some ⟨br, 0, none⟩), .string s] w fun e w' => AtK L k e /\ w' = w := by
 refine (qwn h (by have := E.len; omega) s).mono ?_
 rintro e w' ⟨h1, rfl⟩
 refine ⟨?_, rfl⟩
 rcases h1 with ⟨i, x, rfl, hx, he⟩ | ⟨hno, rfl⟩
 ·have hxm := List.mem_of_getElem? hx
  exact .inr ⟨i, x, qqb hinj hxm (qe5 (E.ok x hxm).1 hk (by rw [he, hs])), hx, rfl⟩
 ·exact .inl ⟨qpl (fun x hx e => hno x hx (by rw [e, hs])), rfl⟩
def qeg (v1 v2 v3 : Value) (br g : Nat) (L : List Ent) (x : Ent) (err : Int) (w : World) (e : Ending) (w' : World) : Prop :=
 e = .returned (.int .i64 err) /\ ((err ≠ 0 /\ Below w.heap.size w w') \/ (err = 0 /\ ∃ g' cap', qc9 w' br g' cap' (L ++ [x]) v1 v2 v3 /\ Keep (fun b => b = br \/ b = g) w w' /\ (g' = g \/ w.heap.size <= g')))
theorem qwl : (Tryz.prog.info? 163).map (fun i => (i.size, i.bytes)) = some (6, 56) := by kernel_rfl
set_option maxRecDepth 100000 in
set_option maxHeartbeats 1000000 in
theorem qdt {v1 v2 v3 : Value} {w : World} {br g cap : Nat} {L : List Ent} (s : ByteArray) (hs : s.size <= 2000000) (leaf : Bool) (a b c d : Int) (x : Ent) (err : Int)
  (herr : (qar (bl s) = false /\ err = 1) \/ (qar (bl s) = true /\ bl s = [] /\ err = 2) \/ (qar (bl s) = true /\ bl s ≠ [] /\ (qao a b = false \/ qao c d = false) /\ err = 6) \/
   (qar (bl s) = true /\ bl s ≠ [] /\ qao a b = true /\ qao c d = true /\ 4 < (qaa (bl s)).length /\ (qaa (bl s)).length <= 3000000 /\ err = 8)) :
  Calls Tryz.prog 108 #[.pointer (some ⟨br, 0, none⟩), .agg #[.string s, .bool leaf, .int .i64 a, .int .i64 b, .int .i64 c, .int .i64 d]] w (qeg v1 v2 v3 br g L x err w) := by
 have hf1 := fun W => qcg a b W
 have hf2 := fun W => qcg c d W
 have b0 : Blk (w.alloc (.cells #[.string s, .bool leaf, .int .i64 a, .int .i64 b, .int .i64 c, .int .i64 d] 163)) w.heap.size 163 _ := Blk.new w 163 _
 rcases herr with ⟨hv, rfl⟩ | ⟨hv, h0, rfl⟩ | ⟨hv, h0, hfb, rfl⟩ | ⟨hv, h0, hfa, hfb, hd, hdm, rfl⟩
 ·have hn := fun W => qh1 s hs hv W
  go_enter Tryz.func108, Tryz.ntmps108
  go_wp2_with (first
   | (go_at_call 113; refine (hn _).mono ?_; rintro e w1 ⟨rfl, hb1⟩; have hB1 : Below w.heap.size w w1 := qac (by exact bel2) hb1; have b1 := b0.below hb1 (by simp); have hcl := b1.cell)
   | (go_at_call 115; refine (hf1 _).mono ?_; clear hf1; rintro e w2 ⟨rfl, hb2⟩; have hB2 : Below w.heap.size w w2 := qac hB1 hb2; have b2 := b1.below hb2 (by have := hb1.size; simp at this; omega); have hcl2 := b2.cell; clear hcl)
   | (go_at_call 115; refine (hf2 _).mono ?_; rintro e w3 ⟨rfl, hb3⟩; have hB3 : Below w.heap.size w w3 := qac hB2 hb3))
  all_goals go_ret
  all_goals exact ⟨rfl, .inl ⟨by decide, hB3⟩⟩
 ·have hn := fun W => qdd s hs hv W
  have hz : s = ⟨#[]⟩ := qer (h0.trans qh4.symm)
  subst hz
  go_enter Tryz.func108, Tryz.ntmps108
  go_wp2_with (first
   | (go_at_call 113; refine (hn _).mono ?_; rintro e w1 ⟨⟨ao, cp, rfl, hrow⟩, hb1⟩; have hB1 : Below w.heap.size w w1 := qac (by exact bel2) hb1; have b1 := b0.below hb1 (by simp); have hcl := b1.cell)
   | (go_at_call 115; refine (hf1 _).mono ?_; clear hf1; rintro e w2 ⟨rfl, hb2⟩; have hB2 : Below w.heap.size w w2 := qac hB1 hb2; have b2 := b1.below hb2 (by have := hb1.size; simp at this; omega); have hcl2 := b2.cell; clear hcl)
   | (go_at_call 115; refine (hf2 _).mono ?_; clear hf2; rintro e w3 ⟨rfl, hb3⟩; have hB3 : Below w.heap.size w w3 := qac hB2 hb3; have b3 := b2.below hb3 (by have := hb1.size; have := hb2.size; simp at *; omega); have hcl3 := b3.cell; clear hcl2))
  all_goals go_ret
  all_goals exact ⟨rfl, .inl ⟨by decide, hB3⟩⟩
 ·have hn := fun W => qdd s hs hv W
  have hq : (s.toList.isEmpty) = false := by rw [qaz]; simpa using h0
  cases hA : qao a b
  ·rw [hA] at hf1
   clear hfb
   go_enter Tryz.func108, Tryz.ntmps108
   go_wp2_with (first
   | (go_at_call 113; refine (hn _).mono ?_; rintro e w1 ⟨⟨ao, cp, rfl, hrow⟩, hb1⟩; have hB1 : Below w.heap.size w w1 := qac (by exact bel2) hb1; have b1 := b0.below hb1 (by simp); have hcl := b1.cell)
   | (go_at_call 115; refine (hf1 _).mono ?_; clear hf1; rintro e w2 ⟨rfl, hb2⟩; have hB2 : Below w.heap.size w w2 := qac hB1 hb2; have b2 := b1.below hb2 (by have := hb1.size; simp at this; omega); have hcl2 := b2.cell; clear hcl)
   | (go_at_call 115; refine (hf2 _).mono ?_; clear hf2; rintro e w3 ⟨rfl, hb3⟩; have hB3 : Below w.heap.size w w3 := qac hB2 hb3; have b3 := b2.below hb3 (by have := hb1.size; have := hb2.size; simp at *; omega); have hcl3 := b3.cell; clear hcl2))
   all_goals go_ret
   all_goals exact ⟨rfl, .inl ⟨by decide, hB3⟩⟩
  ·have hB : qao c d = false := by rcases hfb with h | h; rw [hA] at h; cases h; exact h
   rw [hA] at hf1
   rw [hB] at hf2
   clear hfb
   go_enter Tryz.func108, Tryz.ntmps108
   go_wp2_with (first
   | (go_at_call 113; refine (hn _).mono ?_; rintro e w1 ⟨⟨ao, cp, rfl, hrow⟩, hb1⟩; have hB1 : Below w.heap.size w w1 := qac (by exact bel2) hb1; have b1 := b0.below hb1 (by simp); have hcl := b1.cell)
   | (go_at_call 115; refine (hf1 _).mono ?_; clear hf1; rintro e w2 ⟨rfl, hb2⟩; have hB2 : Below w.heap.size w w2 := qac hB1 hb2; have b2 := b1.below hb2 (by have := hb1.size; simp at this; omega); have hcl2 := b2.cell; clear hcl)
   | (go_at_call 115; refine (hf2 _).mono ?_; clear hf2; rintro e w3 ⟨rfl, hb3⟩; have hB3 : Below w.heap.size w w3 := qac hB2 hb3; have b3 := b2.below hb3 (by have := hb1.size; have := hb2.size; simp at *; omega); have hcl3 := b3.cell; clear hcl2))
   all_goals go_ret
   all_goals exact ⟨rfl, .inl ⟨by decide, hB3⟩⟩
 ·have hn := fun W => qdd s hs hv W
  have hq : (s.toList.isEmpty) = false := by rw [qaz]; simpa using h0
  rw [hfa] at hf1
  rw [hfb] at hf2
  obtain ⟨N, hN⟩ : ∃ N, N = (qaa (bl s)).length := ⟨_, rfl⟩
  rw [<- hN] at hn hd hdm
  clear hN
  go_enter Tryz.func108, Tryz.ntmps108
  go_wp2_with (first
   | (go_at_call 113; refine (hn _).mono ?_; rintro e w1 ⟨⟨ao, cp, rfl, hrow⟩, hb1⟩; have hB1 : Below w.heap.size w w1 := qac (by exact bel2) hb1; have b1 := b0.below hb1 (by simp); have hcl := b1.cell)
   | (go_at_call 115; refine (hf1 _).mono ?_; clear hf1; rintro e w2 ⟨rfl, hb2⟩; have hB2 : Below w.heap.size w w2 := qac hB1 hb2; have b2 := b1.below hb2 (by have := hb1.size; simp at this; omega); have hcl2 := b2.cell; clear hcl)
   | (go_at_call 115; refine (hf2 _).mono ?_; clear hf2; rintro e w3 ⟨rfl, hb3⟩; have hB3 : Below w.heap.size w w3 := qac hB2 hb3; have b3 := b2.below hb3 (by have := hb1.size; have := hb2.size; simp at *; omega); have hcl3 := b3.cell; clear hcl2))
  all_goals go_ret
  all_goals exact ⟨rfl, .inl ⟨by decide, hB3⟩⟩
structure Wk where
 num : Int
 key : List Bs
 d0 : Int
 d1 : Int
 st : Int
def qbf (x : Wk) : List Value := [.int .i64 x.num, .string (sb (joinB x.key)), .int .i64 x.d0, .int .i64 x.d1, .int .i64 x.st]
def qad (L : List Wk) : List Value := L.flatMap qbf
theorem qdo (L : List Wk) : (qad L).length = L.length * 5 := by
 induction L with
 | nil => rfl
 | cons a l ih => simp [qad, qbf] at ih ⊢; omega
theorem qg0 : ∀ (L : List Wk) (i j : Nat) (e : Wk), L[i]? = some e -> j < 5 -> (qad L)[i * 5 + j]? = (qbf e)[j]?
 | [], i, j, e, h, _ => by simp at h
 | a :: l, 0, j, e, h, hj => by
  simp at h; subst h
  simp only [qad, List.flatMap_cons, Nat.zero_mul, Nat.zero_add]
  rw [List.getElem?_append_left (by simp [qbf]; omega)]
 | a :: l, i + 1, j, e, h, hj => by
  have ih := qg0 l i j e (by simpa using h) hj
  simp only [qad, List.flatMap_cons] at ih ⊢
  rw [List.getElem?_append_right (by simp [qbf]; omega)]
  rw [show (i + 1) * 5 + j - (qbf a).length = i * 5 + j by simp [qbf]; omega]
  exact ih
structure Wks (Ws : List Wk) : Prop where
 ok : ∀ x ∈ Ws, qbn x.key = true /\ x.key.length <= 4
 num : ∀ x ∈ Ws, (0 <= x.d0 /\ x.d0 <= 1000) /\ (0 <= x.d1 /\ x.d1 <= 1000)
 len : Ws.length <= 24
theorem Wks.small {Ws : List Wk} (h : Wks Ws) {x : Wk} (hx : x ∈ Ws) : (sb (joinB x.key)).size <= 2000000 := by
 rw [qd3]; have := qgm _ (h.ok x hx).1; have := (h.ok x hx).2; omega
structure GRef (W : World) (br g cap : Nat) (L : List Ent) (ao : Option Addr) (cW : Nat) (Ws : List Wk) (cnt st : Int) : Prop where
 ref : qc9 W br g cap L (.slice ao Ws.length cW) (.int .i64 cnt) (.int .i64 st)
 wrow : W.ownsRow 0 178 5 (.slice ao Ws.length cW) Ws.length (qad Ws)
 ne1 : ∀ b, (Value.slice ao Ws.length cW).ownBlock = some b -> b ≠ br /\ b ≠ g
theorem GRef.below {W W' : World} {br g cap : Nat} {L : List Ent} {ao : Option Addr} {cW : Nat} {Ws : List Wk} {cnt st : Int} (h : GRef W br g cap L ao cW Ws cnt st) (hb : Below W.heap.size W W') : GRef W' br g cap L ao cW Ws cnt st :=
 ⟨h.ref.below hb, qab (T := fun _ => False) h.wrow (Keep.new hb) (fun _ _ h => h), h.ne1⟩
theorem GRef.wk {W : World} {br g cap : Nat} {L : List Ent} {ao : Option Addr} {cW : Nat} {Ws : List Wk} {cnt st : Int} (h : GRef W br g cap L ao cW Ws cnt st) {i : Nat} {x : Wk} (hi : Ws[i]? = some x) :
  ∃ b, ao = some ⟨b, 0, none⟩ /\ b < W.heap.size /\ Ws.length <= cW /\ cW <= maxLen /\ W.cell? ⟨b, i * 5, none⟩ = some (.int .i64 x.num) /\ W.cell? ⟨b, i * 5 + 1, none⟩ = some (.string (sb (joinB x.key))) /\ W.cell? ⟨b, i * 5 + 2, none⟩ = some (.int .i64 x.d0) /\ W.cell? ⟨b, i * 5 + 3, none⟩ = some (.int .i64 x.d1) /\ W.cell? ⟨b, i * 5 + 4, none⟩ = some (.int .i64 x.st) := by
 obtain ⟨b, c, hv, h1, h2⟩ := qat h.wrow (Nat.lt_of_le_of_lt (Nat.zero_le _) (List.getElem?_eq_some_iff.1 hi).1)
 injection hv with e1 _ e3
 subst e1 e3
 have key : ∀ j v, j < 5 -> (qbf x)[j]? = some v -> W.cell? ⟨b, i * 5 + j, none⟩ = some v := fun j v hj hv => by
  have := h.wrow.cells (g := b) rfl (i * 5 + j) v (by rw [qg0 Ws i j x hi hj]; exact hv)
  rwa [Addr.add_lit, Nat.zero_add] at this
 exact ⟨b, rfl, qal h.wrow rfl, h1, h2, key 0 _ (by omega) rfl, key 1 _ (by omega) rfl, key 2 _ (by omega) rfl, key 3 _ (by omega) rfl, key 4 _ (by omega) rfl⟩
def qae (Ws : List Wk) (s : Bs) : List Wk := Ws.filter fun x => decide (0 < x.st) && inB (joinB x.key) s
def ws0 (l : List Wk) : Int := (l.map (·.d0)).sum
def ws1 (l : List Wk) : Int := (l.map (·.d1)).sum
theorem qrl (l : List Wk) (h : ∀ n ∈ l, 0 <= n.d0 /\ n.d0 <= 1000) : 0 <= ws0 l /\ ws0 l <= 1000 * l.length := by
 induction l with
 | nil => simp [ws0]
 | cons a l ih =>
  have h1 := ih (fun n hn => h n (List.mem_cons_of_mem _ hn))
  have h2 := h a (List.mem_cons_self ..)
  simp [ws0] at h1 ⊢; omega
theorem qqt (l : List Wk) (h : ∀ n ∈ l, 0 <= n.d1 /\ n.d1 <= 1000) : 0 <= ws1 l /\ ws1 l <= 1000 * l.length := by
 induction l with
 | nil => simp [ws1]
 | cons a l ih =>
  have h1 := ih (fun n hn => h n (List.mem_cons_of_mem _ hn))
  have h2 := h a (List.mem_cons_self ..)
  simp [ws1] at h1 ⊢; omega
theorem qke {Ws : List Wk} (h : Wks Ws) (s : Bs) : (0 <= ws0 (qae Ws s) /\ ws0 (qae Ws s) <= 24000) /\ (0 <= ws1 (qae Ws s) /\ ws1 (qae Ws s) <= 24000) := by
 have hsub : ∀ e ∈ qae Ws s, e ∈ Ws := fun e he => (List.mem_filter.1 he).1
 have hlen : (qae Ws s).length <= 24 := Nat.le_trans (List.length_filter_le _ _) h.len
 have s0 := qrl (qae Ws s) (fun e he => (h.num e (hsub e he)).1)
 have s1 := qqt (qae Ws s) (fun e he => (h.num e (hsub e he)).2)
 omega
set_option maxRecDepth 100000 in
set_option maxHeartbeats 600000 in
theorem qe7 {w : World} {br g cap : Nat} {L : List Ent} {ao : Option Addr} {cW : Nat} {Ws : List Wk} {cnt st : Int} (h : GRef w br g cap L ao cW Ws cnt st) (E : Wks Ws) (s : ByteArray) (hs : s.size <= 2000000) :
  Calls Tryz.prog 204 #[.pointer (some ⟨br, 0, none⟩), .string s] w fun e w' => e = .returned (.agg #[.int .i64 (ws0 (qae Ws (bl s))), .int .i64 (ws1 (qae Ws (bl s)))]) /\ Below w.heap.size w w' := by
 have hbr := h.ref.at_.lt
 obtain ⟨n, hn⟩ : ∃ n, n = Ws.length := ⟨_, rfl⟩
 have hL20 := E.len
 rw [<- hn] at hL20
 have HN : Hid (n = Ws.length) := hn
 have hc0 : w.cell? ⟨br, 1, none⟩ = some (.slice ao n cW) := by have := h.ref.at_.cell 1; rw [hn]; simpa using this
 clear hn
 go_enter Tryz.func204, Tryz.ntmps204
 go_wp2
 go_loopw [6] (fun i wr => ∃ k : Nat, k <= n /\ i = .int .i64 k /\ Below w.heap.size w wr /\ Blk wr w.heap.size 35 #[.int .i64 0, .int .i64 0] /\ Blk wr (w.heap.size + 1) 35 #[.int .i64 (ws0 (qae (Ws.take k) (bl s))), .int .i64 (ws1 (qae (Ws.take k) (bl s)))])
  (fun i _ => n - (intOf i).toNat)
 case atStart => exact ⟨0, Nat.zero_le _, rfl, by exact bel2, by exact blk2, by refine Blk.new' ?_; simp⟩
 case round =>
  obtain ⟨k, hk, rfl, hbel, hb4, hb5⟩ := hrel
  have hR := h.below hbel
  have hc := (hbel.cell (p := ⟨br, 1, none⟩) hbr).trans hc0
  by_cases hlt : k < n
  ·have hlt' : k < Ws.length := by rw [<- HN.out]; exact hlt
   obtain ⟨x, hx⟩ : ∃ x, Ws[k]? = some x := ⟨_, List.getElem?_eq_getElem hlt'⟩
   have HT : Hid (Ws.take (k + 1) = Ws.take k ++ [x]) := by
    rw [List.take_succ_eq_append_getElem hlt']; rw [List.getElem?_eq_getElem hlt'] at hx; cases hx; rfl
   have hxm := List.mem_of_getElem? hx
   obtain ⟨b, hao, hbl, hcw1, hcw2, p0, p1, p2, p3, p4⟩ := hR.wk hx
   have hbl0 : b < w.heap.size := qal h.wrow (by rw [hao]; rfl)
   subst hao
   have hin := fun W => qk9 (sb (joinB x.key)) s W (E.small hxm) hs
   rw [qbi] at hin
   have x0 := (E.num x hxm).1
   have x1 := (E.num x hxm).2
   have hsub : ∀ e ∈ qae (Ws.take k) (bl s), e ∈ Ws := fun e he => List.mem_of_mem_take (List.mem_filter.1 he).1
   have s0 := qrl (qae (Ws.take k) (bl s)) (fun e he => (E.num e (hsub e he)).1)
   have s1 := qqt (qae (Ws.take k) (bl s)) (fun e he => (E.num e (hsub e he)).2)
   have hlen : (qae (Ws.take k) (bl s)).length <= 24 := by
    refine Nat.le_trans (List.length_filter_le _ _) ?_
    simp; have := HN.out; omega
   have HE00 : qae (Ws.take (k + 1)) (bl s) = qae (Ws.take k) (bl s) ++ (if decide (0 < x.st) && inB (joinB x.key) (bl s) then [x] else []) := by
    unfold qae; rw [HT.out, List.filter_append]; simp [List.filter_cons]
   have HE : Hid (qae (Ws.take (k + 1)) (bl s) = qae (Ws.take k) (bl s) ++ (if decide (0 < x.st) && inB (joinB x.key) (bl s) then [x] else [])) := HE00
   clear HE00
   clear hx
   obtain ⟨e0, he0⟩ : ∃ e0, e0 = ws0 (qae (Ws.take k) (bl s)) := ⟨_, rfl⟩
   obtain ⟨e1, he1⟩ : ∃ e1, e1 = ws1 (qae (Ws.take k) (bl s)) := ⟨_, rfl⟩
   rw [<- he0] at hb5 s0
   rw [<- he1] at hb5 s1
   have HE0 : Hid (e0 = ws0 (qae (Ws.take k) (bl s))) := he0
   have HE1 : Hid (e1 = ws1 (qae (Ws.take k) (bl s))) := he1
   clear he0 he1 hsub
   have d0 := hb5.cell 0
   have d1 := hb5.cell 1
   have f0 := hb5.frozen 0
   have f1 := hb5.frozen 1
   simp only [List.getElem?_toArray, List.getElem?_cons_zero, List.getElem?_cons_succ] at d0 d1
   have hbg : ¬ (b = w.heap.size + 1) := fun e => by omega
   have hbb : ¬ (br = w.heap.size + 1) := fun e => by omega
   by_cases hl : 0 < x.st
   ·cases hi : inB (joinB x.key) (bl s)
    ·rw [hi] at hin
     go_wp2_with (go_at_call 121; refine (hin _).mono ?_; rintro e w1 ⟨rfl, hw1⟩; subst hw1)
     refine ⟨⟨k + 1, by omega, by go_num, hbel, hb4, ?_⟩, by simp [intOf]; omega⟩
     have := HE.out; rw [hi] at this; rw [this]; have := HE0.out; have := HE1.out; subst e0 e1; simpa using hb5
    ·rw [hi] at hin
     go_wp2_with (go_at_call 121; refine (hin _).mono ?_; rintro e w1 ⟨rfl, hw1⟩; subst hw1)
     clear hin
     go_region
     go_wp2
     go_region
     go_wp2
     refine ⟨⟨k + 1, by omega, by go_num, ((hbel.setCell (by simp) _).setCell (by simp) _).drew.drew, ((hb4.other _ _ (by simp)).other _ _ (by simp)).drew.drew, ?_⟩, by simp [intOf]; omega⟩
     have hb6 := (((hb5.set 0 (.int .i64 (e0 + x.d0))).set 1 (.int .i64 (e1 + x.d1)))).drew.drew
     have h1 := HE.out; rw [hi] at h1; rw [h1]
     have h2 := HE0.out; have h3 := HE1.out; subst e0 e1
     simpa [ws0, ws1, hl] using hb6
   ·have hd0 : (decide (0 < x.st) && inB (joinB x.key) (bl s)) = false := by rw [decide_eq_false hl]; rfl
    have HD : Hid ((decide (0 < x.st) && inB (joinB x.key) (bl s)) = false) := hd0
    clear hd0
    go_wp2_with (go_at_call 121; refine (hin _).mono ?_; rintro e w1 ⟨rfl, hw1⟩; subst hw1)
    refine ⟨⟨k + 1, by omega, by go_num, hbel, hb4, ?_⟩, by simp [intOf]; omega⟩
    have := HE.out; rw [HD.out] at this; rw [this]; have := HE0.out; have := HE1.out; subst e0 e1; simpa using hb5
  ·have d0 := hb5.cell 0
   have d1 := hb5.cell 1
   have c0 := hb4.cell 0
   have c1 := hb4.cell 1
   have f0 := hb4.frozen 0
   have f1 := hb4.frozen 1
   simp only [List.getElem?_toArray, List.getElem?_cons_zero, List.getElem?_cons_succ] at d0 d1 c0 c1
   go_wp2
   have HTT : Ws.take k = Ws := List.take_of_length_le (by rw [<- HN.out]; omega)
   have hb4' := (hb4.set 0 (.int .i64 (ws0 (qae (Ws.take k) (bl s))))).set 1 (.int .i64 (ws1 (qae (Ws.take k) (bl s))))
   have hc' := hb4'.cell
   rw [HTT] at hc'
   refine bodyPost_ret (v := .agg #[.int .i64 (ws0 (qae Ws (bl s))), .int .i64 (ws1 (qae Ws (bl s)))]) ?_ rfl ⟨rfl, by exact bel2⟩
   rw [HTT]
   simp [results, Tryz.results204, go_sem, hc']
end Go.Proofs.YtphclnolomgjoaaGreatDoor
