import Derived.Test.YtepneihjhcakhaaGreatDoorDfsA
import Derived.Test.YtepneihjhcakhaaGreatDoorPathA
import Derived.Test.YtepneihjhcakhaaGreatDoorHangA
set_option linter.unusedVariables false
set_option linter.unusedSimpArgs false
namespace Go.Proofs.YtepneihjhcakhaaGreatDoor
open Go.RowKit

def findKey (nodes : List Node) (k : List Bs) : Option Node := nodes.find? fun n => n.key == k
theorem findKey_some {nodes : List Node} (T : Tree nodes) {n : Node} (hn : n ∈ nodes) {k : List Bs} (hk : n.key = k) : findKey nodes k = some n := by
  unfold findKey
  cases h : nodes.find? fun n => n.key == k with
  | none => have := List.find?_eq_none.1 h n hn; simp [hk] at this
  | some m =>
    have h1 := List.mem_of_find?_eq_some h
    have h2 := List.find?_some h
    simp at h2
    rw [T.inj m h1 n hn (by rw [h2, hk])]
theorem findKey_none {nodes : List Node} {k : List Bs} (h : ∀ n ∈ nodes, n.key ≠ k) : findKey nodes k = none := by
  unfold findKey; rw [List.find?_eq_none]; intro n hn; simpa using h n hn
theorem findKey_mem {nodes : List Node} {k : List Bs} {n : Node} (h : findKey nodes k = some n) : n ∈ nodes ∧ n.key = k := by
  unfold findKey at h
  exact ⟨List.mem_of_find?_eq_some h, by have := List.find?_some h; simpa using this⟩

/-- What P4 answers. -/
def errIn (nodes : List Node) (k : List Bs) : Int := match findKey nodes k with
  | none => 3
  | some p => if p.leaf then 5 else if 20 ≤ nodes.length then 7 else 0
def errNew (nodes : List Node) (s : Bs) (ok : Bool) : Int :=
  if validB s = false then 1 else if s = [] then 2 else if ok = false then 6 else if 4 < depthB s then 8
  else if (findKey nodes (namesB s)).isSome then 4 else errIn nodes (namesB s).dropLast

theorem splitNames (s a b : Bs) (hv : validB s = true) (hs : s ≠ []) (h : (¬ has47 s ∧ a = [] ∧ b = s) ∨ (s = a ++ 47 :: b ∧ ¬ has47 b)) :
    namesB s = namesB a ++ [b] ∧ a.length ≤ s.length := by
  rcases h with ⟨h1, rfl, rfl⟩ | ⟨h1, h2⟩
  · exact ⟨by simp only [namesB, hs, if_false, if_true]; rw [splitB_none _ h1]; rfl, by simp⟩
  · have h3 : splitB s = splitB a ++ [b] := by rw [h1, splitB_slash, splitB_none _ h2]
    have ha : a ≠ [] := fun e => by
      subst e
      have : namesB s = splitB s := by simp [namesB, hs]
      rw [validB_keyOK, this, h3] at hv
      have := keyOK_mem hv (n := []) (by simp [splitB])
      simp [nameOK] at this
    exact ⟨by simp only [namesB, hs, ha, if_false]; exact h3, by rw [h1]; simp⟩

def SplitPost (s : ByteArray) (e : Ending) : Prop := ∃ a b : ByteArray, e = .returned (.tuple #[.string a, .string b]) ∧ namesB (bl s) = namesB (bl a) ++ [bl b] ∧ a.size ≤ s.size
theorem split_names (s : ByteArray) (hs : s.size ≤ 2000000) (hv : validB (bl s) = true) (hne : bl s ≠ []) (w : World) :
    Calls Tryz.prog 53 #[.string s] w fun e w' => SplitPost s e ∧ Below w.heap.size w w' := by
  refine (split_any s w hs).mono ?_
  rintro e w' ⟨⟨a, b, rfl, h⟩, n, rfl⟩
  have := splitNames (bl s) (bl a) (bl b) hv hne h
  exact ⟨⟨a, b, rfl, this.1, by have h2 := this.2; rw [bl_len, bl_len] at h2; exact h2⟩, below_drewN (Below.refl _ _) n⟩

/-! amounts that are handed in -/
def amCells (l : List (Int × Int)) : List Value := l.flatMap fun x => [.int .i64 x.1, .int .i64 x.2]
def fairL (l : List (Int × Int)) : Bool := l.all fun x => fairB x.1 x.2

set_option maxRecDepth 100000 in
set_option maxHeartbeats 1000000 in
theorem allAllowed_any (vb c : Nat) (l : List (Int × Int)) (hl : l.length ≤ 100) (w : World) (hb : vb < w.heap.size)
    (hc : ∀ (j : Nat) (x : Int × Int), l[j]? = some x → w.cell? ⟨vb, j * 2, none⟩ = some (.int .i64 x.1) ∧ w.cell? ⟨vb, j * 2 + 1, none⟩ = some (.int .i64 x.2)) :
    Calls Tryz.prog 68 #[.slice (some ⟨vb, 0, none⟩) l.length c] w fun e w' => e = .returned (.bool (fairL l)) ∧ Below w.heap.size w w' := by
  obtain ⟨L, hL⟩ : ∃ L, L = l.length := ⟨_, rfl⟩
  rw [← hL]
  rw [← hL] at hl
  have HL : Hid (L = l.length) := hL
  clear hL
  go_enter Tryz.func68, Tryz.ntmps68
  go_wp2
  go_loopw [7] (fun i wr => ∃ k : Nat, k ≤ L ∧ i = .int .i64 k ∧ fairL (l.take k) = true ∧ Below w.heap.size w wr) (fun i _ => L - (intOf i).toNat)
  case atStart => exact ⟨0, Nat.zero_le _, rfl, rfl, Below.refl _ _⟩
  case round =>
    obtain ⟨k, hk, rfl, hf, hbel⟩ := hrel
    have HF : Hid (fairL (l.take k) = true) := hf
    clear hf
    by_cases hlt : k < L
    · have hlt' : k < l.length := by rw [← HL.out]; exact hlt
      obtain ⟨x, hx⟩ : ∃ x, l[k]? = some x := ⟨_, List.getElem?_eq_getElem hlt'⟩
      have HX : Hid (l.take (k + 1) = l.take k ++ [x]) := by
        rw [List.take_succ_eq_append_getElem hlt']; rw [List.getElem?_eq_getElem hlt'] at hx; cases hx; rfl
      have HM : Hid (x ∈ l) := List.mem_of_getElem? hx
      obtain ⟨c0, c1⟩ := hc k x hx
      replace c0 := (hbel.cell (p := ⟨vb, k * 2, none⟩) hb).trans c0
      replace c1 := (hbel.cell (p := ⟨vb, k * 2 + 1, none⟩) hb).trans c1
      clear hx hc
      have hal := fun W => allowed_any x.1 x.2 W
      cases hfx : fairB x.1 x.2
      · rw [hfx] at hal
        go_wp2_with (go_at_call 89; refine (hal _).mono ?_; rintro e w1 ⟨rfl, hb1⟩)
        go_ret
        refine ⟨ret_bool ?_, bstep (hbel.alloc hbel.size _) hb1⟩
        symm; unfold fairL; rw [List.all_eq_false]; exact ⟨x, HM.out, by simp [hfx]⟩
      · rw [hfx] at hal
        go_wp2_with (go_at_call 89; refine (hal _).mono ?_; rintro e w1 ⟨rfl, hb1⟩)
        go_roundw
        case rel => exact ⟨k + 1, by omega, by go_num, by rw [HX.out]; have := HF.out; unfold fairL at this ⊢; rw [List.all_append, this]; simp [hfx], bstep (hbel.alloc hbel.size _) hb1⟩
        case measure => simp [intOf]; omega
    · go_wp2
      go_ret
      have := HF.out
      rw [List.take_of_length_le (by rw [← HL.out]; omega)] at this
      exact ⟨ret_bool this.symm, hbel⟩

set_option maxHeartbeats 1000000 in
theorem refuseIn_any {nodes : List Node} (T : Tree nodes) (w : World) (hN : ∀ n ∈ nodes, NodeIn w n) {r : Node} (hr : r ∈ nodes) (hrk : r.key = []) (bt : Nat) (ht : w.cell? ⟨bt, 0, none⟩ = some (nptr r.blk)) (k : List Bs) :
    Calls Tryz.prog 70 #[.pointer (some ⟨bt, 0, none⟩), match findKey nodes k with | none => .pointer none | some p => nptr p.blk] w fun e w' => e = .returned (.int .i64 (errIn nodes k)) ∧ Below w.heap.size w w' := by
  unfold errIn
  cases hf : findKey nodes k with
  | none =>
    go_enter Tryz.func70, Tryz.ntmps70
    go_wp2
    go_ret
    exact ⟨rfl, Below.refl _ _⟩
  | some p =>
    obtain ⟨hp, _⟩ := findKey_mem hf
    obtain ⟨ch, K⟩ := T.ch
    have hfull := full_any T K hr (by have := dfs_le T K hr; omega) bt w hN ht
    rw [dfs_root T K hr hrk] at hfull
    have c1 : w.cell? ⟨p.blk, 1, none⟩ = some (.bool p.leaf) := (hN p hp).cell rfl
    have hleaf := leaf_any p.blk p.leaf w c1
    unfold nptr
    clear hf
    cases hl : p.leaf
    · rw [hl] at hleaf
      by_cases h20 : 20 ≤ nodes.length
      · simp only [h20, decide_true] at hfull
        simp only [hl, Bool.false_eq_true, if_false, h20, if_true]
        go_enter Tryz.func70, Tryz.ntmps70
        go_wp2_with (first | (go_at_call 84; refine hleaf.mono ?_; rintro e w1 ⟨rfl, hw1⟩; subst hw1) | (go_at_call 91; refine hfull.mono ?_; rintro e w1 ⟨rfl, hb1⟩))
        go_ret
        exact ⟨rfl, hb1⟩
      · simp only [h20, decide_false] at hfull
        simp only [hl, Bool.false_eq_true, if_false, h20]
        go_enter Tryz.func70, Tryz.ntmps70
        go_wp2_with (first | (go_at_call 84; refine hleaf.mono ?_; rintro e w1 ⟨rfl, hw1⟩; subst hw1) | (go_at_call 91; refine hfull.mono ?_; rintro e w1 ⟨rfl, hb1⟩))
        go_ret
        exact ⟨rfl, hb1⟩
    · rw [hl] at hleaf
      simp only [hl, if_true]
      go_enter Tryz.func70, Tryz.ntmps70
      go_wp2_with (go_at_call 84; refine hleaf.mono ?_; rintro e w1 ⟨rfl, hw1⟩; subst hw1)
      go_ret
      exact ⟨rfl, Below.refl _ _⟩

theorem find_key {nodes : List Node} (T : Tree nodes) {r : Node} (hr : r ∈ nodes) (hrk : r.key = []) (s : ByteArray) (hs : s.size ≤ 2000000) (w : World) (hN : ∀ n ∈ nodes, NodeIn w n) (v : Value)
    (hv : v = match findKey nodes (namesB (bl s)) with | none => .pointer none | some p => nptr p.blk) :
    Calls Tryz.prog 54 #[nptr r.blk, .string s] w fun e w' => e = .returned v ∧ Below w.heap.size w w' := by
  refine (find_any T hr hrk s hs w hN).mono ?_
  rintro e w' ⟨(⟨n, hn, hnk, rfl⟩ | ⟨hno, rfl⟩), hb⟩
  · rw [findKey_some T hn hnk] at hv; exact ⟨by rw [hv], hb⟩
  · rw [findKey_none hno] at hv; exact ⟨by rw [hv], hb⟩

end Go.Proofs.YtepneihjhcakhaaGreatDoor
set_option linter.unusedVariables false
set_option linter.unusedSimpArgs false
namespace Go.Proofs.YtepneihjhcakhaaGreatDoor
open Go.RowKit

theorem neqNil (a : Addr) (w : World) : (binOp .neq 60 (.pointer (some a)) (.pointer none)).run Tryz.prog w = .ok (.bool true) w := by
  kernel_rfl

set_option maxRecDepth 100000 in
set_option maxHeartbeats 2000000 in
theorem refuseNew_any {nodes : List Node} (T : Tree nodes) (w : World) (hN : ∀ n ∈ nodes, NodeIn w n) {r : Node} (hr : r ∈ nodes) (hrk : r.key = []) (bt : Nat) (ht : w.cell? ⟨bt, 0, none⟩ = some (nptr r.blk))
    (s : ByteArray) (hs : s.size ≤ 2000000) (vb c : Nat) (l : List (Int × Int)) (hl : l.length ≤ 100) (hb : vb < w.heap.size)
    (hc : ∀ (j : Nat) (x : Int × Int), l[j]? = some x → w.cell? ⟨vb, j * 2, none⟩ = some (.int .i64 x.1) ∧ w.cell? ⟨vb, j * 2 + 1, none⟩ = some (.int .i64 x.2)) :
    Calls Tryz.prog 52 #[.pointer (some ⟨bt, 0, none⟩), .string s, .slice (some ⟨vb, 0, none⟩) l.length c] w fun e w' => e = .returned (.int .i64 (errNew nodes (bl s) (fairL l))) ∧ Below w.heap.size w w' := by
  have hval := fun W => valid_any s hs W
  have hal := fun W (hW : Below w.heap.size w W) => allAllowed_any vb c l hl W (by have := hW.size; omega) (fun j x hx => ⟨(hW.cell (p := ⟨vb, j * 2, none⟩) hb).trans (hc j x hx).1, (hW.cell (p := ⟨vb, j * 2 + 1, none⟩) hb).trans (hc j x hx).2⟩)
  have hdep := fun W => depth_any s W hs
  have hbt := World.block_lt_of_cell? w _ ht
  have htW := fun W (hW : Below w.heap.size w W) => (hW.cell (p := ⟨bt, 0, none⟩) hbt).trans ht
  have hNW := fun W (hW : Below w.heap.size w W) n hn => (hN n hn).below hW
  have hfind := fun W (hW : Below w.heap.size w W) v hv => find_key T hr hrk s hs W (hNW W hW) v hv
  unfold nptr at hfind htW
  unfold errNew
  clear hc
  obtain ⟨L, hL⟩ : ∃ L, L = l.length := ⟨_, rfl⟩
  rw [← hL] at hal ⊢
  clear hL
  cases hv : validB (bl s)
  · rw [hv] at hval
    simp only [if_true]
    go_enter Tryz.func52, Tryz.ntmps52
    go_wp2_with (go_at_call 63; refine (hval _).mono ?_; rintro e w1 ⟨rfl, hb1⟩)
    go_ret
    exact ⟨rfl, hb1⟩
  simp only [Bool.true_eq_false, if_false]
  rw [hv] at hval
  by_cases h0 : bl s = []
  · have hz : s = ⟨#[]⟩ := bl_inj (h0.trans bl_nil.symm)
    simp only [h0, if_true]
    subst hz
    go_enter Tryz.func52, Tryz.ntmps52
    go_wp2_with (go_at_call 63; refine (hval _).mono ?_; rintro e w1 ⟨rfl, hb1⟩)
    go_ret
    exact ⟨rfl, hb1⟩
  simp only [h0, if_false]
  have hq : (s.toList.isEmpty) = false := by rw [bl_toList]; simpa using h0
  cases hfl : fairL l
  · rw [hfl] at hal
    simp only [if_true]
    go_enter Tryz.func52, Tryz.ntmps52
    go_wp2_with (first | (go_at_call 63; refine (hval _).mono ?_; rintro e w1 ⟨rfl, hb1⟩) | (go_at_call 68; refine (hal w1 hb1).mono ?_; rintro e w2 ⟨rfl, hb2⟩))
    go_ret
    exact ⟨rfl, bstep hb1 hb2⟩
  rw [hfl] at hal
  simp only [Bool.true_eq_false, if_false]
  by_cases hd : 4 < depthB (bl s)
  · simp only [hd, if_true]
    go_enter Tryz.func52, Tryz.ntmps52
    go_wp2_with (first | (go_at_call 63; refine (hval _).mono ?_; rintro e w1 ⟨rfl, hb1⟩) | (go_at_call 68; refine (hal w1 hb1).mono ?_; rintro e w2 ⟨rfl, hb2⟩) | (go_at_call 69; refine (hdep _).mono ?_; rintro e w3 ⟨rfl, hw3⟩; subst hw3))
    go_ret
    exact ⟨rfl, bstep hb1 hb2⟩
  simp only [hd, if_false]
  have hsn := fun W => split_names s hs hv h0 W
  cases hfk : findKey nodes (namesB (bl s)) with
  | some n =>
    simp only [Option.isSome_some, if_true]
    rw [hfk] at hfind
    simp only [nptr] at hfind
    clear hfk
    have hneq := neqNil
    go_enter Tryz.func52, Tryz.ntmps52
    go_wp2_with (first | (go_at_call 63; refine (hval _).mono ?_; rintro e w1 ⟨rfl, hb1⟩) | (go_at_call 68; refine (hal w1 hb1).mono ?_; rintro e w2 ⟨rfl, hb2⟩; have hB2 : Below w.heap.size w w2 := bstep hb1 hb2; have ht2 := htW w2 hB2) | (go_at_call 69; refine (hdep _).mono ?_; rintro e w3 ⟨rfl, hw3⟩; subst hw3) | (go_at_call 54; refine (hfind _ hB2 (.pointer (some ⟨n.blk, 0, none⟩)) rfl).mono ?_; rintro e w4 ⟨rfl, hb4⟩))
    go_ret
    exact ⟨rfl, bstep hB2 hb4⟩
  | none =>
    simp only [Option.isSome_none, Bool.false_eq_true, if_false]
    rw [hfk] at hfind
    clear hfk
    have hri := fun W (hW : Below w.heap.size w W) k => refuseIn_any T W (hNW W hW) hr hrk bt ((hW.cell (p := ⟨bt, 0, none⟩) hbt).trans ht) k
    have hfind2 := fun W (hW : Below w.heap.size w W) (a : ByteArray) (ha : a.size ≤ 2000000) => find_key T hr hrk a ha W (hNW W hW) _ rfl
    unfold nptr at hfind2
    go_enter Tryz.func52, Tryz.ntmps52
    go_wp2_with (first | (go_at_call 63; refine (hval _).mono ?_; clear hval; rintro e w1 ⟨rfl, hb1⟩) | (go_at_call 68; refine (hal w1 hb1).mono ?_; clear hal; rintro e w2 ⟨rfl, hb2⟩; have hB2 : Below w.heap.size w w2 := bstep hb1 hb2; have ht2 := htW w2 hB2) | (go_at_call 69; refine (hdep _).mono ?_; clear hdep; rintro e w3 ⟨rfl, hw3⟩; subst hw3) | (go_at_call 54; refine (hfind _ hB2 (.pointer none) rfl).mono ?_; clear hfind; rintro e w4 ⟨rfl, hb4⟩) | (go_at_call 53; refine (hsn _).mono ?_; rintro e w5 ⟨⟨sa, sbb, rfl, hnm, hsa⟩, hb5⟩; have hB5 : Below w.heap.size w w5 := bstep (bstep hB2 hb4) hb5; have ht5 := htW w5 hB5))
    refine (hfind2 w5 hB5 sa (by omega)).mono ?_
    rintro e w6 ⟨rfl, hb6⟩
    have hB6 : Below w.heap.size w w6 := bstep hB5 hb6
    have hri6 := hri w6 hB6 (namesB (bl sa))
    unfold nptr at hri6
    clear hri hfind2 hsn htW
    generalize (match findKey nodes (namesB (bl sa)) with | none => Value.pointer none | some p => Value.pointer (some ⟨p.blk, 0, none⟩)) = vq at hri6 ⊢
    go_wp2_with (go_at_call 70; refine hri6.mono ?_; rintro e w7 ⟨rfl, hb7⟩)
    all_goals go_ret
    all_goals exact ⟨ret_int (by rw [hnm, List.dropLast_concat]), bstep hB6 hb7⟩
end Go.Proofs.YtepneihjhcakhaaGreatDoor
set_option linter.unusedVariables false
set_option linter.unusedSimpArgs false
namespace Go.Proofs.YtepneihjhcakhaaGreatDoor
open Go.RowKit

theorem errNew_zero {nodes : List Node} {s : Bs} {ok : Bool} (h : errNew nodes s ok = 0) :
    validB s = true ∧ s ≠ [] ∧ ok = true ∧ depthB s ≤ 4 ∧ findKey nodes (namesB s) = none ∧ ∃ p, findKey nodes (namesB s).dropLast = some p ∧ p.leaf = false ∧ nodes.length < 20 := by
  unfold errNew at h
  cases hv : validB s
  · simp [hv] at h
  by_cases h0 : s = []
  · rw [hv] at h; simp [h0] at h
  cases hok : ok
  · simp [hv, h0, hok] at h
  by_cases hd : 4 < depthB s
  · simp [hv, h0, hok, hd] at h
  cases hf : findKey nodes (namesB s) with
  | some n => simp [hv, h0, hok, hd, hf] at h
  | none =>
    simp [hv, h0, hok, hd, hf] at h
    unfold errIn at h
    cases hp : findKey nodes (namesB s).dropLast with
    | none => simp [hp] at h
    | some p =>
      simp only [hp] at h
      cases hl : p.leaf
      · by_cases h20 : 20 ≤ nodes.length
        · simp [hl, h20] at h
        · exact ⟨rfl, h0, rfl, by omega, rfl, p, rfl, hl, by omega⟩
      · simp [hl] at h

/-- What hanging a queue in leaves behind. -/
structure HungPost (nodes : List Node) (q : Nat) (s : Bs) (leaf : Bool) (a b c d : Int) (w w' : World) : Prop where
  ex : ∃ p nm ks at_ sl, p ∈ nodes ∧ p.leaf = false ∧ namesB s = p.key ++ [nm] ∧ nodes.length < 20 ∧ (∀ n ∈ nodes, n.key ≠ namesB s) ∧ HangPost nodes p q nm leaf a b c d w w' ks at_ sl

theorem HangPost.from {nodes : List Node} {p : Node} {q : Nat} {nm : Bs} {leaf : Bool} {a b c d : Int} {w w1 w' : World} {ks : List Node} {at_ : Nat} {sl : Value} (h : HangPost nodes p q nm leaf a b c d w1 w' ks at_ sl) (hb : Below w.heap.size w w1) : HangPost nodes p q nm leaf a b c d w w' ks at_ sl :=
  ⟨h.kids, h.mem, h.sort, h.found, h.par, h.new, (Keep.new hb).trans h.keep, h.own.imp id (fun ⟨g, h1, h2⟩ => ⟨g, h1, Nat.le_trans hb.size h2⟩)⟩

def HungR (nodes : List Node) (q : Nat) (s : Bs) (ok : Bool) (leaf : Bool) (a b c d : Int) (w : World) (e : Ending) (w' : World) : Prop :=
  (errNew nodes s ok ≠ 0 ∧ e = .returned (.int .i64 (errNew nodes s ok)) ∧ Below w.heap.size w w') ∨ (errNew nodes s ok = 0 ∧ e = .returned (.int .i64 0) ∧ HungPost nodes q s leaf a b c d w w')

set_option maxRecDepth 100000 in
set_option maxHeartbeats 2000000 in
theorem hang_any {nodes : List Node} (T : Tree nodes) (w : World) (hN : ∀ n ∈ nodes, NodeIn w n) {r : Node} (hr : r ∈ nodes) (hrk : r.key = []) (bt : Nat) (ht : w.cell? ⟨bt, 0, none⟩ = some (nptr r.blk))
    (s : ByteArray) (hs : s.size ≤ 2000000) (vb cp : Nat) (l : List (Int × Int)) (hl : l.length ≤ 100) (hb : vb < w.heap.size)
    (hc : ∀ (j : Nat) (x : Int × Int), l[j]? = some x → w.cell? ⟨vb, j * 2, none⟩ = some (.int .i64 x.1) ∧ w.cell? ⟨vb, j * 2 + 1, none⟩ = some (.int .i64 x.2))
    (q : Nat) (leaf : Bool) (a b c d : Int) (hq : Blk w q 104 #[.string ⟨#[]⟩, .bool leaf, .int .i64 a, .int .i64 b, .int .i64 c, .int .i64 d, .pointer none, .slice none 0 0])
    (hsep : ∀ n ∈ nodes, q ≠ n.blk ∧ n.sl.ownBlock ≠ some q ∧ n.sl.ownBlock ≠ some n.blk) :
    Calls Tryz.prog 27 #[.pointer (some ⟨bt, 0, none⟩), .string s, nptr q, .slice (some ⟨vb, 0, none⟩) l.length cp] w (HungR nodes q (bl s) (fairL l) leaf a b c d w) := by
  have hrn := refuseNew_any T w hN hr hrk bt ht s hs vb cp l hl hb hc
  clear hc
  obtain ⟨L, hL⟩ : ∃ L, L = l.length := ⟨_, rfl⟩
  rw [← hL] at hrn ⊢
  clear hL
  generalize hok : fairL l = ok at hrn ⊢
  by_cases he : errNew nodes (bl s) ok = 0
  · obtain ⟨hv, h0, hokt, hd, hf, p, hp, hpl, h20⟩ := errNew_zero he
    have HE : Hid (errNew nodes (bl s) ok = 0) := he
    rw [he] at hrn
    clear he
    obtain ⟨hpn, hpk⟩ := findKey_mem hp
    have hsn := fun W => split_names s hs hv h0 W
    have hbt := World.block_lt_of_cell? w _ ht
    have htW := fun W (hW : Below w.heap.size w W) => (hW.cell (p := ⟨bt, 0, none⟩) hbt).trans ht
    unfold nptr at htW
    have hNW := fun W (hW : Below w.heap.size w W) n hn => (hN n hn).below hW
    have hfind2 := fun W (hW : Below w.heap.size w W) (sa : ByteArray) (ha : sa.size ≤ 2000000) (hk : namesB (bl sa) = (namesB (bl s)).dropLast) => find_key T hr hrk sa ha W (hNW W hW) (nptr p.blk) (by rw [hk, hp])
    have hno : ∀ n ∈ nodes, n.key ≠ namesB (bl s) := fun n hn e => by rw [findKey_some T hn e] at hf; cases hf
    have hhang := fun W (hW : Below w.heap.size w W) (nm : Bs) (hnm : nameOK nm = true) (hn2 : ∀ n ∈ nodes, n.key ≠ p.key ++ [nm]) => hang_node T W (hNW W hW) hpn q nm hnm hn2 leaf a b c d (hq.below hW hq.lt) (hsep p hpn).1 (hsep p hpn).2.1 (hsep p hpn).2.2
    unfold nptr at hfind2 hhang ⊢
    clear hf hsep hq
    go_enter Tryz.func27, Tryz.ntmps27
    go_wp2_with (first | (go_at_call 52; refine hrn.mono ?_; clear hrn; rintro e w1 ⟨rfl, hb1⟩) | (go_at_call 53; refine (hsn _).mono ?_; clear hsn; rintro e w2 ⟨⟨sa, sbb, rfl, hnm, hsa⟩, hb2⟩; have hB2 : Below w.heap.size w w2 := bstep hb1 hb2; have ht2 := htW w2 hB2))
    have hk : namesB (bl sa) = (namesB (bl s)).dropLast := by rw [hnm, List.dropLast_concat]
    refine (hfind2 w2 hB2 sa (by omega) hk).mono ?_
    rintro e w3 ⟨rfl, hb3⟩
    have hB3 : Below w.heap.size w w3 := bstep hB2 hb3
    have hnmo : nameOK (bl sbb) = true := keyOK_mem (k := namesB (bl s)) (by rw [← validB_keyOK]; exact hv) (by rw [hnm]; simp)
    have hpk2 : p.key ++ [bl sbb] = namesB (bl s) := by rw [hpk, ← hk, hnm]
    have hh := hhang w3 hB3 (bl sbb) hnmo (fun n hn => by rw [hpk2]; exact hno n hn)
    rw [sb_bl] at hh
    clear hhang hfind2 htW hk hnm
    have HP2 : Hid (p.key ++ [bl sbb] = namesB (bl s)) := hpk2
    clear hpk2 hpk
    go_wp2_with (go_at_call 55; refine hh.mono ?_; clear hh; rintro e w4 ⟨rfl, ks, at_, sl, hpost⟩)
    go_ret
    exact .inr ⟨HE.out, rfl, ⟨p, bl sbb, ks, at_, sl, hpn, hpl, HP2.out.symm, h20, hno, hpost.from hB3⟩⟩
  · have hne : (errNew nodes (bl s) ok != 0) = true := by simpa using he
    unfold nptr
    generalize hE : errNew nodes (bl s) ok = E at hrn hne
    have HE : Hid (errNew nodes (bl s) ok = E) := hE
    clear hE he hN T ht hr hrk hsep hq
    go_enter Tryz.func27, Tryz.ntmps27
    go_wp2_with (go_at_call 52; refine hrn.mono ?_; rintro e w1 ⟨rfl, hb1⟩)
    go_ret
    exact .inl ⟨by rw [HE.out]; simpa using hne, ret_int HE.out.symm, hb1⟩
end Go.Proofs.YtepneihjhcakhaaGreatDoor
