import Derived.Test.YtepneihjhcakhaaGreatDoorRefA
import Derived.Lib.AppendZeros
set_option linter.unusedVariables false
set_option linter.unusedSimpArgs false
namespace Go.Proofs.YtepneihjhcakhaaGreatDoor
open Go.RowKit

def strs (l : List Bs) : List Value := l.map fun x => .string (sb x)

theorem info9 : (Tryz.prog.info? 9).map (fun i => (i.zero, i.size, i.bytes)) = some (some (.string ⟨#[]⟩), 1, 16) := by kernel_rfl

def NamesPost (s : Bs) (w : World) (e : Ending) (w' : World) : Prop :=
  (validB s = false ∧ e = .returned (.tuple #[.slice none 0 0, .bool false])) ∨
  (validB s = true ∧ ∃ sl, e = .returned (.tuple #[sl, .bool true]) ∧ w'.ownsRow w.heap.size 9 1 sl (namesB s).length (strs (namesB s)))

theorem char_bad (p xs : List Bs) (x y : Bs) (ys : List Bs) (c : UInt8) (s r : Bs) (hs : s ≠ []) (h : splitB s = xs ++ (x ++ c :: y) :: ys) (hb : charOK c = false ∨ 4 ≤ x.length) : validB s = false := by
  have hn : namesB s = splitB s := by simp [namesB, hs]
  rw [validB_keyOK, hn, h]
  cases hk : keyOK (xs ++ (x ++ c :: y) :: ys)
  · rfl
  · have h1 := keyOK_mem hk (n := x ++ c :: y) (by simp)
    rcases hb with hb | hb
    · simp [nameOK, hb] at h1
    · have := (nameOK_len h1).2; simp at this; omega

theorem empty_bad (s : Bs) (hs : s ≠ []) (a b : List Bs) (h : splitB s = a ++ [] :: b) : validB s = false := by
  have hn : namesB s = splitB s := by simp [namesB, hs]
  rw [validB_keyOK, hn, h]
  cases hk : keyOK (a ++ [] :: b)
  · rfl
  · have h1 := keyOK_mem hk (n := []) (by simp)
    simp [nameOK] at h1
theorem all_good (s : Bs) (hs : s ≠ []) (xs : List Bs) (h : splitB s = xs) (hx : xs.all nameOK = true) : validB s = true ∧ namesB s = xs := by
  have hn : namesB s = splitB s := by simp [namesB, hs]
  rw [validB_keyOK, hn, h]; exact ⟨hx, rfl⟩
theorem nameOK_of (y : Bs) (h : y.all charOK = true) (h4 : y.length ≤ 4) (h1 : 1 ≤ y.length) : nameOK y = true := by
  unfold nameOK; rw [h]; simp; omega
theorem sbEmpty (y : Bs) : (sb y).toList.isEmpty = y.isEmpty := by rw [bl_toList, bl_sb]
theorem strs_snoc (xs : List Bs) (y : Bs) : strs (xs ++ [y]) = strs xs ++ [.string (sb y)] := by simp [strs]

set_option maxRecDepth 100000 in
set_option maxHeartbeats 4000000 in
theorem names_ref (s : ByteArray) (hs : s.size ≤ 2000000) (w : World) :
    Calls Tryz.prog 34 #[.string s] w fun e w' => NamesPost (bl s) w e w' ∧ Below w.heap.size w w' := by
  by_cases h0 : bl s = []
  · have hz : s = ⟨#[]⟩ := bl_inj (h0.trans bl_nil.symm)
    subst hz
    go_enter Tryz.func34, Tryz.ntmps34
    go_wp2
    go_ret2
    exact ⟨.inr ⟨rfl, _, rfl, World.ownsRow_nil _ _ _ _⟩, Below.refl _ _⟩
  have hq : (s.toList.isEmpty) = false := by rw [bl_toList]; simpa using h0
  have HNE : Hid (bl s ≠ []) := h0
  clear h0
  obtain ⟨i0, hi, hz0, hz1, hz2⟩ := info_parts info9
  go_enter Tryz.func34, Tryz.ntmps34
  go_wp2
  go_loopw [4, 5, 6] (fun o x i wr => ∃ (k : Nat) (xs : List Bs) (y : Bs), i = .int .i64 k ∧ x = .string (sb y) ∧ wr.ownsRow w.heap.size 9 1 o xs.length (strs xs) ∧ Below w.heap.size w wr ∧ xs.all nameOK = true ∧ y.all charOK = true ∧ y.length ≤ 4 ∧ xs.length ≤ k ∧
      ((k ≤ s.size ∧ splitB ((bl s).take k) = xs ++ [y]) ∨ (k = s.size + 1 ∧ splitB (bl s) = xs)))
    (fun _ _ i _ => s.size + 2 - (intOf i).toNat)
  case atStart => exact ⟨0, [], [], rfl, rfl, World.ownsRow_nil _ _ _ _, Below.refl _ _, rfl, rfl, by simp, Nat.le_refl _, .inl ⟨Nat.zero_le _, by simp [splitB]⟩⟩
  case round =>
    obtain ⟨k, xs, y, rfl, rfl, hown, hbel, hxs, hy, hy4, hkx, hsp⟩ := hrel
    have HXS : Hid (xs.all nameOK = true) := hxs
    have HY : Hid (y.all charOK = true) := hy
    clear hxs hy
    rcases hsp with ⟨hk, hsp⟩ | ⟨hk, hsp⟩
    · have HSP : Hid (splitB ((bl s).take k) = xs ++ [y]) := hsp
      clear hsp
      by_cases hlt : k < s.size
      · have HD : Hid ((bl s).drop k = s[k] :: (bl s).drop (k + 1)) := bl_drop s k hlt
        have HT : Hid ((bl s).take (k + 1) = (bl s).take k ++ [s[k]]) := bl_take s k hlt
        by_cases h47 : s[k] = 47
        · have H47 : Hid (s[k] = 47) := h47
          have hb : ((s[k].toNat : Int) != 47) = false := by rw [h47]; rfl
          clear h47
          have HS0 : splitB (bl s) = xs ++ y :: splitB ((bl s).drop (k + 1)) := by
            have h1 := splitB_slash ((bl s).take k) ((bl s).drop (k + 1))
            have h2 := List.take_append_drop k (bl s)
            rw [HD.out, H47.out] at h2
            rw [h2, HSP.out] at h1
            rw [h1]; simp
          have HS : Hid (splitB (bl s) = xs ++ y :: splitB ((bl s).drop (k + 1))) := HS0
          clear HS0
          have hye := sbEmpty y
          cases hy0 : y.isEmpty
          · rw [hy0] at hye
            have HNY : Hid (nameOK y = true) := nameOK_of y HY.out hy4 (by cases y <;> simp at hy0 ⊢)
            go_wp2_with (at_builtin; refine wpList_append_own _ rfl _ _ 77 rfl w.heap.size 9 i0 (.string ⟨#[]⟩) 1 16 Tryz.underlying77 hi hz0 hz1 hz2 rfl (by decide) _ _ _ rfl (hown.alloc _) ⟨wr.heap.size, 0, none⟩ 1 1 [.string (sb y)] rfl rfl (cell_one_new _ _ _) (by simp [Value.oneCell']) (by unfold maxLen; omega) (by omega) (by have := hbel.size; simp; omega) ?_; intro v' w1 hown' hgrow _)
            go_roundw
            case rel =>
              refine ⟨k + 1, xs ++ [y], [], by go_num, rfl, by rw [strs_snoc]; simpa using hown', ?_, by simp [HXS.out, HNY.out], rfl, by simp, by simp; omega, .inl ⟨by omega, ?_⟩⟩
              · exact (hbel.alloc hbel.size _).grown hgrow (by have := hbel.size; simp; omega) (fun j hj => (hown.lt j hj).1)
              · rw [HT.out, H47.out, show (bl s).take k ++ [47] = (bl s).take k ++ 47 :: [] from rfl, splitB_slash, HSP.out]; simp [splitB]
            case measure => simp [intOf]; omega
          · rw [hy0] at hye
            have hbad : validB (bl s) = false := empty_bad _ HNE.out xs _ (by
              have := HS.out
              cases y with
              | nil => exact this
              | cons c y => simp at hy0)
            go_wp2
            go_ret2
            exact ⟨.inl ⟨hbad, rfl⟩, hbel⟩
        · have hb : ((s[k].toNat : Int) != 47) = true := by
            have := mt (u8_int s[k] 47 (by omega)).1 h47
            simpa using this
          obtain ⟨h', t', he'⟩ := splitB_cons ((bl s).drop (k + 1))
          have HS : Hid (splitB (bl s) = xs ++ (y ++ s[k] :: h') :: t') := by
            have h1 : splitB ((bl s).drop k) = (s[k] :: h') :: t' := by rw [HD.out]; simp only [splitB]; rw [if_neg h47, he']
            have h2 := splitB_append ((bl s).take k) ((bl s).drop k) HSP.out h1
            rw [List.take_append_drop] at h2; exact h2
          have HC : Hid (charOK s[k] = (decide (97 ≤ (s[k].toNat : Int)) && decide ((s[k].toNat : Int) ≤ 122))) := charOK_int _
          have hsz := sb_size y
          by_cases hgood : charOK s[k] = true ∧ y.length < 4
          · obtain ⟨hg1, hg2⟩ := hgood
            have HG : Hid (charOK s[k] = true) := hg1
            have hc1 : 97 ≤ (s[k].toNat : Int) := by have := HC.out; rw [hg1] at this; simp at this; omega
            have hc2 : (s[k].toNat : Int) ≤ 122 := by have := HC.out; rw [hg1] at this; simp at this; omega
            have h4 : ((y.length : Int) == 4) = false := by simp only [beq_eq_false_iff_ne, ne_eq]; omega
            clear hg1 he'
            go_wp2
            refine ⟨⟨k + 1, xs, y ++ [s[k]], by go_num, ?_, hown, hbel, HXS.out, by rw [List.all_append, HY.out]; simp [HG.out], by simp; omega, by omega, .inl ⟨by omega, ?_⟩⟩, by simp [intOf]; omega⟩
            · exact congrArg Value.string (bl_inj (by
                rw [bl_append, bl_sb, bl_sb, bl_extract, HD.out]; simp))
            · rw [HT.out, splitB_append ((bl s).take k) [s[k]] HSP.out (by simp only [splitB]; rw [if_neg h47])]
          · have hbad : validB (bl s) = false := char_bad [] xs y h' t' s[k] (bl s) [] HNE.out HS.out (by
              cases hcc : charOK s[k]
              · exact .inl rfl
              · right
                have : ¬ y.length < 4 := fun h => hgood ⟨hcc, h⟩
                omega)
            have hor : ¬ (97 ≤ (s[k].toNat : Int)) ∨ ¬ ((s[k].toNat : Int) ≤ 122) ∨ (y.length : Int) = 4 := by
              have h1 := HC.out
              by_cases a1 : 97 ≤ (s[k].toNat : Int)
              · by_cases a2 : (s[k].toNat : Int) ≤ 122
                · right; right
                  have hcc : charOK s[k] = true := by rw [h1]; simp [a1, a2]
                  have : ¬ y.length < 4 := fun h => hgood ⟨hcc, h⟩
                  omega
                · exact .inr (.inl a2)
              · exact .inl a1
            clear hgood he'
            rcases hor with hor | hor | hor
            · go_wp2
              all_goals (go_ret2; exact ⟨.inl ⟨hbad, rfl⟩, hbel⟩)
            · go_wp2
              all_goals (go_ret2; exact ⟨.inl ⟨hbad, rfl⟩, hbel⟩)
            · have h4b : ((y.length : Int) == 4) = true := by simp [hor]
              clear hor
              go_wp2
              all_goals (go_ret2; exact ⟨.inl ⟨hbad, rfl⟩, hbel⟩)
      · obtain rfl : k = s.size := by omega
        have HS : Hid (splitB (bl s) = xs ++ [y]) := by
          have := HSP.out
          rwa [List.take_of_length_le (by rw [bl_len]; omega)] at this
        have hye := sbEmpty y
        cases hy0 : y.isEmpty
        · rw [hy0] at hye
          have HNY : Hid (nameOK y = true) := nameOK_of y HY.out hy4 (by cases y <;> simp at hy0 ⊢)
          go_wp2_with (at_builtin; refine wpList_append_own _ rfl _ _ 77 rfl w.heap.size 9 i0 (.string ⟨#[]⟩) 1 16 Tryz.underlying77 hi hz0 hz1 hz2 rfl (by decide) _ _ _ rfl (hown.alloc _) ⟨wr.heap.size, 0, none⟩ 1 1 [.string (sb y)] rfl rfl (cell_one_new _ _ _) (by simp [Value.oneCell']) (by unfold maxLen; omega) (by omega) (by have := hbel.size; simp; omega) ?_; intro v' w1 hown' hgrow _)
          go_roundw
          case rel =>
            refine ⟨s.size + 1, xs ++ [y], [], by go_num, rfl, by rw [strs_snoc]; simpa using hown', ?_, by simp [HXS.out, HNY.out], rfl, by simp, by simp <;> omega, .inr ⟨rfl, HS.out⟩⟩
            exact (hbel.alloc hbel.size _).grown hgrow (by have := hbel.size; simp; omega) (fun j hj => (hown.lt j hj).1)
          case measure => simp [intOf]
        · rw [hy0] at hye
          have hbad : validB (bl s) = false := empty_bad _ HNE.out xs [] (by
            have := HS.out
            cases y with
            | nil => exact this
            | cons c y => simp at hy0)
          go_wp2
          go_ret2
          exact ⟨.inl ⟨hbad, rfl⟩, hbel⟩
    · obtain ⟨hg1, hg2⟩ := all_good _ HNE.out xs hsp HXS.out
      subst hk
      clear hsp
      go_wp2
      go_ret2
      exact ⟨.inr ⟨hg1, _, rfl, by rw [hg2]; exact hown⟩, hbel⟩
end Go.Proofs.YtepneihjhcakhaaGreatDoor
