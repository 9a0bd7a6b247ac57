import Derived.Test.YtepneihjhcakhaaGreatDoorWalkA
import Derived.Test.YtepneihjhcakhaaGreatDoorPlainA
import Derived.Lib.Bytealg
import Derived.Lib.Strings
import Derived.Lib.UnsafeStr
import Derived.Lib.BufferWrite
import Derived.Laws.MakeOwn
import Derived.Laws.Externs
namespace Go.Proofs.YtepneihjhcakhaaGreatDoor
open Go.RowKit

/-- The bytes of a string. -/
def bl (s : ByteArray) : Bs := s.data.toList
/-- The string of bytes. -/
def sb (l : Bs) : ByteArray := ⟨l.toArray⟩
theorem bl_len (s : ByteArray) : (bl s).length = s.size := (Lib.size_eq s).symm
theorem sb_size (l : Bs) : (sb l).size = l.length := by simp [sb, ByteArray.size]
theorem bl_sb (l : Bs) : bl (sb l) = l := by simp [bl, sb]
theorem sb_bl (s : ByteArray) : sb (bl s) = s := Lib.mk_data s
theorem bl_toList (s : ByteArray) : s.toList = bl s := ByteArray.toList_eq s
theorem bl_inj {a b : ByteArray} (h : bl a = bl b) : a = b := by rw [← sb_bl a, h, sb_bl]
theorem bl_extract (s : ByteArray) (a b : Nat) : bl (s.extract a b) = ((bl s).drop a).take (b - a) := Lib.extract_data s a b
theorem bl_get (s : ByteArray) (k : Nat) (h : k < s.size) : (bl s)[k]'(by rw [bl_len]; exact h) = s[k] := rfl
theorem bl_take (s : ByteArray) (k : Nat) (h : k < s.size) : (bl s).take (k + 1) = (bl s).take k ++ [s[k]] := by
  rw [List.take_succ_eq_append_getElem (by rw [bl_len]; exact h)]; rfl
theorem bl_drop (s : ByteArray) (k : Nat) (h : k < s.size) : (bl s).drop k = s[k] :: (bl s).drop (k + 1) := by
  rw [List.drop_eq_getElem_cons (by rw [bl_len]; exact h)]; rfl
theorem bl_append (a b : ByteArray) : bl (a ++ b) = bl a ++ bl b := by simp [bl]
theorem bl_beq (a b : ByteArray) : (a.toList == b.toList) = decide (bl a = bl b) := by
  rw [bl_toList, bl_toList]; by_cases h : bl a = bl b <;> simp [h]
theorem bl_nil : bl ⟨#[]⟩ = [] := rfl
theorem u8_int (a : UInt8) (k : Nat) (hk : k < 256) : ((a.toNat : Int) = k) ↔ a = UInt8.ofNat k := by
  constructor
  · intro h
    have : a.toNat = k := by omega
    rw [← this]; simp
  · intro h; subst h
    have : (UInt8.ofNat k).toNat = k := by simp; omega
    omega

def cnt47 (l : Bs) : Nat := l.count 47
def idx47 (l : Bs) : Int := Lib.indexByte l 47
def cmpB (a b : Bs) : Int := Lib.compareBytes a b
def has47 (l : Bs) : Prop := 47 ∈ l

/-! strings.Count, strings.Index, strings.Compare at what is asked here -/
theorem ext107 (s : ByteArray) (w : World) : (callFunc 107 #[.string s, .int .u8 47]).run Tryz.prog w = .ok (.value (.int .i64 (cnt47 (bl s)))) w := by
  rw [run_callFunc_extern Tryz.func107 (by kernel_rfl) (by kernel_rfl) (by kernel_rfl) (e := Extern.BytealgCount.count) (by kernel_rfl), Lib.run_countString]; rfl
theorem ext125 (s : ByteArray) (w : World) : (callFunc 125 #[.string s, .int .u8 47]).run Tryz.prog w = .ok (.value (.int .i64 (idx47 (bl s)))) w := by
  rw [run_callFunc_extern Tryz.func125 (by kernel_rfl) (by kernel_rfl) (by kernel_rfl) (e := Extern.BytealgIndexByte.indexByte) (by kernel_rfl), Lib.run_indexByteString]; rfl
theorem ext118 (a b : ByteArray) (w : World) : (callFunc 118 #[.string a, .string b]).run Tryz.prog w = .ok (.value (.int .i64 (cmpB (bl a) (bl b)))) w := by
  rw [run_callFunc_extern Tryz.func118 (by kernel_rfl) (by kernel_rfl) (by kernel_rfl) (e := Extern.BytealgCompare.compare) (by kernel_rfl), Lib.run_compareString]; rfl

set_option maxHeartbeats 400000 in
theorem compare_any (a b : ByteArray) (w : World) :
    Calls Tryz.prog 98 #[.string a, .string b] w fun e w' => e = .returned (.int .i64 (cmpB (bl a) (bl b))) ∧ w' = w := by
  have h := ext118 a b
  go_enter Tryz.func98, Tryz.ntmps98
  go_wp2
  go_ret
  exact ⟨rfl, rfl⟩

set_option maxHeartbeats 400000 in
theorem count_any (s : ByteArray) (w : World) :
    Calls Tryz.prog 90 #[.string s, .string ⟨#[47]⟩] w fun e w' => e = .returned (.int .i64 (cnt47 (bl s))) ∧ w' = w := by
  have h := ext107 s
  have hz : (⟨#[47]⟩ : ByteArray).size = 1 := rfl
  have i0 : ∀ w, (Instr.index 9 (.string ⟨#[47]⟩) (.int .i64 0)).run Tryz.prog w = .ok (.int .u8 47) w := fun _ => by kernel_rfl
  go_enter Tryz.func90, Tryz.ntmps90
  go_wp2
  go_ret
  exact ⟨rfl, rfl⟩

set_option maxHeartbeats 400000 in
theorem index_any (s : ByteArray) (w : World) :
    Calls Tryz.prog 108 #[.string s, .string ⟨#[47]⟩] w fun e w' => e = .returned (.int .i64 (idx47 (bl s))) ∧ w' = w := by
  have h := ext125 s
  have hz : (⟨#[47]⟩ : ByteArray).size = 1 := rfl
  have i0 : ∀ w, (Instr.index 9 (.string ⟨#[47]⟩) (.int .i64 0)).run Tryz.prog w = .ok (.int .u8 47) w := fun _ => by kernel_rfl
  have hq : ∀ x, (([47] : List UInt8) == s.toList) = true → x = (0 : Int) → x = idx47 (bl s) := fun x h e => by
    rw [bl_toList] at h
    have : bl s = [47] := by simpa using (by simpa using h : [47] = bl s).symm
    rw [this, e]; rfl
  go_enter Tryz.func108, Tryz.ntmps108
  go_wp2
  all_goals go_ret
  all_goals first | exact ⟨rfl, rfl⟩ | exact ⟨ret_int (hq 0 ‹_› rfl), rfl⟩

set_option maxHeartbeats 400000 in
theorem lastByte_any (s : ByteArray) (w : World) (hs : s.size ≤ maxLen) :
    Calls Tryz.prog 92 #[.string s, .int .u8 47] w fun e w' => (∃ r : Int, e = .returned (.int .i64 r) ∧ ((r = -1 ∧ ¬ has47 (bl s)) ∨ ∃ k : Nat, r = k ∧ k < s.size ∧ bl s = (bl s).take k ++ 47 :: (bl s).drop (k + 1) ∧ ¬ has47 ((bl s).drop (k + 1)))) ∧ w' = w := by
  unfold maxLen at hs
  go_enter Tryz.func92, Tryz.ntmps92
  go_wp2
  go_loop [5] (fun i => ∃ k : Nat, k ≤ s.size ∧ i = .int .i64 ((k : Int) - 1) ∧ ¬ has47 ((bl s).drop k)) (fun i => (intOf i + 1).toNat)
  case atStart => exact ⟨s.size, Nat.le_refl _, rfl, by rw [← bl_len, List.drop_length]; exact List.not_mem_nil⟩
  case round =>
    obtain ⟨k, hk, rfl, hn⟩ := hrel
    cases k with
    | zero =>
      go_wp2
      go_ret
      exact ⟨⟨-1, rfl, .inl ⟨rfl, by simpa using hn⟩⟩, rfl⟩
    | succ k =>
      have e1 : ((k + 1 : Nat) : Int) - 1 = k := by omega
      rw [e1]
      have hlt : k < s.size := by omega
      have hd := bl_drop s k hlt
      have HD : Hid ((bl s).drop k = s[k] :: (bl s).drop (k + 1)) := hd
      clear hd
      by_cases h47 : s[k] = 47
      · have H47 : Hid (s[k] = 47) := h47
        have hb : ((s[k].toNat : Int) == 47) = true := by rw [h47]; rfl
        clear h47
        go_wp2
        go_ret
        refine ⟨⟨k, rfl, .inr ⟨k, rfl, hlt, ?_, hn⟩⟩, rfl⟩
        conv => lhs; rw [← List.take_append_drop k (bl s), HD.out, H47.out]
      · have hb : ((s[k].toNat : Int) == 47) = false := by
          have := mt (u8_int s[k] 47 (by omega)).1 h47
          simpa using this
        go_wp2
        go_round
        case rel =>
          refine ⟨k, by omega, by go_num, ?_⟩
          rw [HD.out]
          intro hm
          rcases List.mem_cons.1 hm with h | h
          · exact h47 h.symm
          · exact hn h
        case measure => simp [intOf]

set_option maxHeartbeats 400000 in
theorem lastIndex_any (s : ByteArray) (w : World) (hs : s.size ≤ maxLen) :
    Calls Tryz.prog 71 #[.string s, .string ⟨#[47]⟩] w fun e w' => (∃ r : Int, e = .returned (.int .i64 r) ∧ ((r = -1 ∧ ¬ has47 (bl s)) ∨ ∃ k : Nat, r = k ∧ k < s.size ∧ bl s = (bl s).take k ++ 47 :: (bl s).drop (k + 1) ∧ ¬ has47 ((bl s).drop (k + 1)))) ∧ w' = w := by
  have hz : (⟨#[47]⟩ : ByteArray).size = 1 := rfl
  have i0 : ∀ w, (Instr.index 9 (.string ⟨#[47]⟩) (.int .i64 0)).run Tryz.prog w = .ok (.int .u8 47) w := fun _ => by kernel_rfl
  go_enter Tryz.func71, Tryz.ntmps71
  go_wp2_with (go_at_call 92; refine (lastByte_any _ _ hs).mono ?_; rintro e w1 ⟨⟨r, rfl, hr⟩, rfl⟩)
  go_ret
  exact ⟨⟨r, rfl, hr⟩, rfl⟩

theorem charOK_int (c : UInt8) : charOK c = (decide (97 ≤ (c.toNat : Int)) && decide ((c.toNat : Int) ≤ 122)) := by
  rw [Bool.eq_iff_iff]; simp [charOK, UInt8.le_iff_toNat_le]; omega

set_option maxHeartbeats 400000 in
theorem validName_any (s : ByteArray) (w : World) (hs : s.size ≤ maxLen) :
    Calls Tryz.prog 82 #[.string s] w fun e w' => e = .returned (.bool (nameOK (bl s))) ∧ w' = w := by
  unfold maxLen at hs
  by_cases hL : 1 ≤ s.size ∧ s.size ≤ 4
  · obtain ⟨hL1, hL2⟩ := hL
    go_enter Tryz.func82, Tryz.ntmps82
    go_wp2
    go_loop [14] (fun i => ∃ k : Nat, k ≤ s.size ∧ i = .int .i64 k ∧ ((bl s).take k).all charOK = true) (fun i => s.size - (intOf i).toNat)
    case atStart => exact ⟨0, Nat.zero_le _, rfl, rfl⟩
    case round =>
      obtain ⟨k, hk, rfl, hn⟩ := hrel
      by_cases hlt : k < s.size
      · have HD : Hid ((bl s).take (k + 1) = (bl s).take k ++ [s[k]]) := bl_take s k hlt
        have HC : Hid (charOK s[k] = (decide (97 ≤ (s[k].toNat : Int)) && decide ((s[k].toNat : Int) ≤ 122))) := charOK_int _
        have HN : Hid (((bl s).take k).all charOK = true) := hn
        clear hn
        have hbad : charOK s[k] = false → nameOK (bl s) = false := fun h => by
          have : (bl s).all charOK = false := by
            rw [List.all_eq_false]
            exact ⟨s[k], by rw [← bl_get s k hlt]; exact List.getElem_mem _, by simp [h]⟩
          simp [nameOK, this]
        go_wp2
        · go_ret
          exact ⟨ret_bool (hbad (by rw [HC.out]; simp; omega)).symm, rfl⟩
        · go_round
          case rel => exact ⟨k + 1, by omega, by go_num, by rw [HD.out, List.all_append, HN.out]; simp only [List.all_cons, List.all_nil]; rw [HC.out]; simp; omega⟩
          case measure => simp [intOf]; omega
        · go_ret
          exact ⟨ret_bool (hbad (by rw [HC.out]; simp; omega)).symm, rfl⟩
      · go_wp2
        go_ret
        have : k = s.size := by omega
        subst this
        rw [List.take_of_length_le (by rw [bl_len]; omega)] at hn
        exact ⟨ret_bool (by simp [nameOK, hn, bl_len]; omega), rfl⟩
  · have hz : nameOK (bl s) = false := by
      simp only [nameOK, bl_len]
      have : ¬ (1 ≤ s.size) ∨ ¬ (s.size ≤ 4) := by omega
      rcases this with h | h <;> simp [h]
    rw [hz]
    go_enter Tryz.func82, Tryz.ntmps82
    go_wp2
    all_goals first | (exfalso; omega) | (go_ret; exact ⟨rfl, rfl⟩)
end Go.Proofs.YtepneihjhcakhaaGreatDoor
