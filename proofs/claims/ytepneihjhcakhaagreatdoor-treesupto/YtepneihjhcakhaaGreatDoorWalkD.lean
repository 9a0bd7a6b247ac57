import Derived.Test.YtepneihjhcakhaaGreatDoorWalkC
namespace Go.Proofs.YtepneihjhcakhaaGreatDoor
open Go.RowKit

set_option maxHeartbeats 1000000 in
set_option maxRecDepth 100000 in
theorem clone_any (s : ByteArray) (w : World) (hlim : s.size ≤ 100000) :
    Calls Tryz.prog 99 #[.string s] w fun e w' => e = .returned (.string s) ∧ Below w.heap.size w w' := by
  by_cases h0 : s.size = 0
  · have hs : s = ⟨#[]⟩ := by
      apply ByteArray.ext
      exact Array.eq_empty_of_size_eq_zero h0
    subst hs
    go_enter Tryz.func99, Tryz.ntmps99
    go_wp2
    go_ret
    exact ⟨rfl, Below.refl _ _⟩
  · have hinf : (Tryz.prog.info? 5).map (fun i => (i.zero, i.size, i.bytes)) = some (some (.int .u8 0), 1, 1) := by kernel_rfl
    obtain ⟨i0, hi, hz0, hz1, hz2⟩ := info_parts hinf
    have hinfo : (Tryz.prog.info? 5).map (·.size) = some 1 := by rw [hi]; simp [hz1]
    have hco : Tryz.prog.cellsOf 5 = 1 := by kernel_rfl
    obtain ⟨M, hM⟩ : ∃ M, M = madeCells (Value.int .u8 0).cells (((s.size : Nat) : Int).toNat * i0.size) := ⟨_, rfl⟩
    have hMs : M.size = s.size := by rw [hM, size_madeCells, hz1]; simp
    have hmk : ∀ W : World, (Instr.makeSlice 159 (.int .i64 (s.size : Int)) (.int .i64 (s.size : Int))).run Tryz.prog W = .ok (.slice (some ⟨W.heap.size, 0, none⟩) s.size s.size) (W.alloc (.cells M 5)) := fun W => by
      have h := run_make (P := Tryz.prog) W 159 5 i0 (.int .u8 0) Tryz.underlying159 hi hz0 .i64 .i64 (s.size : Int) (s.size : Int) (by omega) (by omega) (by rw [hz2]; omega) (by omega)
      rw [← hM] at h
      simpa using h
    clear hM
    have hcp := Lib.run_copy_row_string (P := Tryz.prog) (w.alloc (.cells M 5)) 159 9 3 5 w.heap.size 0 s.size s.size s M 5 Tryz.underlying159 hinfo (heap_alloc_new w _) (Nat.le_refl _) (by omega)
    obtain ⟨Y, hY⟩ : ∃ Y, Y = (M.toList.take 0 ++ Lib.byteCells s.data.toList ++ M.toList.drop (0 + s.size)).toArray := ⟨_, rfl⟩
    rw [← hY] at hcp
    have hYl : Y.toList = Lib.byteCells s.data.toList := by
      rw [hY, List.toList_toArray, List.take_zero, List.nil_append, List.drop_of_length_le (by rw [Array.length_toList]; omega), List.append_nil]
    have hYs : Y.size = s.size := by rw [← Array.length_toList, hYl, Lib.byteCells_length, ← Lib.size_eq]
    have hgY : ((w.alloc (.cells M 5)).setRow w.heap.size Y).heap[w.heap.size]? = some (.cells Y 5 (0, 0)) := setRow_heap _ _ M _ 5 (0, 0) (heap_alloc_new w _)
    have hne : s.data.toList ≠ [] := fun e => h0 (by rw [Lib.size_eq, e]; rfl)
    have hUS := Lib.run_unsafeString_row (P := Tryz.prog) ((w.alloc (.cells M 5)).setRow w.heap.size Y) 160 3 9 5 Tryz.underlying160 hco w.heap.size Y.size (by unfold World.shape?; rw [hgY]) s.data.toList hne (by rw [← Lib.size_eq]; omega) (by rw [← Lib.size_eq]; omega)
      (fun j x hx => Lib.cells_of_row hgY Y.size j _ (by rw [List.take_of_length_le (by rw [Array.length_toList]; exact Nat.le_refl _), hYl]; simp [Lib.byteCells, hx]))
    rw [← Lib.size_eq] at hUS
    clear hY
    go_enter Tryz.func99, Tryz.ntmps99
    go_wp2
    go_ret
    have hb1 : Below w.heap.size w (w.alloc (.cells M 5)) := (Below.refl _ w).alloc (Nat.le_refl _) _
    have hb2 : Below w.heap.size (w.alloc (.cells M 5)) ((w.alloc (.cells M 5)).setRow w.heap.size Y) := ⟨rfl, rfl, rfl, by simp, fun k hk => setRow_other _ _ _ _ (by omega)⟩
    exact ⟨rfl, Lib.below_freeze (hb1.trans hb2) (p := ⟨w.heap.size, 0, none⟩) (Nat.le_refl _) _⟩

set_option maxHeartbeats 400000 in
theorem sclone_any (s : ByteArray) (w : World) (hlim : s.size ≤ 100000) :
    Calls Tryz.prog 74 #[.string s] w fun e w' => e = .returned (.string s) ∧ Below w.heap.size w w' := by
  go_enter Tryz.func74, Tryz.ntmps74
  go_wp2_with (go_at_call 99; refine (clone_any _ _ hlim).mono ?_; rintro e w1 ⟨rfl, hb1⟩)
  go_ret
  exact ⟨rfl, hb1⟩

def depthB (l : Bs) : Nat := (namesB l).length
theorem depthB_eq (l : Bs) (h : l ≠ []) : depthB l = cnt47 l + 1 := by
  unfold depthB namesB cnt47; rw [if_neg h, splitB_length]

set_option maxHeartbeats 400000 in
theorem depth_any (s : ByteArray) (w : World) (hs : s.size ≤ 2000000) :
    Calls Tryz.prog 69 #[.string s] w fun e w' => e = .returned (.int .i64 (depthB (bl s))) ∧ w' = w := by
  have hc : cnt47 (bl s) ≤ s.size := by rw [← bl_len]; exact List.count_le_length
  by_cases h0 : bl s = []
  · have hz : s = ⟨#[]⟩ := bl_inj (h0.trans bl_nil.symm)
    subst hz
    go_enter Tryz.func69, Tryz.ntmps69
    go_wp2
    go_ret
    exact ⟨rfl, rfl⟩
  · have hq : (s.toList.isEmpty) = false := by rw [bl_toList]; simpa using h0
    have HD : Hid (depthB (bl s) = cnt47 (bl s) + 1) := depthB_eq _ h0
    have hb : cnt47 (bl s) ≤ 2000000 := by omega
    go_enter Tryz.func69, Tryz.ntmps69
    go_wp2_with (go_at_call 90; refine (count_any _ _).mono ?_; rintro e w1 ⟨rfl, rfl⟩)
    go_ret
    exact ⟨ret_int (by rw [HD.out]; rfl), rfl⟩

set_option maxHeartbeats 400000 in
theorem join_any (a b : ByteArray) (w : World) (ha : a.size ≤ 1000) (hb : b.size ≤ 1000) :
    Calls Tryz.prog 102 #[.string a, .string b] w fun e w' => e = .returned (.string (if bl a = [] then b else sb (bl a ++ 47 :: bl b))) ∧ Below w.heap.size w w' := by
  by_cases h0 : bl a = []
  · have hz : a = ⟨#[]⟩ := bl_inj (h0.trans bl_nil.symm)
    rw [if_pos h0]
    subst hz
    go_enter Tryz.func102, Tryz.ntmps102
    go_wp2_with (go_at_call 74; refine (sclone_any _ _ (by omega)).mono ?_; rintro e w1 ⟨rfl, hb1⟩)
    go_ret
    exact ⟨rfl, hb1⟩
  · rw [if_neg h0]
    have hq : (a.toList.isEmpty) = false := by rw [bl_toList]; simpa using h0
    go_enter Tryz.func102, Tryz.ntmps102
    go_wp2
    go_ret
    exact ⟨ret_str (bl_inj (by rw [bl_append, bl_append, bl_sb]; simp [bl])), Below.refl _ _⟩

theorem inB_raw (p a : ByteArray) : inB (bl p) (bl a) = (a.toList.isEmpty || (p.toList == a.toList) || (decide (a.size < p.size) && ((p.extract 0 a.size).toList == a.toList) && (if h : a.size < p.size then ((p[a.size].toNat : Int) == 47) else false))) := by
  unfold inB
  rw [bl_beq, bl_beq, bl_toList a, bl_extract]
  congr 1
  by_cases h : a.size < p.size
  · have h1 : (bl p)[(bl a).length]? = some p[a.size] := by
      rw [bl_len, List.getElem?_eq_getElem (by rw [bl_len]; exact h), bl_get]
    have h2 : (((p[a.size].toNat : Int)) == 47) = decide (p[a.size] = 47) := by
      rw [Bool.eq_iff_iff]
      simp only [beq_iff_eq, decide_eq_true_eq]
      exact u8_int _ 47 (by omega)
    rw [dif_pos h, h1, h2]
    simp only [bl_len, h, List.drop_zero, Nat.sub_zero, Option.some.injEq]
  · simp [bl_len, h]

set_option maxHeartbeats 400000 in
theorem in_any (p a : ByteArray) (w : World) (_hp : p.size ≤ 2000000) (_ha : a.size ≤ 2000000) :
    Calls Tryz.prog 42 #[.string p, .string a] w fun e w' => e = .returned (.bool (inB (bl p) (bl a))) ∧ w' = w := by
  have HI : Hid (inB (bl p) (bl a) = (a.toList.isEmpty || (p.toList == a.toList) || (decide (a.size < p.size) && ((p.extract 0 a.size).toList == a.toList) && (if h : a.size < p.size then ((p[a.size].toNat : Int) == 47) else false)))) := inB_raw p a
  cases hz : a.toList.isEmpty <;> cases he : (p.toList == a.toList)
  all_goals
    go_enter Tryz.func42, Tryz.ntmps42
    go_wp2
    all_goals go_ret
    all_goals refine ⟨ret_bool ?_, rfl⟩
    all_goals rw [HI.out]
    all_goals simp [*]

set_option maxHeartbeats 400000 in
theorem split_any (s : ByteArray) (w : World) (hs : s.size ≤ 2000000) :
    Calls Tryz.prog 53 #[.string s] w fun e w' => (∃ a b : ByteArray, e = .returned (.tuple #[.string a, .string b]) ∧
      ((¬ has47 (bl s) ∧ bl a = [] ∧ bl b = bl s) ∨ (bl s = bl a ++ 47 :: bl b ∧ ¬ has47 (bl b)))) ∧ (∃ n, w' = w.drewN n) := by
  go_enter Tryz.func53, Tryz.ntmps53
  go_wp2_with (go_at_call 71; refine (lastIndex_any _ _ (by unfold maxLen; omega)).mono ?_; rintro e w1 ⟨⟨r, rfl, (⟨rfl, hn⟩ | ⟨k, rfl, hk, he, hn⟩)⟩, rfl⟩)
  · go_ret2
    exact ⟨⟨⟨#[]⟩, s, rfl, .inl ⟨hn, rfl, rfl⟩⟩, 0, rfl⟩
  · have HE : Hid (bl s = List.take k (bl s) ++ 47 :: List.drop (k + 1) (bl s)) := he
    have HK : Hid (k < s.size) := hk
    clear he
    have h1 : (k : Int) ≤ s.size := by omega
    have h2 : (k : Int) + 1 ≤ s.size := by omega
    go_quiet (fail)
    go_wp2
    go_ret2
    refine ⟨⟨s.extract 0 k, s.extract (k + 1) s.size, rfl, .inr ⟨?_, ?_⟩⟩, _, rfl⟩
    · rw [bl_extract, bl_extract]
      conv => lhs; rw [HE.out]
      have : ((bl s).drop (k + 1)).take (s.size - (k + 1)) = (bl s).drop (k + 1) := List.take_of_length_le (by rw [List.length_drop, bl_len]; omega)
      rw [this]; simp
    · rw [bl_extract]
      have : ((bl s).drop (k + 1)).take (s.size - (k + 1)) = (bl s).drop (k + 1) := List.take_of_length_le (by rw [List.length_drop, bl_len]; omega)
      rw [this]; exact hn

set_option maxHeartbeats 400000 in
theorem names_any (s : ByteArray) (w : World) :
    Calls Tryz.prog 72 #[.string s] w fun e w' => (bl s = [] ∧ e = .returned (.func (.func 94) #[] #[]) ∧ w' = w) ∨
      (bl s ≠ [] ∧ e = .returned (.func (.func 116) #[] #[.pointer (some ⟨w.heap.size + 1, 0, none⟩), .pointer (some ⟨w.heap.size, 0, none⟩), .pointer (some ⟨w.heap.size + 2, 0, none⟩)]) ∧
        w' = ((w.alloc (.cells #[.string s] 9)).alloc (.cells #[.string ⟨#[47]⟩] 9)).alloc (.cells #[.int .i64 0] 3)) := by
  have hmf : ∀ (fn : Fn) (first cap : Array Value) (w : World), (Instr.makeFunc fn first cap).run Tryz.prog w = .ok (.func fn first cap) w := fun _ _ _ _ => rfl
  by_cases h0 : bl s = []
  · have hz : s = ⟨#[]⟩ := bl_inj (h0.trans bl_nil.symm)
    subst hz
    go_enter Tryz.func72, Tryz.ntmps72
    go_wp2
    go_ret
    exact .inl ⟨rfl, rfl, rfl⟩
  · have hq : (s.toList.isEmpty) = false := by rw [bl_toList]; simpa using h0
    go_enter Tryz.func72, Tryz.ntmps72
    go_wp2
    go_ret
    exact .inr ⟨h0, rfl, rfl⟩
end Go.Proofs.YtepneihjhcakhaaGreatDoor
