import Derived.Test.YtepneihjhcakhaaGreatDoorWalkA
import Derived.Laws.StructEq
namespace Go.Proofs.YtepneihjhcakhaaGreatDoor
open Go.RowKit

theorem eq35 (d : Nat) (a b c e : Int) (w : World) : (Op.equalIn (d + 2) 35 (.agg #[.int .i64 a, .int .i64 b]) (.agg #[.int .i64 c, .int .i64 e])).run Tryz.prog w = .ok (a == c && b == e) w := by
  have u3 := Tryz.underlying3
  have u35 := Tryz.underlying35
  have z3 := Tryz.sizeOf3
  have a3 := Tryz.isAgg3
  unfold Op.equalIn
  simp only [Sem.run_bind, run_underlying u35, Result.andThen_ok]
  simp [go_sem, z3, a3, List.range', Std.Legacy.Range.forIn_eq_forIn_range', part]
  by_cases h : a = c <;> by_cases k : b = e <;> simp [h, k]

theorem eql35 (a b c e : Int) (w : World) : (binOp .eql 35 (.agg #[.int .i64 a, .int .i64 b]) (.agg #[.int .i64 c, .int .i64 e])).run Tryz.prog w = .ok (.bool (a == c && b == e)) w := by
  rw [run_eql_struct, show (10000 : Nat) = 9998 + 2 from rfl, eq35]; rfl
theorem neq35 (a b c e : Int) (w : World) : (binOp .neq 35 (.agg #[.int .i64 a, .int .i64 b]) (.agg #[.int .i64 c, .int .i64 e])).run Tryz.prog w = .ok (.bool (!(a == c && b == e))) w := by
  rw [run_neq_struct, show (10000 : Nat) = 9998 + 2 from rfl, eq35]; rfl
theorem guard35 (op : BinOp) (x y : Operand) (xs ys : Array Value) (w : World) : (eqGuard op 35 x y (.agg xs) (.agg ys)).run Tryz.prog w = .ok () w :=
  run_eqGuard_agg w op 35 x y xs ys (by kernel_rfl)

set_option maxHeartbeats 400000 in
theorem clamp_any (a b : Int) (w : World) :
    Calls Tryz.prog 105 #[.agg #[.int .i64 a, .int .i64 b]] w fun e w' => e = .returned (.agg #[.int .i64 (max 0 (min a 1000)), .int .i64 (max 0 (min b 1000))]) ∧ Below w.heap.size w w' := by
  have i0 : ∀ w, (Instr.index 35 (.agg #[.int .i64 a, .int .i64 b]) (.int .i64 0)).run Tryz.prog w = .ok (.int .i64 a) w := fun _ => by kernel_rfl
  have i1 : ∀ w, (Instr.index 35 (.agg #[.int .i64 a, .int .i64 b]) (.int .i64 1)).run Tryz.prog w = .ok (.int .i64 b) w := fun _ => by kernel_rfl
  go_enter Tryz.func105, Tryz.ntmps105
  go_wp2
  go_rounds 3
  all_goals go_wp2
  all_goals refine bodyPost_ret (v := .agg #[.int .i64 (max 0 (min a 1000)), .int .i64 (max 0 (min b 1000))]) (by simp [results, Tryz.results105, go_sem]; omega) rfl ⟨rfl, by (repeat (first | exact Below.refl _ _ | refine bstep ?_ (by assumption) | refine Below.setCell ?_ (by first | omega | (simp <;> omega)) _ | refine Below.alloc ?_ (by first | omega | (simp <;> omega)) _ | refine Below.drew ?_ | refine below_drewN ?_ _))⟩

set_option maxRecDepth 100000 in
set_option maxHeartbeats 400000 in
theorem allowed_any (a b : Int) (w : World) :
    Calls Tryz.prog 89 #[.agg #[.int .i64 a, .int .i64 b]] w fun e w' => e = .returned (.bool (fairB a b)) ∧ Below w.heap.size w w' := by
  have hq := eql35
  have hg := guard35
  go_enter Tryz.func89, Tryz.ntmps89
  go_wp2
  go_region_with (go_at_call 105; refine (clamp_any _ _ _).mono ?_; rintro e w1 ⟨rfl, hb1⟩; have c0 := (hb1.cell (p := ⟨w.heap.size, 0, none⟩) (by simp)); have c1 := (hb1.cell (p := ⟨w.heap.size, 1, none⟩) (by simp)))
  all_goals go_wp2
  all_goals go_ret
  all_goals exact ⟨ret_bool (by rw [Bool.eq_iff_iff]; simp [fairB]; omega), (by (repeat (first | exact Below.refl _ _ | refine bstep ?_ (by assumption) | refine Below.setCell ?_ (by first | omega | (simp <;> omega)) _ | refine Below.alloc ?_ (by first | omega | (simp <;> omega)) _ | refine Below.drew ?_ | refine below_drewN ?_ _)))⟩

set_option maxHeartbeats 400000 in
theorem newCohort_any (a b : Int) (w : World) :
    Calls Tryz.prog 26 #[.agg #[.int .i64 a, .int .i64 b]] w fun e w' => e = .returned (.pointer (some ⟨w.heap.size + 1, 0, none⟩)) ∧
      w' = ((w.alloc (.cells #[.int .i64 a, .int .i64 b] 35)).alloc (.cells #[.string ⟨#[]⟩, .bool false, .int .i64 0, .int .i64 0, .int .i64 a, .int .i64 b, .pointer none, .slice none 0 0] 104)) := by
  go_enter Tryz.func26, Tryz.ntmps26
  go_wp2
  go_ret
  exact ⟨rfl, rfl⟩

set_option maxHeartbeats 400000 in
theorem newLeaf_any (c d a b : Int) (w : World) :
    Calls Tryz.prog 33 #[.agg #[.int .i64 c, .int .i64 d], .agg #[.int .i64 a, .int .i64 b]] w fun e w' => e = .returned (.pointer (some ⟨w.heap.size + 2, 0, none⟩)) ∧
      w' = (((w.alloc (.cells #[.int .i64 c, .int .i64 d] 35)).alloc (.cells #[.int .i64 a, .int .i64 b] 35)).alloc (.cells #[.string ⟨#[]⟩, .bool true, .int .i64 c, .int .i64 d, .int .i64 a, .int .i64 b, .pointer none, .slice none 0 0] 104)) := by
  go_enter Tryz.func33, Tryz.ntmps33
  go_wp2
  go_ret
  exact ⟨rfl, rfl⟩

set_option maxHeartbeats 400000 in
theorem newTower_any (w : World) :
    Calls Tryz.prog 7 #[] w fun e w' => e = .returned (.pointer (some ⟨w.heap.size + 2, 0, none⟩)) ∧
      w' = (((w.alloc (.cells #[.int .i64 0, .int .i64 0] 35)).alloc (.cells #[.string ⟨#[]⟩, .bool false, .int .i64 0, .int .i64 0, .int .i64 0, .int .i64 0, .pointer none, .slice none 0 0] 104)).alloc (.cells #[.pointer (some ⟨w.heap.size + 1, 0, none⟩)] 63)) := by
  go_enter Tryz.func7, Tryz.ntmps7
  go_wp2_with (go_at_call 26; refine (newCohort_any _ _ _).mono ?_; rintro e w1 ⟨rfl, rfl⟩)
  go_ret
  exact ⟨rfl, rfl⟩

set_option maxHeartbeats 400000 in
theorem newRef_any (w : World) :
    Calls Tryz.prog 8 #[] w fun e w' => e = .returned (.pointer (some ⟨w.heap.size + 1, 0, none⟩)) ∧
      w' = ((w.alloc (.cells #[.string ⟨#[]⟩, .bool false, .int .i64 0, .int .i64 0, .int .i64 0, .int .i64 0] 65)).alloc (.cells #[.slice (some ⟨w.heap.size, 0, none⟩) 1 1, .slice none 0 0, .int .i64 0, .int .i64 0] 69)) := by
  go_enter Tryz.func8, Tryz.ntmps8
  go_wp2
  go_ret
  exact ⟨rfl, rfl⟩

set_option maxHeartbeats 400000 in
theorem leaf_any (b : Nat) (f : Bool) (w : World) (h : w.cell? ⟨b, 1, none⟩ = some (.bool f)) :
    Calls Tryz.prog 84 #[.pointer (some ⟨b, 0, none⟩)] w fun e w' => e = .returned (.bool f) ∧ w' = w := by
  go_enter Tryz.func84, Tryz.ntmps84
  go_wp2
  go_ret
  exact ⟨rfl, rfl⟩

set_option maxHeartbeats 400000 in
theorem borrow_any (b : Nat) (x y : Int) (w : World) (h : w.cell? ⟨b, 4, none⟩ = some (.int .i64 x)) (h' : w.cell? ⟨b, 5, none⟩ = some (.int .i64 y)) :
    Calls Tryz.prog 86 #[.pointer (some ⟨b, 0, none⟩)] w fun e w' => e = .returned (.agg #[.int .i64 x, .int .i64 y]) ∧ Below w.heap.size w w' := by
  have hb := World.block_lt_of_cell? w _ h
  go_enter Tryz.func86, Tryz.ntmps86
  go_wp2
  exact bodyPost_ret (v := .agg #[.int .i64 x, .int .i64 y]) (by simp [results, Tryz.results86, go_sem]) rfl ⟨rfl, by (repeat (first | exact Below.refl _ _ | refine bstep ?_ (by assumption) | refine Below.setCell ?_ (by first | omega | (simp <;> omega)) _ | refine Below.alloc ?_ (by first | omega | (simp <;> omega)) _ | refine Below.drew ?_ | refine below_drewN ?_ _))⟩

set_option maxHeartbeats 400000 in
theorem add_any (a b c d : Int) (w : World) (h1 : 0 ≤ a) (h2 : a ≤ 100000) (h3 : 0 ≤ b) (h4 : b ≤ 100000) (h5 : 0 ≤ c) (h6 : c ≤ 100000) (h7 : 0 ≤ d) (h8 : d ≤ 100000) :
    Calls Tryz.prog 104 #[.agg #[.int .i64 a, .int .i64 b], .agg #[.int .i64 c, .int .i64 d]] w fun e w' => e = .returned (.agg #[.int .i64 (a + c), .int .i64 (b + d)]) ∧ Below w.heap.size w w' := by
  go_enter Tryz.func104, Tryz.ntmps104
  go_wp2
  refine wp_loop_rounds 3 ?_
  rw [rounds_succ]; go_wp2
  go_region
  go_wp2
  rw [rounds_succ]; go_wp2
  go_region
  go_wp2
  rw [rounds_succ]; go_wp2
  exact bodyPost_ret (v := .agg #[.int .i64 (a + c), .int .i64 (b + d)]) (by simp [results, Tryz.results104, go_sem]) rfl ⟨rfl, by (repeat (first | exact Below.refl _ _ | refine bstep ?_ (by assumption) | refine Below.setCell ?_ (by first | omega | (simp <;> omega)) _ | refine Below.alloc ?_ (by first | omega | (simp <;> omega)) _ | refine Below.drew ?_ | refine below_drewN ?_ _))⟩
end Go.Proofs.YtepneihjhcakhaaGreatDoor
