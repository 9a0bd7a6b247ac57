import Derived.WalkKit
import Derived.WalkLawsBesides
import Derived.WalkSpells
import Derived.RegionCalls
import Derived.Deep.QuietTactic
import Derived.BigQuiet
import Derived.Deep.RegionWith
import Derived.Handy
import Derived.Test.YtepneihjhcakhaaGreatDoorProg
namespace Go.Proofs.YtepneihjhcakhaaGreatDoor
open Go.RowKit

theorem bstep {w W w1 : World} (h : Below w.heap.size w W) (hb : Below W.heap.size W w1) : Below w.heap.size w w1 := h.trans (hb.mono h.size)
theorem ret_eq {a b : Value} (h : a = b) : Ending.returned a = .returned b := by rw [h]
theorem ret_int {k : IntKind} {a b : Int} (h : a = b) : Ending.returned (.int k a) = .returned (.int k b) := by rw [h]
theorem ret_bool {a b : Bool} (h : a = b) : Ending.returned (.bool a) = .returned (.bool b) := by rw [h]
theorem ret_str {a b : ByteArray} (h : a = b) : Ending.returned (.string a) = .returned (.string b) := by rw [h]

set_option maxHeartbeats 400000 in
theorem pick_any (c : Int) (n : Nat) (w : World) (hc : -9223372036854775808 ≤ c) (hc' : c ≤ 9223372036854775807) (hn : 0 < n) (hn' : n ≤ 9223372036854775807) :
    Calls Tryz.prog 9 #[.int .i64 c, .int .i64 n] w fun e w' => (∃ r : Nat, r < n ∧ e = .returned (.int .i64 r)) ∧ w' = w := by
  have key : ∀ x : Int, 0 ≤ x → ∃ r : Nat, r < n ∧ (x.tmod n) = r := fun x hx => by
    refine ⟨(x.tmod n).toNat, ?_, ?_⟩
    · have h1 := Int.tmod_lt_of_pos x (b := (n : Int)) (by omega)
      have h2 := Int.tmod_nonneg (n : Int) hx
      omega
    · have h2 := Int.tmod_nonneg (n : Int) hx
      omega
  have key2 : ∀ x : Int, 0 ≤ x → ∃ r : Nat, r < n ∧ (x % n) = r := fun x hx => by
    obtain ⟨r, h, e⟩ := key x hx
    exact ⟨r, h, by rw [← e, Int.tmod_eq_emod_of_nonneg hx]⟩
  have hn2 : 0 < (n : Int) := by omega
  go_enter Tryz.func9, Tryz.ntmps9
  go_wp2
  · go_ret
    obtain ⟨r, h, e⟩ := key (-(c + 1)) (by omega)
    exact ⟨⟨r, h, ret_int (by rw [← e, Int.neg_tmod])⟩, rfl⟩
  · go_ret
    obtain ⟨r, h, e⟩ := key2 c (by omega)
    exact ⟨⟨r, h, ret_int e⟩, rfl⟩

set_option maxHeartbeats 400000 in
theorem num_any (c : Int) (w : World) :
    Calls Tryz.prog 32 #[.int .i64 c] w fun e w' => e = .returned (.int .i64 c) ∧ w' = w := by
  go_enter Tryz.func32, Tryz.ntmps32
  go_wp2
  go_ret
  exact ⟨rfl, rfl⟩

def fairB (a b : Int) : Bool := decide (0 ≤ a ∧ a ≤ 1000 ∧ 0 ≤ b ∧ b ≤ 1000)

set_option maxHeartbeats 400000 in
theorem fair_any (a b : Int) (w : World) :
    Calls Tryz.prog 36 #[.agg #[.int .i64 a, .int .i64 b]] w fun e w' => e = .returned (.bool (fairB a b)) ∧ Below w.heap.size w w' := by
  go_enter Tryz.func36, Tryz.ntmps36
  go_wp2
  all_goals go_ret
  all_goals exact ⟨ret_bool (by first | (simp [fairB]; omega) | (simp [fairB]; intros; omega) | (rw [fairB, decide_eq_decide]; omega)), (Below.refl _ _).alloc (Nat.le_refl _) _⟩


end Go.Proofs.YtepneihjhcakhaaGreatDoor
