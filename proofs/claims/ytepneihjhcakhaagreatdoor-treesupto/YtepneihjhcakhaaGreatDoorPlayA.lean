import Derived.Test.YtepneihjhcakhaaGreatDoorCallA
import Derived.BigQuiet
set_option linter.unusedVariables false
set_option linter.unusedSimpArgs false
namespace Go.Proofs.YtepneihjhcakhaaGreatDoor
open Go.RowKit

/-- A step of a script. -/
structure OpC where
  k : Int
  t : Int
  s : ByteArray
  s2 : ByteArray
  a0 : Int
  a1 : Int
  c0 : Int
  c1 : Int
  nm : Int

def OpC.cells (o : OpC) : Array Value := #[.int .i64 o.k, .int .i64 o.t, .string o.s, .string o.s2, .int .i64 o.a0, .int .i64 o.a1, .int .i64 o.c0, .int .i64 o.c1, .int .i64 o.nm]

/-- The script lies in the world. -/
def ScriptIn (W : World) (ao : Option Addr) (len : Nat) (O : Nat → OpC) : Prop :=
  ∀ i, i < len → ∃ b off, ao = some ⟨b, off, none⟩ ∧ b < W.heap.size ∧ W.cell? ⟨b, off + i * 9, none⟩ = some (.int .i64 (O i).k) ∧ W.cell? ⟨b, off + i * 9 + 1, none⟩ = some (.int .i64 (O i).t) ∧ W.cell? ⟨b, off + i * 9 + 2, none⟩ = some (.string (O i).s) ∧ W.cell? ⟨b, off + i * 9 + 3, none⟩ = some (.string (O i).s2) ∧
    W.cell? ⟨b, off + i * 9 + 4, none⟩ = some (.int .i64 (O i).a0) ∧ W.cell? ⟨b, off + i * 9 + 5, none⟩ = some (.int .i64 (O i).a1) ∧ W.cell? ⟨b, off + i * 9 + 6, none⟩ = some (.int .i64 (O i).c0) ∧ W.cell? ⟨b, off + i * 9 + 7, none⟩ = some (.int .i64 (O i).c1) ∧ W.cell? ⟨b, off + i * 9 + 8, none⟩ = some (.int .i64 (O i).nm)

set_option maxRecDepth 100000 in
set_option maxHeartbeats 2000000 in
theorem played_walk {W : World} {ao : Option Addr} {len cap : Nat} (hl : len ≤ cap) (hm : cap ≤ maxLen) {O : Nat → OpC} (hS : ScriptIn W ao len O) (last : Int) {A : Nat → World → Prop}
    (h0 : ∀ w, Below W.heap.size W w → Blk w W.heap.size 32 #[.slice none 0 0, .slice none 0 0, .slice none 0 0, .slice none 0 0, .slice none 0 0] →
      Calls Tryz.prog 5 #[.pointer (some ⟨W.heap.size, 0, none⟩), .agg #[.int .i64 1, .int .i64 0, .string ⟨#[]⟩, .string ⟨#[]⟩, .int .i64 0, .int .i64 0, .int .i64 0, .int .i64 0, .int .i64 0]] w fun e w' => e = .returned (.bool true) ∧ A 1 w')
    (h1 : ∀ w, A 1 w → Calls Tryz.prog 5 #[.pointer (some ⟨W.heap.size, 0, none⟩), .agg #[.int .i64 3, .int .i64 0, .string ⟨#[97]⟩, .string ⟨#[]⟩, .int .i64 10, .int .i64 10, .int .i64 5, .int .i64 0, .int .i64 0]] w fun e w' => e = .returned (.bool true) ∧ A 2 w')
    (h2 : ∀ w, A 2 w → Calls Tryz.prog 5 #[.pointer (some ⟨W.heap.size, 0, none⟩), .agg #[.int .i64 4, .int .i64 0, .string ⟨#[97]⟩, .string ⟨#[]⟩, .int .i64 0, .int .i64 0, .int .i64 0, .int .i64 0, .int .i64 0]] w fun e w' => e = .returned (.bool true) ∧ A 3 w')
    (h3 : ∀ i, i < len → (O i).k ≤ last → ∀ w, A (3 + i) w → Calls Tryz.prog 5 #[.pointer (some ⟨W.heap.size, 0, none⟩), .agg #[.int .i64 (O i).k, .int .i64 (O i).t, .string (O i).s, .string (O i).s2, .int .i64 (O i).a0, .int .i64 (O i).a1, .int .i64 (O i).c0, .int .i64 (O i).c1, .int .i64 (O i).nm]] w fun e w' => e = .returned (.bool true) ∧ A (3 + (i + 1)) w')
    (h4 : ∀ i, i ≤ len → ∀ w, A (3 + i) w → Calls Tryz.prog 6 #[.pointer (some ⟨W.heap.size, 0, none⟩)] w fun e w' => e = .returned (.bool true) ∧ A (3 + i) w')
    (hA : ∀ i w, A i w → Below W.heap.size W w ∧ A (i + 1) w) :
    Calls Tryz.prog 4 #[.slice ao len cap, .int .i64 last] W fun e w' => e = .returned (.bool true) ∧ Below W.heap.size W w' := by
  have HS : Hid (ScriptIn W ao len O) := hS
  have HA : Hid (∀ i w, A i w → Below W.heap.size W w ∧ A (i + 1) w) := hA
  clear hS hA
  have hlen : len ≤ 9223372036854775807 := by unfold maxLen at hm; omega
  go_enter Tryz.func4, Tryz.ntmps4
  go_wp2_with (first
    | (go_at_call 5; refine (h2 _ hA2).mono ?_; rintro e w3 ⟨rfl, hA3⟩)
    | (go_at_call 5; refine (h1 _ hA1).mono ?_; rintro e w2 ⟨rfl, hA2⟩)
    | (go_at_call 5; refine (h0 _ (by (repeat (first | (with_reducible exact Below.refl _ _) | (with_reducible assumption) | ((with_reducible refine Below.setCell ?_ ?_ _); rotate_left; (focus (first | omega | (simp <;> omega)))) | ((with_reducible refine Below.alloc ?_ ?_ _); rotate_left; (focus (first | omega | (simp <;> omega)))) | (with_reducible refine Below.drew ?_) | (with_reducible refine below_drewN ?_ _) | (refine bstep ?_ (by with_reducible assumption))))) (by (repeat (first | (with_reducible assumption) | ((with_reducible refine Blk.new' ?_); simp; done) | (with_reducible refine Blk.alloc ?_ _) | (with_reducible refine Blk.drew ?_) | (with_reducible refine Blk.drewN ?_ _))))).mono ?_; rintro e w1 ⟨rfl, hA1⟩))
  go_loopw [6, 7] (fun ok i wr => ok = .bool true ∧ ∃ k : Nat, k ≤ len ∧ i = .int .i64 k ∧ A (3 + k) wr) (fun _ i _ => len - (intOf i).toNat)
  case atStart => exact ⟨rfl, 0, Nat.zero_le _, rfl, hA3⟩
  case round =>
    obtain ⟨rfl, k, hk, rfl, hAk⟩ := hrel
    by_cases hlt : k < len
    · obtain ⟨b, off, rfl, hb, q0, q1, q2, q3, q4, q5, q6, q7, q8⟩ := HS.out k hlt
      have hB := (HA.out _ _ hAk).1
      have r0 := (hB.cell (p := ⟨b, off + k * 9, none⟩) hb).trans q0
      have r1 := (hB.cell (p := ⟨b, off + k * 9 + 1, none⟩) hb).trans q1
      have r2 := (hB.cell (p := ⟨b, off + k * 9 + 2, none⟩) hb).trans q2
      have r3 := (hB.cell (p := ⟨b, off + k * 9 + 3, none⟩) hb).trans q3
      have r4 := (hB.cell (p := ⟨b, off + k * 9 + 4, none⟩) hb).trans q4
      have r5 := (hB.cell (p := ⟨b, off + k * 9 + 5, none⟩) hb).trans q5
      have r6 := (hB.cell (p := ⟨b, off + k * 9 + 6, none⟩) hb).trans q6
      have r7 := (hB.cell (p := ⟨b, off + k * 9 + 7, none⟩) hb).trans q7
      have r8 := (hB.cell (p := ⟨b, off + k * 9 + 8, none⟩) hb).trans q8
      clear q0 q1 q2 q3 q4 q5 q6 q7 q8
      have hnext := (HA.out _ _ hAk).2
      by_cases hle : (O k).k ≤ last
      · have h3k := h3 k hlt hle
        have h4k := h4 (k + 1) (by omega)
        clear h3 h4 h0 h1 h2 hnext
        go_wp2_with (first
          | (go_at_call 5; refine (h3k _ hAk).mono ?_; rintro e w4 ⟨rfl, hA4⟩)
          | (go_at_call 6; refine (h4k _ hA4).mono ?_; rintro e w5 ⟨rfl, hA5⟩))
        exact ⟨⟨rfl, k + 1, by omega, by go_num, hA5⟩, by simp [intOf]; omega⟩
      · have h4k := h4 k (by omega)
        clear h3 h4 h0 h1 h2 hnext
        go_wp2_with (go_at_call 6; refine (h4k _ hAk).mono ?_; rintro e w5 ⟨rfl, hA5⟩)
        exact ⟨⟨rfl, k + 1, by omega, by go_num, (HA.out _ _ hA5).2⟩, by simp [intOf]; omega⟩
    · go_wp2
      go_ret
      exact ⟨rfl, (HA.out _ _ hAk).1⟩
end Go.Proofs.YtepneihjhcakhaaGreatDoor
