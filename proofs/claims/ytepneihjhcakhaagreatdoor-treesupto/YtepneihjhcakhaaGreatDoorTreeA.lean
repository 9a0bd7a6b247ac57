import Derived.Test.YtepneihjhcakhaaGreatDoorIterB
import Derived.Test.YtepneihjhcakhaaGreatDoorPlainB
set_option linter.unusedVariables false
set_option linter.unusedSimpArgs false
namespace Go.Proofs.YtepneihjhcakhaaGreatDoor
open Go.RowKit

set_option maxHeartbeats 400000 in
theorem place1_any (b : Nat) (nm x : ByteArray) (w : World) (h : w.cell? ⟨b, 0, none⟩ = some (.string nm)) :
    Calls Tryz.prog 97 #[.pointer (some ⟨b, 0, none⟩), .string x] w fun e w' => e = .returned (.int .i64 (cmpB (bl nm) (bl x))) ∧ w' = w := by
  go_enter Tryz.func97, Tryz.ntmps97
  go_wp2_with (go_at_call 98; refine (compare_any _ _ _).mono ?_; rintro e w1 ⟨rfl, rfl⟩)
  go_ret
  exact ⟨rfl, rfl⟩

/-- What a search in sorted names tells. -/
def Found (ns : List Bs) (x : Bs) (at_ : Nat) (there : Bool) : Prop :=
  at_ ≤ ns.length ∧ (∀ (j : Nat) (n : Bs), j < at_ → ns[j]? = some n → cmpB n x < 0) ∧ (∀ (j : Nat) (n : Bs), at_ ≤ j → ns[j]? = some n → 0 ≤ cmpB n x) ∧ (there = true ↔ ns[at_]? = some x)

theorem found_nil (x : Bs) : Found [] x 0 false := ⟨Nat.le_refl _, by simp, by simp, by simp⟩

set_option maxHeartbeats 400000 in
theorem bsearch_nil (x : ByteArray) (w : World) :
    Calls Tryz.prog 96 #[.slice none 0 0, .string x, .func (.func 97) #[] #[]] w fun e w' => e = .returned (.tuple #[.int .i64 0, .bool false]) ∧ w' = w := by
  go_enter Tryz.func96, Tryz.ntmps96
  go_wp2
  refine wp_loop_rounds 1 ?_
  rw [rounds_succ]
  go_wp2
  go_ret2
  exact ⟨rfl, rfl⟩

def BsPost (ns : List Bs) (x : Bs) (e : Ending) : Prop := ∃ (at_ : Nat) (th : Bool), e = .returned (.tuple #[.int .i64 at_, .bool th]) ∧ Found ns x at_ th

set_option maxRecDepth 100000 in
set_option maxHeartbeats 1000000 in
theorem bsearch_any (a cap : Nat) (kb : List Nat) (ns : List Bs) (x : ByteArray) (w : World) (hl : kb.length = ns.length) (hlen : ns.length ≤ 1000)
    (hsort : ns.Pairwise fun a b => cmpB a b < 0)
    (hc : ∀ (j b : Nat), kb[j]? = some b → w.cell? ⟨a, j, none⟩ = some (.pointer (some ⟨b, 0, none⟩)))
    (hn : ∀ (j b : Nat) (n : Bs), kb[j]? = some b → ns[j]? = some n → w.cell? ⟨b, 0, none⟩ = some (.string (sb n))) :
    Calls Tryz.prog 96 #[.slice (some ⟨a, 0, none⟩) ns.length cap, .string x, .func (.func 97) #[] #[]] w fun e w' =>
      BsPost ns (bl x) e ∧ w' = w := by
  have hcall : ∀ j, j < ns.length → ∃ b n, ns[j]? = some n ∧ w.cell? ⟨a, j, none⟩ = some (.pointer (some ⟨b, 0, none⟩)) ∧ w.cell? ⟨b, 0, none⟩ = some (.string (sb n)) := fun j hj => by
    have h1 : kb[j]? = some (kb[j]'(by omega)) := List.getElem?_eq_getElem _
    have h2 : ns[j]? = some (ns[j]'hj) := List.getElem?_eq_getElem _
    exact ⟨_, _, h2, hc _ _ h1, hn _ _ _ h1 h2⟩
  have mono : ∀ (i j : Nat) (n m : Bs), i < j → ns[i]? = some n → ns[j]? = some m → cmpB n m < 0 := fun i j n m hij h1 h2 => by
    obtain ⟨hi, rfl⟩ := List.getElem?_eq_some_iff.1 h1
    obtain ⟨hj, rfl⟩ := List.getElem?_eq_some_iff.1 h2
    exact List.pairwise_iff_getElem.1 hsort i j hi hj hij
  clear hc hn
  obtain ⟨L, hL⟩ : ∃ L, L = ns.length := ⟨_, rfl⟩
  rw [← hL]
  rw [← hL] at hcall hlen
  have HL : Hid (L = ns.length) := hL
  clear hL hsort hl
  go_enter Tryz.func96, Tryz.ntmps96
  go_wp2
  go_loop [9, 10] (fun i j => ∃ p q : Nat, i = .int .i64 p ∧ j = .int .i64 q ∧ p ≤ q ∧ q ≤ L ∧ (∀ (k : Nat) (n : Bs), k < p → ns[k]? = some n → cmpB n (bl x) < 0) ∧ (∀ (k : Nat) (n : Bs), q ≤ k → ns[k]? = some n → 0 ≤ cmpB n (bl x)))
    (fun i j => (intOf j - intOf i).toNat)
  case atStart => exact ⟨0, L, rfl, rfl, Nat.zero_le _, Nat.le_refl _, fun k n h => by omega, fun k n h h' => by rw [List.getElem?_eq_none (by have := HL.out; omega)] at h'; cases h'⟩
  case round =>
    obtain ⟨p, q, rfl, rfl, hpq, hqL, hlo, hhi⟩ := hrel
    have HLO : Hid (∀ (k : Nat) (n : Bs), k < p → ns[k]? = some n → cmpB n (bl x) < 0) := hlo
    have HHI : Hid (∀ (k : Nat) (n : Bs), q ≤ k → ns[k]? = some n → 0 ≤ cmpB n (bl x)) := hhi
    have HMO : Hid (∀ (i j : Nat) (n m : Bs), i < j → ns[i]? = some n → ns[j]? = some m → cmpB n m < 0) := mono
    clear hlo hhi mono
    by_cases hlt : p < q
    · have hmid : (p + q) / 2 < L := by omega
      obtain ⟨b, n, hnn, hcell, hname⟩ := hcall ((p + q) / 2) hmid
      have HB : Hid (ns[(p + q) / 2]? = some n) := hnn
      clear hnn hcall
      have hc1 := place1_any b (sb n) x w hname
      rw [bl_sb] at hc1
      by_cases hcmp : cmpB n (bl x) < 0
      · go_wp2_with (go_at_call 97; refine hc1.mono ?_; rintro e w1 ⟨rfl, rfl⟩)
        go_round
        case rel =>
          refine ⟨(p + q) / 2 + 1, q, by go_num, rfl, by omega, hqL, fun k m hk hm => ?_, HHI.out⟩
          rcases Nat.lt_or_ge k ((p + q) / 2) with h | h
          · exact cmp_trans _ _ _ (HMO.out _ _ _ _ h hm HB.out) hcmp
          · obtain rfl : k = (p + q) / 2 := by omega
            have := HB.out; rw [hm] at this; cases this; exact hcmp
        case measure => simp [intOf]; omega
      · go_wp2_with (go_at_call 97; refine hc1.mono ?_; rintro e w1 ⟨rfl, rfl⟩)
        go_round
        case rel =>
          refine ⟨p, (p + q) / 2, rfl, by go_num, by omega, by omega, HLO.out, fun k m hk hm => ?_⟩
          rcases Nat.lt_or_ge ((p + q) / 2) k with h | h
          · have h1 := HMO.out _ _ _ _ h HB.out hm
            rcases Int.lt_or_le (cmpB m (bl x)) 0 with h2 | h2
            · exact absurd (cmp_trans _ _ _ h1 h2) (Int.not_lt.2 hcmp)
            · exact h2
          · obtain rfl : k = (p + q) / 2 := by omega
            have := HB.out; rw [hm] at this; cases this; omega
        case measure => simp [intOf]; omega
    · obtain rfl : p = q := by omega
      by_cases hpL : p < L
      · obtain ⟨b, n, hnn, hcell, hname⟩ := hcall p hpL
        have HB : Hid (ns[p]? = some n) := hnn
        clear hnn hcall
        have hc1 := place1_any b (sb n) x w hname
        rw [bl_sb] at hc1
        go_wp2_with (go_at_call 97; refine hc1.mono ?_; rintro e w1 ⟨rfl, rfl⟩)
        go_ret2
        refine ⟨⟨p, _, rfl, by have := HL.out; omega, HLO.out, HHI.out, ?_⟩, rfl⟩
        rw [HB.out]
        simp only [Option.some.injEq, beq_iff_eq]
        exact ⟨fun h => cmp_zero _ _ h, fun h => by rw [h]; exact cmp_self _⟩
      · go_wp2
        go_ret2
        refine ⟨⟨p, false, rfl, by have := HL.out; omega, HLO.out, HHI.out, ?_⟩, rfl⟩
        rw [List.getElem?_eq_none (by have := HL.out; omega)]
        simp

set_option maxHeartbeats 400000 in
theorem place_any (bq : Nat) (a cap : Nat) (kb : List Nat) (ns : List Bs) (x : ByteArray) (w : World) (hl : kb.length = ns.length) (hlen : ns.length ≤ 1000)
    (hsort : ns.Pairwise fun a b => cmpB a b < 0)
    (hs : w.cell? ⟨bq, 7, none⟩ = some (.slice (some ⟨a, 0, none⟩) ns.length cap))
    (hc : ∀ (j b : Nat), kb[j]? = some b → w.cell? ⟨a, j, none⟩ = some (.pointer (some ⟨b, 0, none⟩)))
    (hn : ∀ (j b : Nat) (n : Bs), kb[j]? = some b → ns[j]? = some n → w.cell? ⟨b, 0, none⟩ = some (.string (sb n))) :
    Calls Tryz.prog 73 #[.pointer (some ⟨bq, 0, none⟩), .string x] w fun e w' => BsPost ns (bl x) e ∧ w' = w := by
  have h := bsearch_any a cap kb ns x w hl hlen hsort hc hn
  clear hc hn hsort
  go_enter Tryz.func73, Tryz.ntmps73
  go_wp2_with (go_at_call 96; refine h.mono ?_; rintro e w1 ⟨⟨p, th, rfl, hF⟩, rfl⟩)
  go_ret2
  exact ⟨⟨p, th, rfl, hF⟩, rfl⟩

set_option maxHeartbeats 400000 in
theorem place_nil (bq : Nat) (x : ByteArray) (w : World) (hs : w.cell? ⟨bq, 7, none⟩ = some (.slice none 0 0)) :
    Calls Tryz.prog 73 #[.pointer (some ⟨bq, 0, none⟩), .string x] w fun e w' => BsPost [] (bl x) e ∧ w' = w := by
  go_enter Tryz.func73, Tryz.ntmps73
  go_wp2_with (go_at_call 96; refine (bsearch_nil x w).mono ?_; rintro e w1 ⟨rfl, rfl⟩)
  go_ret2
  exact ⟨⟨0, false, rfl, found_nil _⟩, rfl⟩
end Go.Proofs.YtepneihjhcakhaaGreatDoor
