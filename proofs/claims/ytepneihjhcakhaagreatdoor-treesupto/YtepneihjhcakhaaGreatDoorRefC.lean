import Derived.Test.YtepneihjhcakhaaGreatDoorRefB
set_option linter.unusedVariables false
set_option linter.unusedSimpArgs false
namespace Go.Proofs.YtepneihjhcakhaaGreatDoor
open Go.RowKit

theorem joinB_len' (k : List Bs) (h : ∀ x ∈ k, x.length ≤ 1000) : (joinB k).length ≤ 1001 * k.length := by
  induction k with
  | nil => simp [joinB]
  | cons a r ih =>
    have ha := h a (by simp)
    by_cases e : r = []
    · subst e; simp [joinB]; omega
    · rw [joinB_cons a r e]; have := ih (fun x hx => h x (by simp [hx])); simp; omega

set_option maxRecDepth 100000 in
set_option maxHeartbeats 400000 in
theorem join_ref (ao : Option Addr) (cap : Nat) (l : List Bs) (w : World) (hl : l.length ≤ 2000000) (hsm : ∀ x ∈ l, x.length ≤ 1000) (hl4 : l.length ≤ 1000)
    (hc : ∀ (j : Nat) (x : Bs), l[j]? = some x → ∃ g, ao = some ⟨g, 0, none⟩ ∧ w.cell? ⟨g, j, none⟩ = some (.string (sb x))) :
    Calls Tryz.prog 43 #[.slice ao l.length cap] w fun e w' => e = .returned (.string (sb (joinB l))) ∧ w' = w := by
  obtain ⟨n, hn⟩ : ∃ n, n = l.length := ⟨_, rfl⟩
  rw [← hn] at hl hl4 ⊢
  have HN : Hid (n = l.length) := hn
  clear hn
  go_enter Tryz.func43, Tryz.ntmps43
  go_wp2
  go_loop [3, 4] (fun s i => ∃ k : Nat, k ≤ n ∧ i = .int .i64 k ∧ s = .string (sb (joinB (l.take k)))) (fun _ i => n - (intOf i).toNat)
  case atStart => exact ⟨0, Nat.zero_le _, rfl, rfl⟩
  case round =>
    obtain ⟨k, hk, rfl, rfl⟩ := hrel
    by_cases hlt : k < n
    · have hlt' : k < l.length := by rw [← HN.out]; exact hlt
      obtain ⟨x, hx⟩ : ∃ x, l[k]? = some x := ⟨_, List.getElem?_eq_getElem hlt'⟩
      have HT : Hid (l.take (k + 1) = l.take k ++ [x]) := by
        rw [List.take_succ_eq_append_getElem hlt']; rw [List.getElem?_eq_getElem hlt'] at hx; cases hx; rfl
      obtain ⟨g, hao, hcell⟩ := hc k x hx
      have hxs : (sb x).size ≤ 1000 := by rw [sb_size]; exact hsm x (List.mem_of_getElem? hx)
      have hac : (sb (joinB (l.take k))).size ≤ 2000000 := by
        rw [sb_size]; have := joinB_len' (l.take k) (fun y hy => hsm y (List.mem_of_mem_take hy)); simp at this; omega
      obtain ⟨acc, hacc⟩ : ∃ acc, acc = sb (joinB (l.take k)) := ⟨_, rfl⟩
      rw [← hacc] at hac ⊢
      have HA : Hid (acc = sb (joinB (l.take k))) := hacc
      clear hx hc hsm hacc
      subst hao
      rcases Nat.eq_zero_or_pos k with rfl | hpos
      · go_wp2
        go_round
        case rel =>
          refine ⟨1, by omega, by go_num, congrArg Value.string (bl_inj ?_)⟩
          have := HT.out
          rw [Nat.zero_add] at this
          rw [bl_append, HA.out, bl_sb, bl_sb, bl_sb, this]; simp [joinB]
        case measure => simp [intOf]; omega
      · go_wp2
        go_round
        case rel =>
          refine ⟨k + 1, by omega, by go_num, congrArg Value.string (bl_inj ?_)⟩
          rw [bl_append, bl_append, HA.out, bl_sb, bl_sb, bl_sb, HT.out, joinB_snoc _ _ (fun e => by have h1 := congrArg List.length e; rw [List.length_take, List.length_nil] at h1; have := HN.out; omega)]
          simp [bl]
        case measure => simp [intOf]; omega
    · go_wp2
      go_ret
      refine ⟨ret_str (by rw [List.take_of_length_le (by rw [← HN.out]; omega)]), rfl⟩

end Go.Proofs.YtepneihjhcakhaaGreatDoor
