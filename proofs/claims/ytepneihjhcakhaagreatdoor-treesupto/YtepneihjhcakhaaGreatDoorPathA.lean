import Derived.Test.YtepneihjhcakhaaGreatDoorModel
set_option linter.unusedVariables false
set_option linter.unusedSimpArgs false
namespace Go.Proofs.YtepneihjhcakhaaGreatDoor
open Go.RowKit

theorem joinB_len (k : List Bs) (h : keyOK k = true) : (joinB k).length ≤ 5 * k.length := by
  induction k with
  | nil => simp [joinB]
  | cons a r ih =>
    have ha := (nameOK_len (keyOK_mem h (n := a) (by simp))).2
    have hr : keyOK r = true := by simp only [keyOK, List.all_cons, Bool.and_eq_true] at h; exact h.2
    by_cases e : r = []
    · subst e; simp [joinB]; omega
    · rw [joinB_cons a r e]; have := ih hr; simp; omega

set_option maxRecDepth 100000 in
set_option maxHeartbeats 2000000 in
theorem path_any {nodes : List Node} (T : Tree nodes) : ∀ (j : Nat) (n : Node), n ∈ nodes → n.key.length = j → ∀ (w : World), (∀ n ∈ nodes, NodeIn w n) →
    Calls Tryz.prog 83 #[nptr n.blk] w fun e w' => e = .returned (.string (sb (joinB n.key))) ∧ Below w.heap.size w w' := by
  intro j
  induction j with
  | zero =>
    intro n hn hj w hN
    have hk : n.key = [] := List.eq_nil_of_length_eq_zero hj
    have hu := T.top n hn hk
    have c6 : w.cell? ⟨n.blk, 6, none⟩ = some (.pointer none) := by have := (hN n hn).cell (i := 6) (v := uptr n.up) rfl; rw [hu] at this; exact this
    rw [hk]
    unfold nptr
    go_enter Tryz.func83, Tryz.ntmps83
    go_wp2
    go_ret
    exact ⟨rfl, Below.refl _ _⟩
  | succ j ih =>
    intro n hn hj w hN
    have hne : n.key ≠ [] := fun e => by rw [e] at hj; simp at hj
    obtain ⟨k, nm, hsp⟩ : ∃ k nm, n.key = k ++ [nm] := ⟨_, _, (List.dropLast_concat_getLast hne).symm⟩
    obtain ⟨p, hp, hpk, hpl, hup⟩ := T.par n hn _ _ hsp
    have c6 : w.cell? ⟨n.blk, 6, none⟩ = some (.pointer (some ⟨p.blk, 0, none⟩)) := by have := (hN n hn).cell (i := 6) (v := uptr n.up) rfl; rw [hup] at this; exact this
    have c0 := (hN n hn).name
    rw [hsp, lastN_snoc] at c0
    have hb := (hN n hn).lt
    have ihp := fun W hW => ih p hp (by rw [hpk]; rw [hsp] at hj; simp at hj; omega) W hW
    unfold nptr at ihp ⊢
    have hok := T.ok n hn
    have hokp := T.ok p hp
    have hnm : nameOK nm = true := keyOK_mem hok.1 (by rw [hsp]; simp)
    have hj1 := fun W => join_any (sb (joinB p.key)) (sb nm) W (by rw [sb_size]; have := joinB_len _ hokp.1; omega) (by rw [sb_size]; have := (nameOK_len hnm).2; omega)
    simp only [bl_sb] at hj1
    have hres : (if joinB p.key = [] then sb nm else sb (joinB p.key ++ 47 :: nm)) = sb (joinB n.key) := by
      by_cases e : p.key = []
      · rw [if_pos ((joinB_nil_iff hokp.1).2 e), hsp, ← hpk, e]; simp [joinB]
      · rw [if_neg (fun h => e ((joinB_nil_iff hokp.1).1 h)), hsp, ← hpk, joinB_snoc _ _ e]
    simp only [hres] at hj1
    obtain ⟨R, hR⟩ : ∃ R, R = sb (joinB n.key) := ⟨_, rfl⟩
    obtain ⟨R1, hR1⟩ : ∃ R, R = sb (joinB p.key) := ⟨_, rfl⟩
    simp only [← hR, ← hR1] at hj1 ihp ⊢
    clear hres hR hR1
    go_enter Tryz.func83, Tryz.ntmps83
    go_wp2
    go_region_with (first | (go_at_call 83; refine (ihp _ (fun k hk => (hN k hk).below (by (repeat (first | exact Below.refl _ _ | refine bstep ?_ (by assumption) | refine Below.setCell ?_ (by first | omega | (simp <;> omega)) _ | refine Below.alloc ?_ (by first | omega | (simp <;> omega)) _ | refine Below.drew ?_ | refine below_drewN ?_ _))))).mono ?_; rintro e w1 ⟨rfl, hb1⟩; have d0 := (hb1.cell (p := ⟨n.blk, 0, none⟩) hb).trans c0) | (go_at_call 102; refine (hj1 _).mono ?_; rintro e w2 ⟨rfl, hb2⟩))
    all_goals go_wp2
    all_goals go_ret
    all_goals exact ⟨rfl, by (repeat (first | exact Below.refl _ _ | refine bstep ?_ (by assumption) | refine Below.setCell ?_ (by first | omega | (simp <;> omega)) _ | refine Below.alloc ?_ (by first | omega | (simp <;> omega)) _ | refine Below.drew ?_ | refine below_drewN ?_ _))⟩
end Go.Proofs.YtepneihjhcakhaaGreatDoor
