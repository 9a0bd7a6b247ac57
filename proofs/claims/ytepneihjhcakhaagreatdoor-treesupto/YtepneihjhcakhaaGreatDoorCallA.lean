import Derived.Test.YtepneihjhcakhaaGreatDoorStateA
set_option linter.unusedVariables false
set_option linter.unusedSimpArgs false
namespace Go.Proofs.YtepneihjhcakhaaGreatDoor
open Go.RowKit

theorem Blk.new' {W : World} {t : TypeId} {vs : Array Value} {b : Nat} (h : b = W.heap.size) : Blk (W.alloc (.cells vs t)) b t vs := by subst h; exact Blk.new W t vs

/-- What making a queue leaves behind. -/
def MadeR (τ : Nat → Tag) (t : Nat) (W : World) (bt : Nat) (nodes : List Node) (err : Int) (x : Ent) (w' : World) : Prop :=
  ∃ τ' nodes', (∀ b, b < W.heap.size → τ' b = τ b) ∧ (∀ b, W.heap.size ≤ b → τ' b = .free ∨ (τ' b).prog t) ∧ ProgAt τ' t w' bt nodes' ∧
    nodes'.map Node.ent = (if err = 0 then nodes.map Node.ent ++ [x] else nodes.map Node.ent) ∧ Keep (fun b => (b < W.heap.size ∧ (τ b).prog t)) W w'

theorem made_of {τ : Nat → Tag} {t : Nat} {W w w' : World} {bt : Nat} {nodes : List Node} (h : ProgAt τ t W bt nodes) (hWw : Below W.heap.size W w) {q : Nat} (hq : W.heap.size ≤ q) {s : Bs} {ok leaf : Bool} {a b c d : Int} {e : Ending}
    (hnum : ok = true → (0 ≤ a ∧ a ≤ 1000) ∧ (0 ≤ b ∧ b ≤ 1000) ∧ (0 ≤ c ∧ c ≤ 1000) ∧ (0 ≤ d ∧ d ≤ 1000) ∧ (leaf = false → a = 0 ∧ b = 0))
    (hp : HungR nodes q s ok leaf a b c d w e w') : e = .returned (.int .i64 (errNew nodes s ok)) ∧ MadeR τ t W bt nodes (errNew nodes s ok) ⟨namesB s, leaf, a, b, c, d⟩ w' := by
  rcases hp with ⟨h1, rfl, hb⟩ | ⟨h1, rfl, hp⟩
  · refine ⟨rfl, fun b => if b < W.heap.size then τ b else .free, nodes, fun b hb => by simp [hb], fun b hb => .inl (by simp [Nat.not_lt.2 hb]), ?_, by simp [h1], Keep.new (bstep hWw hb)⟩
    exact h.keep (T := fun _ => False) (Keep.new (bstep hWw hb)) (fun b _ hb => hb.elim) (fun b hb => by simp [hb])
  · obtain ⟨hv, h0, hok, hd, _⟩ := errNew_zero h1
    obtain ⟨τ', nodes', g1, g2, g3, g4, g5⟩ := h.hung hWw hq hv hd (hnum hok) hp
    exact ⟨by rw [h1], τ', nodes', g1, g2, g3, by rw [h1, if_pos rfl]; exact g4, g5⟩

def CallR (τ : Nat → Tag) (t : Nat) (W : World) (bt : Nat) (nodes : List Node) (err : Int) (x : Ent) (e : Ending) (w' : World) : Prop :=
  e = .returned (.tuple #[.slice none 0 0, .int .i64 err]) ∧ MadeR τ t W bt nodes err x w'

set_option maxRecDepth 100000 in
set_option maxHeartbeats 2000000 in
theorem cohort_any {τ : Nat → Tag} {t : Nat} {W : World} {bt : Nat} {nodes : List Node} (h : ProgAt τ t W bt nodes) (s : ByteArray) (hs : s.size ≤ 2000000) (c d : Int) :
    Calls Tryz.prog 10 #[.pointer (some ⟨bt, 0, none⟩), .string s, .agg #[.int .i64 c, .int .i64 d]] W
      (CallR τ t W bt nodes (errNew nodes (bl s) (fairL [(c, d)])) ⟨namesB (bl s), false, 0, 0, c, d⟩) := by
  obtain ⟨r, hr0, hbt⟩ := h.tow
  have hr := List.mem_of_getElem? hr0
  have hrk : r.key = [] := by obtain ⟨r', h1, h2, _⟩ := h.tree.root; rw [hr0] at h1; cases h1; exact h2
  have hcall : ∀ W', Below W.heap.size W W' → ∀ q vb, W.heap.size ≤ q → Blk W' q 104 #[.string ⟨#[]⟩, .bool false, .int .i64 0, .int .i64 0, .int .i64 c, .int .i64 d, .pointer none, .slice none 0 0] → Blk W' vb 35 #[.int .i64 c, .int .i64 d] →
      Calls Tryz.prog 27 #[.pointer (some ⟨bt, 0, none⟩), .string s, .pointer (some ⟨q, 0, none⟩), .slice (some ⟨vb, 0, none⟩) 1 1] W' fun e w' => e = .returned (.int .i64 (errNew nodes (bl s) (fairL [(c, d)]))) ∧ MadeR τ t W bt nodes (errNew nodes (bl s) (fairL [(c, d)])) ⟨namesB (bl s), false, 0, 0, c, d⟩ w' := by
    intro W' hW q vb hq hbq hbv
    have h1 : W'.cell? ⟨bt, 0, none⟩ = some (nptr r.blk) := by have := (hbt.below hW hbt.lt).cell 0; simpa using this
    refine (hang_any h.tree W' (fun n hn => (h.ins n hn).below hW) hr hrk bt h1 s hs vb 1 [(c, d)] (by simp) hbv.lt (fun j x hx => ?_) q false 0 0 c d hbq (fun n hn => ?_)).mono ?_
    · cases j with
      | zero => simp at hx; subst hx; have c0 := hbv.cell 0; have c1 := hbv.cell 1; simp at c0 c1; exact ⟨c0, c1⟩
      | succ j => simp at hx
    · obtain ⟨i, hi⟩ := List.getElem?_of_mem hn
      obtain ⟨t1, t2⟩ := h.tags i n hi
      refine ⟨fun e => by have := (h.ins n hn).lt; omega, fun e => by have := ((h.ins n hn).row.lt _ e).2; omega, fun e => by have := t2 _ e; rw [t1] at this; cases this⟩
    · intro e w' hp
      exact made_of h hW hq (fun hok => by simp [fairL, fairB] at hok; exact ⟨by omega, by omega, by omega, by omega, fun _ => ⟨rfl, rfl⟩⟩) hp
  generalize errNew nodes (bl s) (fairL [(c, d)]) = E at hcall ⊢
  go_enter Tryz.func10, Tryz.ntmps10
  go_wp2
  go_region_with (first
    | (go_at_call 26; refine (newCohort_any _ _ _).mono ?_; rintro e w1 ⟨rfl, hw1⟩; subst hw1)
    | (go_at_call 27; refine Calls.mono (hcall _ ?_ _ _ ?_ ?_ ?_) ?_; (focus (repeat (first | exact Below.refl _ _ | refine bstep ?_ (by assumption) | refine Below.setCell ?_ (by first | omega | (simp <;> omega)) _ | refine Below.alloc ?_ (by first | omega | (simp <;> omega)) _ | refine Below.drew ?_ | refine below_drewN ?_ _))); (focus (first | omega | (simp <;> omega))); (focus (repeat (first | assumption | (refine Blk.new' ?_; simp; done) | refine Blk.alloc ?_ _ | refine Blk.drew ?_ | refine Blk.drewN ?_ _))); (focus (repeat (first | assumption | (refine Blk.new' ?_; simp; done) | refine Blk.alloc ?_ _ | refine Blk.drew ?_ | refine Blk.drewN ?_ _))); rintro e w3 ⟨rfl, hM⟩))
  all_goals go_wp2
  all_goals go_ret2
  all_goals exact ⟨rfl, hM⟩
end Go.Proofs.YtepneihjhcakhaaGreatDoor
