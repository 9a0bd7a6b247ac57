import Derived.Test.YtphclnolomgjoaaGreatDoorC06
import Derived.Test.YtphclnolomgjoaaGreatDoorC35
set_option linter.unusedVariables false
set_option linter.unusedSimpArgs false
namespace Go.Proofs.YtphclnolomgjoaaGreatDoor
open Go.RowKit
theorem qiz.ret {τ : Nat -> Tag} {t : Nat} {W : World} {bt : Nat} {nodes : List Node} {last : Int} {Ws : List Wk} {st : Int} {x : Ent} {e : Ending} {w' : World} (h : qiz τ t W bt nodes last Ws st 0 x e w') : ∃ ev, e = .returned (.tuple #[ev, .int .i64 0]) := by
 rcases h with ⟨h, _⟩ | ⟨_, _, _, _, _, _, _, ev, h, _⟩
 ·exact absurd rfl h
 ·exact ⟨ev, h⟩
set_option maxRecDepth 100000 in
set_option maxHeartbeats 2000000 in
theorem qvm {τ : Nat -> Tag} {t : Nat} {W : World} {bt : Nat} {nodes : List Node} {last : Int} {vw va : Value} {ws as_ : List Pw} {Ws : List Wk} {st : Int} (h : qb6 τ t W bt nodes last vw va ws as_) (R : Rel nodes Ws ws as_) (I : SInv ⟨Ws, st, []⟩) (s : ByteArray) (hs : s.size <= 2000000) (c d : Int) :
  Calls Tryz.prog 27 #[.pointer (some ⟨bt, 0, none⟩), .string s, .agg #[.int .i64 c, .int .i64 d]] W
   (qiz τ t W bt nodes last Ws st (qbc nodes (bl s) (qb3 [(c, d)])) ⟨qaa (bl s), false, 0, 0, c, d⟩) := by
 have hcall : ∀ W', Below W.heap.size W W' -> ∀ q vb, W.heap.size <= q -> Blk W' q 136 #[.string ⟨#[]⟩, .bool false, .int .i64 0, .int .i64 0, .int .i64 c, .int .i64 d, .pointer none, .slice none 0 0] -> Blk W' vb 35 #[.int .i64 c, .int .i64 d] ->
   Calls Tryz.prog 52 #[.pointer (some ⟨bt, 0, none⟩), .string s, .pointer (some ⟨q, 0, none⟩), .slice (some ⟨vb, 0, none⟩) 1 1] W' fun e w' => e = .returned (.int .i64 (qbc nodes (bl s) (qb3 [(c, d)]))) /\ (qbc nodes (bl s) (qb3 [(c, d)]) ≠ 0 -> Below W.heap.size W w') /\ (qbc nodes (bl s) (qb3 [(c, d)]) = 0 -> qkh τ t W bt nodes last vw va ws as_ Ws ⟨qaa (bl s), false, 0, 0, c, d⟩ w') /\ Keep (fun x => x < W.heap.size \/ x = q) W' w' := by
  intro W' hW q vb hq hbq hbv
  refine qv9 h R hW s hs vb 1 [(c, d)] (by simp) hbv.lt (fun j x hx => ?_) q hq false 0 0 c d hbq (fun hok => by simp [qb3, qao] at hok; exact ⟨by omega, by omega, by omega, by omega, fun _ => ⟨rfl, rfl⟩⟩)
  cases j with
  | zero => simp at hx; subst hx; have c0 := hbv.cell 0; have c1 := hbv.cell 1; simp at c0 c1; exact ⟨c0, c1⟩
  | succ j => simp at hx
 have hans0 := fun w1 (h1 : qkh τ t W bt nodes last vw va ws as_ Ws ⟨qaa (bl s), false, 0, 0, c, d⟩ w1) => (qlk (st := st) h1 I).mono (R' := fun e w' => ∃ ev, e = .returned (.tuple #[ev, .int .i64 0]) /\ qiz τ t W bt nodes last Ws st 0 ⟨qaa (bl s), false, 0, 0, c, d⟩ (.returned (.tuple #[ev, .int .i64 0])) w') (fun e w' hm => by obtain ⟨ev, rfl⟩ := hm.ret; exact ⟨ev, rfl, hm⟩)
 generalize (⟨qaa (bl s), false, 0, 0, c, d⟩ : Ent) = X at *
 generalize qbc nodes (bl s) (qb3 [(c, d)]) = E at hcall ⊢
 have hbt := h.lts.1
 clear h R I
 by_cases hE : E = 0
 ·subst hE
  simp only [ne_eq, not_true_eq_false, false_implies, true_and, forall_const] at hcall
  generalize qkh τ t W bt nodes last vw va ws as_ Ws X = HU at hcall hans0
  generalize qiz τ t W bt nodes last Ws st 0 X = MA at hans0 ⊢
  go_enter Tryz.func27, Tryz.ntmps27
  go_wp2
  go_region_with (first
   | (go_at_call 54; refine (qee _ _ _).mono ?_; rintro e w1 ⟨rfl, hw1⟩; subst hw1)
   | (go_at_call 52; refine Calls.mono (hcall _ ?_ _ _ ?_ ?_ ?_) ?_; (focus exact bel1); (focus (first | omega | (simp <;> omega))); (focus exact blk1); (focus exact blk1); rintro e w3 ⟨rfl, hM, hK3⟩)
   | (go_at_call 51; refine (hans0 _ hM).mono ?_; rintro e w4 ⟨ev, rfl, hM4⟩))
  all_goals go_wp2
  all_goals exact bodyPost_ret (v := .tuple #[ev, .int .i64 0]) (by simp [results, Tryz.results27, go_sem]) rfl hM4
 ·have hcall2 : ∀ W', Below W.heap.size W W' -> ∀ q vb, W.heap.size <= q -> Blk W' q 136 #[.string ⟨#[]⟩, .bool false, .int .i64 0, .int .i64 0, .int .i64 c, .int .i64 d, .pointer none, .slice none 0 0] -> Blk W' vb 35 #[.int .i64 c, .int .i64 d] ->
    Calls Tryz.prog 52 #[.pointer (some ⟨bt, 0, none⟩), .string s, .pointer (some ⟨q, 0, none⟩), .slice (some ⟨vb, 0, none⟩) 1 1] W' fun e w' => e = .returned (.int .i64 E) /\ Below W.heap.size W w' := fun W' h1 q vb h2 h3 h4 => (hcall W' h1 q vb h2 h3 h4).mono (fun e w' hm => ⟨hm.1, hm.2.1 hE⟩)
  have hans := fun w => qgg (w := w) (bt := bt) hE
  clear hcall hans0
  go_enter Tryz.func27, Tryz.ntmps27
  go_wp2
  go_region_with (first
   | (go_at_call 54; refine (qee _ _ _).mono ?_; rintro e w1 ⟨rfl, hw1⟩; subst hw1)
   | (go_at_call 52; refine Calls.mono (hcall2 _ ?_ _ _ ?_ ?_ ?_) ?_; (focus exact bel1); (focus (first | omega | (simp <;> omega))); (focus exact blk1); (focus exact blk1); rintro e w3 ⟨rfl, hM⟩)
   | (go_at_call 51; refine (hans _).mono ?_; rintro e w4 ⟨rfl, hw4⟩; subst hw4))
  all_goals go_wp2
  all_goals exact bodyPost_ret (v := .tuple #[.slice none 0 0, .int .i64 E]) (by simp [results, Tryz.results27, go_sem]) rfl (.inl ⟨hE, rfl, by exact bel2⟩)
end Go.Proofs.YtphclnolomgjoaaGreatDoor
