import Derived.Test.YtphclnolomgjoaaGreatDoorX17
import Derived.Test.YtphclnolomgjoaaGreatDoorX10
import Derived.Test.YtphclnolomgjoaaGreatDoorB37
import Derived.Test.YtphclnolomgjoaaGreatDoorX01
import Derived.BigQuiet
set_option linter.unusedVariables false
set_option linter.unusedSimpArgs false
namespace Go.Proofs.YtphclnolomgjoaaGreatDoor
open Go.RowKit
structure WrkM (N : Nat) (W : World) (rb : Nat) (R : KR) (bt : Nat) (vp vw vl v : Value) (ws : List KW) : Prop where
  run : ∃ P, RunM (fun b => b < N ∨ v.ownBlock = some b) W rb R P bt vp vw vl
  row : W.ownsRow 0 41 6 v ws.length (qak ws)
  new : ∀ b, v.ownBlock = some b → N ≤ b
  le : N ≤ W.heap.size
section
variable {N : Nat} {W w' : World} {rb : Nat} {R : KR} {P : Nat → Prop} {bt : Nat} {vp vw vl v : Value} {ws : List KW}
theorem WrkM.below (h : WrkM N W rb R bt vp vw vl v ws) (hb : Below W.heap.size W w') : WrkM N w' rb R bt vp vw vl v ws := by
  obtain ⟨P, hR⟩ := h.run
  exact ⟨⟨P, hR.below hb⟩, qfq h.row hb, h.new, Nat.le_trans h.le hb.size⟩
theorem wrk_copy (h : RunM (fun b => b < N) W rb R P bt vp vw vl) (hN : N ≤ W.heap.size) (h24 : R.works.length ≤ 24) {aw : Option Addr} {cw : Nat} (hvw : vw = .slice aw R.works.length cw) :
    ∃ v' w', (∀ ty, (Builtin.append_ #[47, 47] ty #[.slice none 0 0, .slice aw R.works.length cw]).run Tryz.prog W = .ok v' w') ∧ ∃ a c, v' = .slice a R.works.length c ∧ R.works.length ≤ c ∧ c ≤ maxLen ∧ w'.cell? ⟨rb, 2, none⟩ = some (.slice aw R.works.length cw) ∧ Below W.heap.size W w' ∧ Hid (WrkM N w' rb R bt vp vw vl (.slice a R.works.length c) R.works) := by
  have happ := qr1 un47 qxn (by omega) W none 0 0 (Nat.le_refl _) (Nat.zero_le _) [] (World.ownsRow_nil _ _ _ _) aw R.works.length cw (qak R.works) (by rw [qh0])
    (fun hm => by
      have hr := h.wrow
      obtain ⟨g, c, e, _, _⟩ := qa9 hr hm
      rw [hvw] at e hr
      injection e with e1
      subst e1
      exact ⟨_, rfl, fun j u hu => hr.cells (g := g) rfl j u hu⟩) (qn7 _) (by unfold maxLen; omega) (by omega)
  simp only [Nat.zero_add, List.nil_append] at happ
  obtain ⟨v', w', hr, a, c, rfl, A⟩ := happ
  have hb : Below W.heap.size W w' := ⟨A.keep.os, A.keep.tape, A.keep.output, A.keep.size, fun k hk => A.keep.block k hk (by simp [Value.ownBlock])⟩
  have hnew : ∀ b, (Value.slice a R.works.length c).ownBlock = some b → W.heap.size ≤ b := fun b hb => by
    rcases A.new b hb with e | e
    · simp [Value.ownBlock] at e
    · exact e
  have c2 := (h.below hb).at_.cell 2
  simp only [List.getElem?_toArray, List.getElem?_cons_zero, List.getElem?_cons_succ] at c2
  rw [hvw] at c2
  refine ⟨_, w', hr, a, c, rfl, A.le, A.mx, c2, hb, ⟨P, h.fo' (Keep.new (T := fun _ => False) hb) (fun b e => e.elim) (fun b e => ?_) (fun b e => ?_)⟩, A.own, fun b e => Nat.le_trans hN (hnew b e), Nat.le_trans hN hb.size⟩
  · rcases e with e | e
    · exact .inl e
    · exact .inr (hnew b e)
  · rcases e with e | e
    · have := hb.size; omega
    · exact qap A.own e
theorem WrkM.app (h : WrkM N W rb R bt vp vw vl v ws) (h24 : ws.length ≤ 24) (x : KW) (nb : Nat) (hnb : Blk W nb 41 #[.int .i64 x.num, .int .i64 x.leaf, .int .i64 x.d0, .int .i64 x.d1, .bool x.inn, .int .i64 x.qav]) :
    ∃ v' w', (∀ ty, (Builtin.append_ #[47, 47] ty #[v, .slice (some ⟨nb, 0, none⟩) 1 1]).run Tryz.prog W = .ok v' w') ∧ ∃ a c, v' = .slice a (ws.length + 1) c ∧ Hid (WrkM N w' rb R bt vp vw vl (.slice a (ws.length + 1) c) (ws ++ [x]) ∧ Below N W w') := by
  obtain ⟨v', w', hr, g', cap', rfl, A⟩ := qey un47 qxn (by omega) W v ws.length (qak ws) h.row nb 1 1 (by omega) (qak [x]) rfl (by simpa [qak, qbz] using hnb) (qn7 _) (by unfold maxLen; omega) (by omega)
  obtain ⟨P, hR⟩ := h.run
  have hlt : g' < w'.heap.size := qap A.own rfl
  refine ⟨_, w', hr, _, cap', rfl, ⟨⟨P, hR.fo' A.keep (fun b e => .inr e) (fun b e => ?_) (fun b e => ?_)⟩, ?_, fun b e => ?_, Nat.le_trans h.le A.keep.size⟩, ?_⟩
  · rcases e with e | e
    · exact .inl (.inl e)
    · simp [Value.ownBlock] at e
      subst e
      rcases A.new with e2 | e2
      · exact .inl (.inr e2)
      · exact .inr e2
  · rcases e with e | e
    · have := h.le; have := A.keep.size; omega
    · simp [Value.ownBlock] at e
      omega
  · have := A.own
    rw [qfi]
    simp only [List.length_append, List.length_cons, List.length_nil]
    exact this
  · simp [Value.ownBlock] at e
    subst e
    rcases A.new with e2 | e2
    · exact h.new _ e2
    · have := h.le; omega
  · exact ⟨A.keep.os, A.keep.tape, A.keep.output, A.keep.size, fun k hk => A.keep.block k (by have := h.le; omega) (fun e => by have := h.new k e; omega)⟩
theorem WrkM.done (h : WrkM N W rb R bt vp vw vl v ws) (hk : Keep (fun b => v.ownBlock = some b) W w') : qau (fun b => b < N) w' rb R ∧ Below N W w' := by
  obtain ⟨P, hR⟩ := h.run
  refine ⟨⟨P, bt, vp, vw, vl, hR.fo' hk (fun b e => .inr e) (fun b e => .inl (.inl e)) (fun b e => ?_)⟩, ⟨hk.os, hk.tape, hk.output, hk.size, fun k hk' => hk.block k (by have := h.le; omega) (fun e => by have := h.new k e; omega)⟩⟩
  have := h.le
  have := hk.size
  omega
end
theorem fair_calls {N : Nat} {wr : World} {rb k : Nat} {R : KR} {bt : Nat} {vp vw vl v : Value} {ws : List KW} {s : Stp} (hI : RunI k R) (hM : WrkM N wr rb R bt vp vw vl v ws) (hk : k < 50) (h1 : I64 s.k) (h2 : I64 s.a) (h3 : I64 s.b) (h4 : I64 s.c) :
    Calls Tryz.prog 17 #[.pointer (some ⟨rb, 0, none⟩), .agg #[.int .i64 s.k, .int .i64 s.a, .int .i64 s.b, .int .i64 s.c]] wr fun e w' => e = .returned (.bool true) ∧ Hid (∃ R' bt vp vw vl, RunI (k + 1) R' ∧ WrkM N w' rb R' bt vp vw vl v ws ∧ qyi R s.k s.a s.b s.c R') ∧ Below N wr w' := by
  obtain ⟨P, hR⟩ := hM.run
  have hA : qau (fun b => b < N ∨ v.ownBlock = some b) wr rb R := ⟨_, _, _, _, _, hR⟩
  obtain ⟨R', hS, hI', hc⟩ := q0o hA hI (by omega) h1 h2 h3 h4
  refine hc.mono ?_
  rintro e w' ⟨rfl, g1, g2⟩
  obtain ⟨P', bt', vp', vw', vl', g1⟩ := g1
  refine ⟨rfl, ⟨R', bt', vp', vw', vl', hI', ⟨⟨P', g1⟩, qaf hM.row g2 (fun b hb e => e (.inr hb)), hM.new, Nat.le_trans hM.le g2.size⟩, hS⟩, ⟨g2.os, g2.tape, g2.output, g2.size, fun b hb => g2.block b (by have := hM.le; omega) (fun e => e (.inl hb))⟩⟩
end Go.Proofs.YtphclnolomgjoaaGreatDoor
