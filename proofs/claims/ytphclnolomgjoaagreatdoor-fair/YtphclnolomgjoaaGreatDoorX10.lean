import Derived.Test.YtphclnolomgjoaaGreatDoorX09
import Derived.Test.YtphclnolomgjoaaGreatDoorB37
import Derived.Test.YtphclnolomgjoaaGreatDoorX01
import Derived.BigQuiet
set_option linter.unusedVariables false
set_option linter.unusedSimpArgs false
namespace Go.Proofs.YtphclnolomgjoaaGreatDoor
open Go.RowKit
section
variable {F G : Nat → Prop} {W w' : World} {rb : Nat} {R : KR} {P : Nat → Prop} {bt : Nat} {vp vw vl : Value}
theorem RunM.fo' (h : RunM F W rb R P bt vp vw vl) {T : Nat → Prop} (hk : Keep T W w') (hT : ∀ b, T b → F b) (hG : ∀ b, G b → F b ∨ W.heap.size ≤ b) (hG2 : ∀ b, G b → b < w'.heap.size) : RunM G w' rb R P bt vp vw vl := by
  have h2 := h.keep hk (fun b hb e => h.lo b hb (hT b e))
  have hlt : ∀ b, (P b ∨ b = rb ∨ vp.ownBlock = some b ∨ vw.ownBlock = some b ∨ vl.ownBlock = some b) → b < W.heap.size := fun b hb => by
    rcases hb with hb | rfl | hb | hb | hb
    · exact h.tw.lt b hb
    · exact h.at_.lt
    · exact qap h.prow hb
    · exact qap h.wrow hb
    · exact qap h.lrow hb
  refine ⟨h2.tw, h2.at_, h2.prow, h2.wrow, h2.lrow, h2.nP, fun b hb e => ?_, hG2, h2.ne, h2.pw, h2.wl⟩
  rcases hG b e with e | e
  · exact h.lo b hb e
  · have := hlt b hb; omega
end
def evOf (l : List (Int × Int)) : List Int := (l.filter fun e => e.1 == 2).map (·.2)
theorem evOf_snoc (l : List (Int × Int)) (c m : Int) : evOf (l ++ [(c, m)]) = evOf l ++ (if c = 2 then [m] else []) := by
  unfold evOf
  rw [List.filter_append]
  by_cases h : c = 2
  · simp [h]
  · simp [h]
theorem mem_evOf {l : List (Int × Int)} {m : Int} : m ∈ evOf l ↔ (2, m) ∈ l := by
  unfold evOf
  simp only [List.mem_map, List.mem_filter, beq_iff_eq]
  constructor
  · rintro ⟨⟨a, b⟩, ⟨h1, h2⟩, h3⟩
    simp only at h2 h3
    subst h2 h3
    exact h1
  · intro h
    exact ⟨(2, m), ⟨h, rfl⟩, rfl⟩
theorem evOf_len (l : List (Int × Int)) : (evOf l).length ≤ l.length := by
  unfold evOf
  rw [List.length_map]
  exact List.length_filter_le _ _
def iCells (l : List Int) : List Value := l.map fun n => .int .i64 n
structure LinM (N : Nat) (W : World) (rb : Nat) (R : KR) (bt : Nat) (vp vw vl v : Value) (ev : List Int) : Prop where
  run : ∃ P, RunM (fun b => b < N ∨ v.ownBlock = some b) W rb R P bt vp vw vl
  row : W.ownsRow 0 3 1 v ev.length (iCells ev)
  new : ∀ b, v.ownBlock = some b → N ≤ b
  le : N ≤ W.heap.size
section
variable {N : Nat} {W w' : World} {rb : Nat} {R : KR} {bt : Nat} {vp vw vl v : Value} {ev : List Int}
theorem LinM.below (h : LinM N W rb R bt vp vw vl v ev) (hb : Below W.heap.size W w') : LinM N w' rb R bt vp vw vl v ev := by
  obtain ⟨P, hR⟩ := h.run
  exact ⟨⟨P, hR.below hb⟩, qfq h.row hb, h.new, Nat.le_trans h.le hb.size⟩
theorem LinM.app (h : LinM N W rb R bt vp vw vl v ev) (hl : ev.length ≤ 100000) (m : Int) (nb : Nat) {t : TypeId} (hnb : Blk W nb t #[.int .i64 m]) :
    ∃ v' w', (∀ ty, (Builtin.append_ #[25, 25] ty #[v, .slice (some ⟨nb, 0, none⟩) 1 1]).run Tryz.prog W = .ok v' w') ∧ ∃ a c, v' = .slice a (ev.length + 1) c ∧ ev.length + 1 ≤ c ∧ c ≤ maxLen ∧ Hid (LinM N w' rb R bt vp vw vl v' (ev ++ [m]) ∧ Below N W w') := by
  obtain ⟨v', w', hr, g', cap', rfl, A⟩ := qey un29 inf3 (by omega) W v ev.length (iCells ev) h.row nb 1 1 (by omega) [.int .i64 m] rfl hnb (fun u hu => by simp at hu; subst hu; rfl) (by unfold maxLen; omega) (by omega)
  obtain ⟨P, hR⟩ := h.run
  have hlt : g' < w'.heap.size := qap A.own rfl
  refine ⟨_, w', hr, _, cap', rfl, A.le, A.mx, ⟨⟨P, hR.fo' A.keep (fun b e => .inr e) (fun b e => ?_) (fun b e => ?_)⟩, ?_, fun b e => ?_, Nat.le_trans h.le A.keep.size⟩, ?_⟩
  · rcases e with e | e
    · exact .inl (.inl e)
    · simp [Value.ownBlock] at e
      subst e
      rcases A.new with e2 | e2
      · exact .inl (.inr e2)
      · exact .inr e2
  · rcases e with e | e
    · have := h.le; have := A.keep.size; omega
    · simp [Value.ownBlock] at e
      omega
  · have := A.own
    simp only [iCells, List.map_append, List.map_cons, List.map_nil, List.length_append, List.length_cons, List.length_nil]
    exact this
  · simp [Value.ownBlock] at e
    subst e
    rcases A.new with e2 | e2
    · exact h.new _ e2
    · have := h.le; omega
  · exact ⟨A.keep.os, A.keep.tape, A.keep.output, A.keep.size, fun k hk => A.keep.block k (by have := h.le; omega) (fun e => by have := h.new k e; omega)⟩
theorem LinM.num (h : LinM N W rb R bt vp vw vl v ev) {i : Nat} (hi : i < ev.length) : ∃ g, (∃ c, v = .slice (some ⟨g, 0, none⟩) ev.length c) ∧ g < W.heap.size ∧ W.cell? ⟨g, i, none⟩ = some (.int .i64 ev[i]) := by
  obtain ⟨g, c, rfl, h1, h2⟩ := qa9 h.row (by omega)
  have := h.row.cells (g := g) rfl i (.int .i64 ev[i]) (by unfold iCells; rw [List.getElem?_map, List.getElem?_eq_getElem hi]; rfl)
  rw [Addr.add_lit, Nat.zero_add] at this
  exact ⟨g, ⟨c, rfl⟩, qap h.row rfl, this⟩
theorem LinM.lasts (h : LinM N W rb R bt vp vw vl v ev) : ∃ al cl, vl = .slice al R.last.length cl ∧ R.last.length ≤ cl ∧ cl ≤ maxLen ∧ W.cell? ⟨rb, 4, none⟩ = some (.slice al R.last.length cl) ∧ rb < W.heap.size ∧ ∀ i e, R.last[i]? = some e → ∃ g, al = some ⟨g, 0, none⟩ ∧ g < W.heap.size ∧ W.cell? ⟨g, i * 2, none⟩ = some (.int .i64 e.1) ∧ W.cell? ⟨g, i * 2 + 1, none⟩ = some (.int .i64 e.2) := by
  obtain ⟨P, hR⟩ := h.run
  obtain ⟨al, cl, hvl, h1, h2⟩ := qa7 hR.lrow
  have c4 := hR.at_.cell 4
  simp only [List.getElem?_toArray, List.getElem?_cons_zero, List.getElem?_cons_succ] at c4
  have hr := hR.lrow
  rw [hvl] at c4 hr
  exact ⟨al, cl, hvl, h1, h2, c4, hR.at_.lt, qo8 hr⟩
theorem LinM.wks (h : LinM N W rb R bt vp vw vl v ev) : ∃ aw cw, vw = .slice aw R.works.length cw ∧ R.works.length ≤ cw ∧ cw ≤ maxLen ∧ W.cell? ⟨rb, 2, none⟩ = some (.slice aw R.works.length cw) ∧ rb < W.heap.size ∧ ∀ i x, R.works[i]? = some x → ∃ g, aw = some ⟨g, 0, none⟩ ∧ g < W.heap.size ∧ W.cell? ⟨g, i * 6, none⟩ = some (.int .i64 x.num) ∧ W.cell? ⟨g, i * 6 + 1, none⟩ = some (.int .i64 x.leaf) ∧ W.cell? ⟨g, i * 6 + 2, none⟩ = some (.int .i64 x.d0) ∧ W.cell? ⟨g, i * 6 + 3, none⟩ = some (.int .i64 x.d1) ∧ W.cell? ⟨g, i * 6 + 4, none⟩ = some (.bool x.inn) ∧ W.cell? ⟨g, i * 6 + 5, none⟩ = some (.int .i64 x.qav) := by
  obtain ⟨P, hR⟩ := h.run
  obtain ⟨aw, cw, hvw, h1, h2⟩ := qa7 hR.wrow
  have c2 := hR.at_.cell 2
  simp only [List.getElem?_toArray, List.getElem?_cons_zero, List.getElem?_cons_succ] at c2
  rw [hvw] at c2
  refine ⟨aw, cw, hvw, h1, h2, c2, hR.at_.lt, fun i x hx => ?_⟩
  obtain ⟨g, c, e, hg, _, _, _, p0, p1, p2, p3, p4, p5⟩ := hR.tk.cells hx
  rw [hvw] at e
  injection e with e1
  exact ⟨g, e1, hg, p0, p1, p2, p3, p4, p5⟩
end
theorem lin_fresh (len : Nat) (q : Nat → Int) : LinI (fun m => m ∈ ([] : List Int)) (frR len q 8) :=
  ⟨⟨fun x hx => (by cases hx), List.Pairwise.nil⟩, fun m hm => (by cases hm), fun m hm => (by cases hm), by simp [frR]⟩
theorem lined_calls {N : Nat} {wr : World} {rb k : Nat} {v : Value} {ev : List Int} {s : Stp} (h : ∃ R bt vp vw vl, RunI k R ∧ LinM N wr rb R bt vp vw vl v ev ∧ LinI (fun m => m ∈ ev) R) (hk : k < 50) (h1 : I64 s.k) (h2 : I64 s.a) (h3 : I64 s.b) (h4 : I64 s.c) :
    Calls Tryz.prog 17 #[.pointer (some ⟨rb, 0, none⟩), .agg #[.int .i64 s.k, .int .i64 s.a, .int .i64 s.b, .int .i64 s.c]] wr fun e w' => e = .returned (.bool true) ∧ Hid (∃ R bt vp vw vl, RunI (k + 1) R ∧ LinM N w' rb R bt vp vw vl v ev ∧ LinI (fun m => m ∈ ev ∨ (2, m) ∈ R.last) R) ∧ Below N wr w' := by
  obtain ⟨R, bt, vp, vw, vl, hI, hM, hL⟩ := h
  obtain ⟨P, hR⟩ := hM.run
  have hA : qau (fun b => b < N ∨ v.ownBlock = some b) wr rb R := ⟨_, _, _, _, _, hR⟩
  obtain ⟨nodes, K⟩ := hA.kinv
  obtain ⟨R', hS, hI', hc⟩ := q0o hA hI (by omega) h1 h2 h3 h4
  refine hc.mono ?_
  rintro e w' ⟨rfl, g1, g2⟩
  obtain ⟨nodes', K'⟩ := g1.kinv
  have hL' := hL.step hI K hI' K' hS
  obtain ⟨P', bt', vp', vw', vl', g1⟩ := g1
  refine ⟨rfl, ⟨R', bt', vp', vw', vl', hI', ⟨⟨P', g1⟩, qaf hM.row g2 (fun b hb e => e (.inr hb)), hM.new, Nat.le_trans hM.le g2.size⟩, hL'⟩, ⟨g2.os, g2.tape, g2.output, g2.size, fun b hb => g2.block b (by have := hM.le; omega) (fun e => e (.inl hb))⟩⟩
end Go.Proofs.YtphclnolomgjoaaGreatDoor
