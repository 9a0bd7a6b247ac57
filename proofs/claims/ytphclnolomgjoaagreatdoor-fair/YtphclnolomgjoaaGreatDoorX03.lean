import Derived.Test.YtphclnolomgjoaaGreatDoorX01
import Derived.Test.YtphclnolomgjoaaGreatDoorB37
set_option linter.unusedVariables false
set_option linter.unusedSimpArgs false
namespace Go.Proofs.YtphclnolomgjoaaGreatDoor
open Go.RowKit
section
variable {F : Nat → Prop} {W : World} {rb : Nat} {R : KR} {n : Nat} {nodes : List Node}
set_option maxRecDepth 100000 in
set_option maxHeartbeats 4000000 in
theorem kfind (h : qau F W rb R) (hw24 : R.works.length ≤ 24) {q : Nat} {x : KW} (hx : R.works[q]? = some x) (hf : ∀ j y, j < q → R.works[j]? = some y → y.num ≠ x.num) :
    Calls Tryz.prog 20 #[.pointer (some ⟨rb, 0, none⟩), .int .i64 x.num] W fun e w' => e = .returned (.tuple #[.agg #[.int .i64 x.num, .int .i64 x.leaf, .int .i64 x.d0, .int .i64 x.d1, .bool x.inn, .int .i64 x.qav], .bool true]) ∧ Below W.heap.size W w' := by
  obtain ⟨P, bt, vp, vw, vl, h⟩ := h
  have hql := (List.getElem?_eq_some_iff.1 hx).1
  obtain ⟨g, c, hvw, hg, hgn, hc1, hc2, p0, p1, p2, p3, p4, p5⟩ := h.tk.cells hx
  have HC : Hid (∀ j, j < q → ∃ y : Int, W.cell? ⟨g, j * 6, none⟩ = some (.int .i64 y) ∧ y ≠ x.num) := fun j hj => by
    obtain ⟨y, hy⟩ : ∃ y, R.works[j]? = some y := ⟨_, List.getElem?_eq_getElem (by omega)⟩
    obtain ⟨g', c', hvw', _, _, _, _, r0, _⟩ := h.tk.cells hy
    rw [hvw] at hvw'
    injection hvw' with e1
    injection e1 with e1
    injection e1 with e1
    subst e1
    exact ⟨y.num, r0, hf j y hj hy⟩
  have c2 := h.at_.cell 2
  simp only [List.getElem?_toArray, List.getElem?_cons_zero, List.getElem?_cons_succ] at c2
  rw [hvw] at c2
  have hrl := h.at_.lt
  clear h hx hf
  generalize R.works.length = nv at *
  obtain ⟨num, leaf, d0, d1, inn, qav⟩ := x
  simp only at *
  go_enter Tryz.func20, Tryz.ntmps20
  go_wp2
  go_loopw [6] (fun i wr => ∃ k : Nat, k ≤ q ∧ i = .int .i64 k ∧ Below W.heap.size W wr ∧ Blk wr W.heap.size 41 #[.int .i64 0, .int .i64 0, .int .i64 0, .int .i64 0, .bool false, .int .i64 0]) (fun i _ => q - (intOf i).toNat)
  case atStart => exact ⟨0, Nat.zero_le _, rfl, by exact bel2, by exact blk2⟩
  case round =>
    obtain ⟨k, hk, rfl, hB, hb⟩ := hrel
    have r2 := (hB.cell (p := ⟨rb, 2, none⟩) hrl).trans c2
    have hki : (k : Int) < nv := by omega
    have hki0 : (0 : Int) ≤ k := by omega
    by_cases hkq : k < q
    · obtain ⟨y, hy, hyn⟩ := HC.out k hkq
      have r0 := (hB.cell (p := ⟨g, k * 6, none⟩) hg).trans hy
      go_wp2_with fail
      exact ⟨⟨k + 1, by omega, by go_num, hB, hb⟩, by simp [intOf]; omega⟩
    · obtain rfl : k = q := by omega
      have hbc := fun (a : Nat) => hB.cell (p := ⟨g, a, none⟩) hg
      have r0 := (hbc _).trans p0
      have r1 := (hbc _).trans p1
      have r3 := (hbc _).trans p2
      have r4 := (hbc _).trans p3
      have r5 := (hbc _).trans p4
      have r6 := (hbc _).trans p5
      have f0 := hb.frozen
      have z0 := hb.cell
      have hl := hb.lt
      clear hbc p0 p1 p2 p3 p4 p5
      go_wp2_with fail
      have hb6 := (((((hb.set 0 (.int .i64 num)).set 1 (.int .i64 leaf)).set 2 (.int .i64 d0)).set 3 (.int .i64 d1)).set 4 (.bool inn)).set 5 (.int .i64 qav)
      have hc := hb6.cell
      clear z0 f0
      refine bodyPost_ret (v := .tuple #[.agg #[.int .i64 num, .int .i64 leaf, .int .i64 d0, .int .i64 d1, .bool inn, .int .i64 qav], .bool true]) ?_ rfl ⟨rfl, by exact bel2⟩
      simp [results, Tryz.results20, go_sem, hc]
end
end Go.Proofs.YtphclnolomgjoaaGreatDoor
