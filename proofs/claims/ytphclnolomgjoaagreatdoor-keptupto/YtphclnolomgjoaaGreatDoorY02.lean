import Derived.Test.YtphclnolomgjoaaGreatDoorY01
import Derived.Test.YtphclnolomgjoaaGreatDoorB37
import Derived.Test.YtphclnolomgjoaaGreatDoorB32
set_option linter.unusedVariables false
set_option linter.unusedSimpArgs false
namespace Go.Proofs.YtphclnolomgjoaaGreatDoor
open Go.ChangeShapes Go.WideShapes Go.ChangeAt Go.RowKit
theorem qk4 : Tryz.prog.cellsOf 32 = 4 := by kernel_rfl
section
variable {H : Type} {enc : TypeId × Value → H} {w : World} {base : Nat} {spare : Nat → Bool} {held : Bool}
theorem wf64 {n : Int} (h : Lit.wf (.int .i64 n) = true) : I64 n := by
  simp only [Lit.wf, Bool.and_eq_true, decide_eq_true_eq] at h
  rw [show IntKind.i64.min = -9223372036854775808 by decide, show IntKind.i64.max = 9223372036854775807 by decide] at h
  exact h
theorem open_int {fuel : Nat} {cs : List Value} {x : DataW H × List MemPlace} (h : DataW.trod enc Tryz.prog w base spare held fuel 3 cs = some x) : ∃ n, cs = [.int .i64 n] ∧ I64 n := by
  obtain ⟨n, e, _, wt⟩ := DataW.trod_int Tryz.underlying3 h
  exact ⟨n, e, wf64 wt⟩
theorem open_ints {fuel : Nat} {v : Value} {d : DataW H} {ps : List MemPlace} (h : DataW.trod enc Tryz.prog w 0 spare held fuel 25 v.cells.toList = some (d, ps)) (hv : v.cells.toList = [v]) :
    ∃ ao len cap q, v = .slice ao len cap ∧ len ≤ cap ∧ cap ≤ maxLen ∧ QIn w ao len q := by
  rw [hv] at h
  rcases Deep.open_slice Tryz.underlying25 h with ⟨hc, hx⟩ | ⟨a, len, cap, m, n, D, Pl, hc, _, hl, hm, hmm, hx, hel⟩
  · simp at hc hx
    exact ⟨none, 0, 0, fun _ => 0, hc, Nat.le_refl _, Nat.zero_le _, fun i hi => by omega⟩
  · have hlm : len ≤ m := by rw [hmm]; split <;> omega
    obtain ⟨q, hq⟩ := Deep.choose_lt (α := Int) (n := len) (p := fun i o => w.cell? (a.add (i * 1 + 0)) = some (.int .i64 o) ∧ I64 o) (fun i hi => by
      obtain ⟨cs', h1, h2⟩ := hel i (by omega)
      rw [qo4] at h1
      obtain ⟨_, hlen, hcell⟩ := World.cells?_some h1
      obtain ⟨o, rfl, ho⟩ := open_int h2
      refine ⟨o, ?_, ho⟩
      have := hcell 0 (by omega)
      rw [Deep.add_add] at this
      rw [this]; rfl)
    refine ⟨some a, len, cap, q, by simpa using hc, hl, hm, fun i hi => ?_⟩
    have h0 := (hq 0 (by omega)).1
    have hsp := World.cell?_spot h0
    have hal : a.block < w.heap.size := by
      rcases Nat.lt_or_ge a.block w.heap.size with h | h
      · exact h
      · rw [World.cell?] at h0; simp [Addr.add, Array.getElem?_eq_none h] at h0
    obtain ⟨b, off, sp⟩ := a
    simp [Addr.add] at hsp
    subst hsp
    have hh := (hq i hi).1
    rw [Addr.add_lit] at hh
    refine ⟨b, off, rfl, hal, ?_, (hq i hi).2⟩
    simpa using hh
theorem qtj {P : Program} {fs : Array Field} (u32 : P.underlying 32 = some (.struct fs)) (hfs : (fs.map fun f => (f.type, f.offset)) = #[(3, 0), (3, 1), (3, 2), (3, 3)]) (u3 : P.underlying 3 = some (.int .i64)) (qk4 : P.cellsOf 32 = 4) (qo4 : P.cellsOf 3 = 1) {fuel : Nat} {cs : List Value} {x : DataW H × List MemPlace} (h : DataW.trod enc P w base spare held fuel 32 cs = some x) :
    ∃ o : Stp, cs = [.int .i64 o.k, .int .i64 o.a, .int .i64 o.b, .int .i64 o.c] ∧ I64 o.k ∧ I64 o.a ∧ I64 o.b ∧ I64 o.c := by
  obtain ⟨xs, k, rfl, rfl, hl, hx, hf⟩ := DataW.trod_struct u32 h
  rw [qk4] at hl
  have hsz : fs.size = 4 := by have := congrArg Array.size hfs; simpa using this
  rw [hsz] at hx
  have hf' : ∀ (i : Nat) (t off : Nat), (#[(3, 0), (3, 1), (3, 2), (3, 3)] : Array (Nat × Nat))[i]? = some (t, off) → DataW.trod enc P w base spare held k t ((cs.drop off).take (P.cellsOf t)) = xs[i]? := fun i t off hi => by
    rw [← hfs, Array.getElem?_map] at hi
    obtain ⟨f, h1, h2⟩ := Option.map_eq_some_iff.1 hi
    simp only [Prod.mk.injEq] at h2
    rw [← h2.1, ← h2.2]
    exact hf i f h1
  match cs, hl, xs, hx with
  | [v0, v1, v2, v3], _, [y0, y1, y2, y3], _ =>
    have g0 := hf' 0 _ _ rfl
    have g1 := hf' 1 _ _ rfl
    have g2 := hf' 2 _ _ rfl
    have g3 := hf' 3 _ _ rfl
    simp [qo4] at g0 g1 g2 g3
    obtain ⟨k0, e0, _, w0⟩ := DataW.trod_int u3 g0
    obtain ⟨k1, e1, _, w1⟩ := DataW.trod_int u3 g1
    obtain ⟨k2, e2, _, w2⟩ := DataW.trod_int u3 g2
    obtain ⟨k3, e3, _, w3⟩ := DataW.trod_int u3 g3
    simp at e0 e1 e2 e3
    subst e0 e1 e2 e3
    exact ⟨⟨k0, k1, k2, k3⟩, rfl, wf64 w0, wf64 w1, wf64 w2, wf64 w3⟩
theorem qq9 {fuel : Nat} {v : Value} {d : DataW H} {ps : List MemPlace} (h : DataW.trod enc Tryz.prog w 0 spare held fuel 26 v.cells.toList = some (d, ps)) (hv : v.cells.toList = [v]) :
    ∃ ao len cap S, v = .slice ao len cap ∧ len ≤ cap ∧ cap ≤ maxLen ∧ StIn w ao len S := by
  rw [hv] at h
  rcases Deep.open_slice Tryz.underlying26 h with ⟨hc, hx⟩ | ⟨a, len, cap, m, n, D, Pl, hc, _, hl, hm, hmm, hx, hel⟩
  · simp at hc hx
    exact ⟨none, 0, 0, fun _ => ⟨0, 0, 0, 0⟩, hc, Nat.le_refl _, Nat.zero_le _, fun i hi => by omega⟩
  · have hlm : len ≤ m := by rw [hmm]; split <;> omega
    have : Inhabited Stp := ⟨⟨0, 0, 0, 0⟩⟩
    obtain ⟨S, hS⟩ := Deep.choose_lt (α := Stp) (n := len) (p := fun i o => (w.cell? (a.add (i * 4 + 0)) = some (.int .i64 o.k) ∧ w.cell? (a.add (i * 4 + 1)) = some (.int .i64 o.a) ∧ w.cell? (a.add (i * 4 + 2)) = some (.int .i64 o.b) ∧ w.cell? (a.add (i * 4 + 3)) = some (.int .i64 o.c)) ∧ I64 o.k ∧ I64 o.a ∧ I64 o.b ∧ I64 o.c) (fun i hi => by
      obtain ⟨cs', h1, h2⟩ := hel i (by omega)
      rw [qk4] at h1
      obtain ⟨_, hlen, hcell⟩ := World.cells?_some h1
      obtain ⟨o, rfl, ho⟩ := qtj Tryz.underlying32 (by kernel_rfl) Tryz.underlying3 qk4 qo4 h2
      have hc : ∀ j, j < 4 → w.cell? (a.add (i * 4 + j)) = [Value.int .i64 o.k, .int .i64 o.a, .int .i64 o.b, .int .i64 o.c][j]? := fun j hj => by
        have := hcell j hj
        rw [Deep.add_add] at this
        exact this
      exact ⟨o, ⟨hc 0 (by omega), hc 1 (by omega), hc 2 (by omega), hc 3 (by omega)⟩, ho⟩)
    refine ⟨some a, len, cap, S, by simpa using hc, hl, hm, fun i hi => ?_⟩
    have h0 := (hS 0 (by omega)).1.1
    have hsp := World.cell?_spot h0
    have hal : a.block < w.heap.size := by
      rcases Nat.lt_or_ge a.block w.heap.size with h | h
      · exact h
      · rw [World.cell?] at h0; simp [Addr.add, Array.getElem?_eq_none h] at h0
    obtain ⟨b, off, sp⟩ := a
    simp [Addr.add] at hsp
    subst hsp
    have hh := (hS i hi).1
    simp only [Addr.add_lit] at hh
    exact ⟨b, off, rfl, hal, by simpa using hh.1, hh.2.1, hh.2.2.1, hh.2.2.2, (hS i hi).2⟩
end
end Go.Proofs.YtphclnolomgjoaaGreatDoor
