import Derived.Test.YtepneihjhcakhaaGreatDoorPlayA
import Derived.Test.YtepneihjhcakhaaGreatDoorCards
import Derived.Test.YtepneihjhcakhaaGreatDoorTie
import Derived.WalkKit
import Derived.ProofKit
import Derived.OpenShut
import Derived.Deep.Slices
import Derived.Deep.DeepHandedRow
namespace Go.Proofs.YtepneihjhcakhaaGreatDoor
open Go.ChangeShapes Go.WideShapes Go.ChangeAt Go.RowKit

theorem bulk_one_le {H : Type} (d : DataW H) : 1 ≤ Rows.uptoBulk d := by
  cases d with
  | lit l => cases l <;> simp [Rows.uptoBulk]
  | nil => simp [Rows.uptoBulk]
  | ptr d => simp [Rows.uptoBulk]
  | slice elems spare => simp [Rows.uptoBulk]
  | agg parts => simp [Rows.uptoBulk]
  | iface t d => simp [Rows.uptoBulk]
  | map entries => simp [Rows.uptoBulk]
  | held h => simp [Rows.uptoBulk]

theorem bulk_part {H : Type} {d : DataW H} {l : List (DataW H)} (h : d ∈ l) : Rows.uptoBulk d ≤ Rows.uptoBulkAll l := by
  induction l with
  | nil => cases h
  | cons x r ih =>
    simp only [Rows.uptoBulkAll]
    cases List.mem_cons.1 h with
    | inl e => subst e; omega
    | inr e => have := ih e; omega

theorem bulk_length {H : Type} (l : List (DataW H)) : l.length ≤ Rows.uptoBulkAll l := by
  induction l with
  | nil => simp [Rows.uptoBulkAll]
  | cons x r ih => have := bulk_one_le x; simp only [Rows.uptoBulkAll, List.length_cons]; omega

theorem cells37 : Tryz.prog.cellsOf 37 = 9 := by kernel_rfl
theorem cells35 : Tryz.prog.cellsOf 35 = 2 := by kernel_rfl
theorem cells3 : Tryz.prog.cellsOf 3 = 1 := by kernel_rfl
theorem cells9 : Tryz.prog.cellsOf 9 = 1 := by kernel_rfl

section
variable {H : Type} {enc : TypeId × Value → H} {w : World} {base : Nat} {spare : Nat → Bool} {held : Bool}

theorem two_ints {P : Program} (u35 : P.underlying 35 = some (.array 2 3)) (u3 : P.underlying 3 = some (.int .i64)) (cells35 : P.cellsOf 35 = 2) (cells3 : P.cellsOf 3 = 1) {fuel : Nat} {cs : List Value} {x : DataW H × List MemPlace} (h : DataW.trod enc P w base spare held fuel 35 cs = some x) : ∃ a b : Int, cs = [.int .i64 a, .int .i64 b] := by
  obtain ⟨xs, m, rfl, rfl, hl, hx, hf⟩ := DataW.trod_array u35 h
  rw [cells35] at hl
  match cs, hl, xs, hx with
  | [v0, v1], _, [y0, y1], _ =>
    have g0 := hf 0 (by omega)
    have g1 := hf 1 (by omega)
    simp [cells3] at g0 g1
    obtain ⟨a, e0, _⟩ := DataW.trod_int u3 g0
    obtain ⟨b, e1, _⟩ := DataW.trod_int u3 g1
    simp at e0 e1
    exact ⟨a, b, by rw [e0, e1]⟩

/-- One step, as it is read. -/
theorem open_op {P : Program} {fs : Array Field} (u37 : P.underlying 37 = some (.struct fs)) (hfs : (fs.map fun f => (f.type, f.offset)) = #[(3, 0), (3, 1), (9, 2), (9, 3), (35, 4), (35, 6), (3, 8)]) (u35 : P.underlying 35 = some (.array 2 3)) (u3 : P.underlying 3 = some (.int .i64)) (u9 : P.underlying 9 = some .string) (cells37 : P.cellsOf 37 = 9) (cells35 : P.cellsOf 35 = 2) (cells3 : P.cellsOf 3 = 1) (cells9 : P.cellsOf 9 = 1) {fuel : Nat} {cs : List Value} {x : DataW H × List MemPlace} (h : DataW.trod enc P w base spare held fuel 37 cs = some x) :
    ∃ o : OpC, cs = o.cells.toList ∧ o.s.size ≤ Rows.uptoBulk x.1 ∧ -9223372036854775808 ≤ o.t ∧ o.t ≤ 9223372036854775807 := by
  obtain ⟨xs, k, rfl, rfl, hl, hx, hf⟩ := DataW.trod_struct u37 h
  rw [cells37] at hl
  have hsz : fs.size = 7 := by have := congrArg Array.size hfs; simpa using this
  rw [hsz] at hx
  have hf' : ∀ (i : Nat) (t off : Nat), (#[(3, 0), (3, 1), (9, 2), (9, 3), (35, 4), (35, 6), (3, 8)] : Array (Nat × Nat))[i]? = some (t, off) → DataW.trod enc P w base spare held k t ((cs.drop off).take (P.cellsOf t)) = xs[i]? := fun i t off hi => by
    rw [← hfs, Array.getElem?_map] at hi
    obtain ⟨f, h1, h2⟩ := Option.map_eq_some_iff.1 hi
    simp only [Prod.mk.injEq] at h2
    rw [← h2.1, ← h2.2]
    exact hf i f h1
  match cs, hl, xs, hx with
  | [v0, v1, v2, v3, v4, v5, v6, v7, v8], _, [y0, y1, y2, y3, y4, y5, y6], _ =>
    have g0 := hf' 0 _ _ rfl
    have g1 := hf' 1 _ _ rfl
    have g2 := hf' 2 _ _ rfl
    have g3 := hf' 3 _ _ rfl
    have g4 := hf' 4 _ _ rfl
    have g5 := hf' 5 _ _ rfl
    have g6 := hf' 6 _ _ rfl
    simp [cells3, cells9, cells35] at g0 g1 g2 g3 g4 g5 g6
    obtain ⟨k0, e0, _⟩ := DataW.trod_int u3 g0
    obtain ⟨t0, e1, _, wt⟩ := DataW.trod_int u3 g1
    obtain ⟨s, e2, es, _⟩ := DataW.trod_string u9 g2
    obtain ⟨s2, e3, _⟩ := DataW.trod_string u9 g3
    obtain ⟨a0, a1, e4⟩ := two_ints u35 u3 cells35 cells3 g4
    obtain ⟨c0, c1, e5⟩ := two_ints u35 u3 cells35 cells3 g5
    obtain ⟨nm, e6, _⟩ := DataW.trod_int u3 g6
    simp at e0 e1 e2 e3 e4 e5 e6
    obtain ⟨rfl, rfl⟩ := e4
    obtain ⟨rfl, rfl⟩ := e5
    subst e0 e1 e2 e3 e6
    refine ⟨⟨k0, t0, s, s2, a0, a1, c0, c1, nm⟩, rfl, ?_, ?_⟩
    · have h1 : Rows.uptoBulk y2.1 ≤ Rows.uptoBulkAll ([y0, y1, y2, y3, y4, y5, y6].map (·.1)) := bulk_part (by simp)
      subst es
      have h2 : Rows.uptoBulk (DataW.lit (H := H) (.string s.data.toList)) = s.data.toList.length + 1 := by simp only [Rows.uptoBulk]
      rw [h2, Array.length_toList] at h1
      have h3 : s.size = s.data.size := rfl
      have h4 : ∀ l : List (DataW H), Rows.uptoBulk (.agg l) = Rows.uptoBulkAll l + 1 := fun l => by simp only [Rows.uptoBulk]
      rw [h4]
      show s.size ≤ _
      omega
    · simp only [Lit.wf, Bool.and_eq_true, decide_eq_true_eq] at wt
      rw [show IntKind.i64.min = -9223372036854775808 by decide, show IntKind.i64.max = 9223372036854775807 by decide] at wt
      exact wt

/-- A script, as it is read. -/
theorem open_script {fuel : Nat} {v : Value} {d : DataW H} {ps : List MemPlace} (h : DataW.trod enc Tryz.prog w 0 spare held fuel 22 v.cells.toList = some (d, ps)) (hv : v.cells.toList = [v]) :
    ∃ ao len cap O, v = .slice ao len cap ∧ len ≤ cap ∧ cap ≤ maxLen ∧ ScriptIn w ao len O ∧ len ≤ Rows.uptoBulk d ∧ ∀ i, i < len → (O i).s.size ≤ Rows.uptoBulk d ∧ -9223372036854775808 ≤ (O i).t ∧ (O i).t ≤ 9223372036854775807 := by
  rw [hv] at h
  rcases Deep.open_slice Tryz.underlying22 h with ⟨hc, hx⟩ | ⟨a, len, cap, m, n, D, Pl, hc, _, hl, hm, hmm, hx, hel⟩
  · simp at hc hx
    exact ⟨none, 0, 0, fun _ => ⟨0, 0, ⟨#[]⟩, ⟨#[]⟩, 0, 0, 0, 0, 0⟩, hc, Nat.le_refl _, Nat.zero_le _, fun i hi => by omega, Nat.zero_le _, fun i hi => by omega⟩
  · simp only [Prod.mk.injEq] at hx
    have hd := hx.1
    have hlm : len ≤ m := by rw [hmm]; split <;> omega
    have : Inhabited OpC := ⟨⟨0, 0, ⟨#[]⟩, ⟨#[]⟩, 0, 0, 0, 0, 0⟩⟩
    obtain ⟨O, hO⟩ := Deep.choose_lt (α := OpC) (n := len) (p := fun i o => (∀ j v, o.cells[j]? = some v → w.cell? (a.add (i * 9 + j)) = some v) ∧ o.s.size ≤ Rows.uptoBulk (D i) ∧ -9223372036854775808 ≤ o.t ∧ o.t ≤ 9223372036854775807) (fun i hi => by
      obtain ⟨cs', h1, h2⟩ := hel i (by omega)
      rw [cells37] at h1
      obtain ⟨_, hlen, hcell⟩ := World.cells?_some h1
      obtain ⟨o, rfl, o1, o2⟩ := open_op Tryz.underlying37 (by kernel_rfl) Tryz.underlying35 Tryz.underlying3 Tryz.underlying9 cells37 cells35 cells3 cells9 h2
      refine ⟨o, fun j u hu => ?_, o1, o2⟩
      have hj : j < 9 := by
        rcases Nat.lt_or_ge j 9 with h | h
        · exact h
        · rw [Array.getElem?_eq_none (by simp [OpC.cells]; omega)] at hu; cases hu
      have := hcell j hj
      rw [Deep.add_add] at this
      rw [this]; simpa using hu)
    refine ⟨some a, len, cap, O, by simpa using hc, hl, hm, fun i hi => ?_, ?_, fun i hi => ⟨?_, (hO i hi).2.2⟩⟩
    · have h0 := (hO 0 (by omega)).1 0 _ rfl
      have hsp := World.cell?_spot h0
      have hal : a.block < w.heap.size := by
        rcases Nat.lt_or_ge a.block w.heap.size with h | h
        · exact h
        · rw [World.cell?] at h0; simp [Addr.add, Array.getElem?_eq_none h] at h0
      obtain ⟨b, off, sp⟩ := a
      simp [Addr.add] at hsp
      subst hsp
      have hh := fun j v hj => (hO i hi).1 j v hj
      simp only [Addr.add_lit] at hh
      refine ⟨b, off, rfl, hal, ?_, ?_, ?_, ?_, ?_, ?_, ?_, ?_, ?_⟩
      · exact hh 0 _ rfl
      · exact hh 1 _ rfl
      · exact hh 2 _ rfl
      · exact hh 3 _ rfl
      · exact hh 4 _ rfl
      · exact hh 5 _ rfl
      · exact hh 6 _ rfl
      · exact hh 7 _ rfl
      · exact hh 8 _ rfl
    · rw [hd]
      have h1 := bulk_length ((List.range len).map D)
      simp only [Rows.uptoBulk]
      simp at h1
      omega
    · have h1 := (hO i hi).2.1
      have h2 : Rows.uptoBulk (D i) ≤ Rows.uptoBulkAll ((List.range len).map D) := bulk_part (List.mem_map.2 ⟨i, List.mem_range.2 hi, rfl⟩)
      rw [hd]
      simp only [Rows.uptoBulk]
      omega
end
end Go.Proofs.YtepneihjhcakhaaGreatDoor
