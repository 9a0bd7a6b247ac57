import Derived.Test.YtepneihjhcakhaaGreatDoorBorrowC
set_option linter.unusedVariables false
set_option linter.unusedSimpArgs false
namespace Go.Proofs.YtepneihjhcakhaaGreatDoor
open Go.RowKit

def qCells (p : Bs) (leaf : Bool) (a b c d : Int) : Array Value := #[.string (sb p), .bool leaf, .int .i64 a, .int .i64 b, .int .i64 c, .int .i64 d, .int .i64 0, .int .i64 0, .slice none 0 0]

set_option maxRecDepth 100000 in
set_option maxHeartbeats 2000000 in
theorem tell_any {nodes : List Node} (T : Tree nodes) (w : World) (hN : ∀ n ∈ nodes, NodeIn w n) {n : Node} (hn : n ∈ nodes) :
    Calls Tryz.prog 64 #[nptr n.blk] w fun e w' => e = .returned (.agg (qCells (joinB n.key) n.leaf (sum0 (under nodes n.key)) (sum1 (under nodes n.key)) n.b0 n.b1)) ∧ Below w.heap.size w w' := by
  obtain ⟨ch, K⟩ := T.ch
  have hNW := fun W (hW : Below w.heap.size w W) n hn => (hN n hn).below hW
  have h83 := fun W (hW : Below w.heap.size w W) => path_any T n.key.length n hn rfl W (hNW W hW)
  have h84 := fun W (hW : Below w.heap.size w W) => leaf_any n.blk n.leaf W ((hNW W hW n hn).cell rfl)
  have h85 := fun W (hW : Below w.heap.size w W) => nominal_any T K hn (by have := dfs_le T K hn; omega) W (hNW W hW)
  have h86 := fun W (hW : Below w.heap.size w W) => borrow_any n.blk n.b0 n.b1 W ((hNW W hW n hn).cell rfl) ((hNW W hW n hn).cell rfl)
  rw [sum0_dfs T K hn, sum1_dfs T K hn] at h85
  unfold qCells
  generalize sum0 (under nodes n.key) = s0 at *
  generalize sum1 (under nodes n.key) = s1 at *
  generalize sb (joinB n.key) = pth at *
  unfold nptr at *
  clear hN K T hNW
  go_enter Tryz.func64, Tryz.ntmps64
  go_wp2_with (first
    | (go_at_call 83; refine (h83 _ ?_).mono ?_; (focus (repeat (first | exact Below.refl _ _ | refine bstep ?_ (by assumption) | refine Below.setCell ?_ (by first | omega | (simp <;> omega)) _ | refine Below.alloc ?_ (by first | omega | (simp <;> omega)) _ | refine Below.drew ?_ | refine below_drewN ?_ _))); rintro e w1 ⟨rfl, hb1⟩; have hB1 : Below w.heap.size w w1 := bstep (by (repeat (first | exact Below.refl _ _ | refine bstep ?_ (by assumption) | refine Below.setCell ?_ (by first | omega | (simp <;> omega)) _ | refine Below.alloc ?_ (by first | omega | (simp <;> omega)) _ | refine Below.drew ?_ | refine below_drewN ?_ _))) hb1)
    | (go_at_call 84; refine (h84 _ hB1).mono ?_; rintro e w2 ⟨rfl, hw2⟩; subst hw2)
    | (go_at_call 85; refine (h85 _ hB1).mono ?_; rintro e w3 ⟨rfl, hb3⟩; have hB3 : Below w.heap.size w w3 := bstep hB1 hb3)
    | (go_at_call 86; refine (h86 _ hB3).mono ?_; rintro e w4 ⟨rfl, hb4⟩; have hB4 : Below w.heap.size w w4 := bstep hB3 hb4; have hblk : Blk w4 w.heap.size 93 #[.string ⟨#[]⟩, .bool false, .int .i64 0, .int .i64 0, .int .i64 0, .int .i64 0, .int .i64 0, .int .i64 0, .slice none 0 0] := (((Blk.new w 93 _).below hb1 (by simp)).below hb3 (by have := hb1.size; simp at this; omega)).below hb4 (by have := hb1.size; have := hb3.size; simp at *; omega); have hcl := hblk.cell; have hfr := hblk.frozen; clear h83 h84 h85 h86))
  have hfin := (((((((((hblk.set 0 (.string pth)).set 1 (.bool n.leaf)).set 2 (.int .i64 s0)).set 3 (.int .i64 s1)).set 4 (.int .i64 n.b0)).set 5 (.int .i64 n.b1)).set 6 (.int .i64 0)).set 7 (.int .i64 0)).set 8 (.slice none 0 0))
  have hc := hfin.cell
  clear hcl hfr
  exact bodyPost_ret (v := .agg #[.string pth, .bool n.leaf, .int .i64 s0, .int .i64 s1, .int .i64 n.b0, .int .i64 n.b1, .int .i64 0, .int .i64 0, .slice none 0 0]) (by simp [results, Tryz.results64, go_sem, hc]) rfl ⟨rfl, by (repeat (first | (with_reducible exact Below.refl _ _) | (with_reducible assumption) | ((with_reducible refine Below.setCell ?_ ?_ _); rotate_left; (focus (first | omega | (simp <;> omega)))) | ((with_reducible refine Below.alloc ?_ ?_ _); rotate_left; (focus (first | omega | (simp <;> omega)))) | (with_reducible refine Below.drew ?_) | (with_reducible refine below_drewN ?_ _) | (refine bstep ?_ (by with_reducible assumption))))⟩

/-- What Queue answers. -/
def toldQ (nodes : List Node) (s : Bs) : Array Value × Int :=
  if validB s = false then (qCells [] false 0 0 0 0, 1) else match findKey nodes (namesB s) with
    | none => (qCells [] false 0 0 0 0, 3)
    | some n => (qCells (joinB n.key) n.leaf (sum0 (under nodes n.key)) (sum1 (under nodes n.key)) n.b0 n.b1, 0)

def QueueR (w : World) (x : Array Value × Int) (e : Ending) (w' : World) : Prop := e = .returned (.tuple #[.agg x.1, .int .i64 x.2]) ∧ Below w.heap.size w w'

set_option maxRecDepth 100000 in
set_option maxHeartbeats 2000000 in
theorem queue_any {nodes : List Node} (T : Tree nodes) (w : World) (hN : ∀ n ∈ nodes, NodeIn w n) {r : Node} (hr : r ∈ nodes) (hrk : r.key = []) (bt : Nat) (ht : w.cell? ⟨bt, 0, none⟩ = some (nptr r.blk)) (s : ByteArray) (hs : s.size ≤ 2000000) :
    Calls Tryz.prog 45 #[.pointer (some ⟨bt, 0, none⟩), .string s] w (QueueR w (toldQ nodes (bl s))) := by
  have hval := fun W => valid_any s hs W
  have hbt := World.block_lt_of_cell? w _ ht
  have htW := fun W (hW : Below w.heap.size w W) => (hW.cell (p := ⟨bt, 0, none⟩) hbt).trans ht
  have hNW := fun W (hW : Below w.heap.size w W) n hn => (hN n hn).below hW
  have hfind := fun W (hW : Below w.heap.size w W) v hv => find_key T hr hrk s hs W (hNW W hW) v hv
  unfold toldQ
  have b0 : Blk (w.alloc (.cells (qCells [] false 0 0 0 0) 93)) w.heap.size 93 (qCells [] false 0 0 0 0) := Blk.new w 93 _
  unfold qCells at b0
  rw [show sb [] = (⟨#[]⟩ : ByteArray) from rfl] at b0
  cases hv : validB (bl s)
  · rw [hv] at hval
    simp only [if_true]
    clear hfind htW hNW
    go_enter Tryz.func45, Tryz.ntmps45
    go_wp2_with (go_at_call 63; refine (hval _).mono ?_; rintro e w1 ⟨rfl, hb1⟩; have b1 := b0.below hb1 (by simp); have hcl := b1.cell; have hfr := b1.frozen)
    have hfin := (((((((((b1.set 0 (.string ⟨#[]⟩)).set 1 (.bool false)).set 2 (.int .i64 0)).set 3 (.int .i64 0)).set 4 (.int .i64 0)).set 5 (.int .i64 0)).set 6 (.int .i64 0)).set 7 (.int .i64 0)).set 8 (.slice none 0 0))
    have hc := hfin.cell
    clear hcl hfr
    have hB1 : Below w.heap.size w w1 := bstep (by (repeat (first | (with_reducible exact Below.refl _ _) | (with_reducible assumption) | ((with_reducible refine Below.setCell ?_ ?_ _); rotate_left; (focus (first | omega | (simp <;> omega)))) | ((with_reducible refine Below.alloc ?_ ?_ _); rotate_left; (focus (first | omega | (simp <;> omega)))) | (with_reducible refine Below.drew ?_) | (with_reducible refine below_drewN ?_ _) | (refine bstep ?_ (by with_reducible assumption))))) hb1
    exact bodyPost_ret (v := .tuple #[.agg (qCells [] false 0 0 0 0), .int .i64 1]) (by simp [results, Tryz.results45, go_sem, hc, qCells, sb]) rfl ⟨rfl, by (repeat (first | (with_reducible exact Below.refl _ _) | (with_reducible assumption) | ((with_reducible refine Below.setCell ?_ ?_ _); rotate_left; (focus (first | omega | (simp <;> omega)))) | ((with_reducible refine Below.alloc ?_ ?_ _); rotate_left; (focus (first | omega | (simp <;> omega)))) | (with_reducible refine Below.drew ?_) | (with_reducible refine below_drewN ?_ _) | (refine bstep ?_ (by with_reducible assumption))))⟩
  · rw [hv] at hval
    simp only [Bool.true_eq_false, if_false]
    cases hf : findKey nodes (namesB (bl s)) with
    | none =>
      rw [hf] at hfind
      clear hf
      unfold nptr at hfind htW
      go_enter Tryz.func45, Tryz.ntmps45
      go_wp2_with (first
        | (go_at_call 63; refine (hval _).mono ?_; rintro e w1 ⟨rfl, hb1⟩; have hB1 : Below w.heap.size w w1 := bstep (by (repeat (first | (with_reducible exact Below.refl _ _) | (with_reducible assumption) | ((with_reducible refine Below.setCell ?_ ?_ _); rotate_left; (focus (first | omega | (simp <;> omega)))) | ((with_reducible refine Below.alloc ?_ ?_ _); rotate_left; (focus (first | omega | (simp <;> omega)))) | (with_reducible refine Below.drew ?_) | (with_reducible refine below_drewN ?_ _) | (refine bstep ?_ (by with_reducible assumption))))) hb1; have b1 := b0.below hb1 (by simp); have ht1 := htW w1 hB1)
        | (go_at_call 54; refine (hfind _ hB1 (.pointer none) rfl).mono ?_; rintro e w2 ⟨rfl, hb2⟩; have hB2 : Below w.heap.size w w2 := bstep hB1 hb2; have b2 := b1.below hb2 (by have := hb1.size; simp at this; omega); have hcl := b2.cell; have hfr := b2.frozen; clear hfind htW hNW))
      have hfin := (((((((((b2.set 0 (.string ⟨#[]⟩)).set 1 (.bool false)).set 2 (.int .i64 0)).set 3 (.int .i64 0)).set 4 (.int .i64 0)).set 5 (.int .i64 0)).set 6 (.int .i64 0)).set 7 (.int .i64 0)).set 8 (.slice none 0 0))
      have hc := hfin.cell
      clear hcl hfr
      exact bodyPost_ret (v := .tuple #[.agg (qCells [] false 0 0 0 0), .int .i64 3]) (by simp [results, Tryz.results45, go_sem, hc, qCells, sb]) rfl ⟨rfl, by (repeat (first | (with_reducible exact Below.refl _ _) | (with_reducible assumption) | ((with_reducible refine Below.setCell ?_ ?_ _); rotate_left; (focus (first | omega | (simp <;> omega)))) | ((with_reducible refine Below.alloc ?_ ?_ _); rotate_left; (focus (first | omega | (simp <;> omega)))) | (with_reducible refine Below.drew ?_) | (with_reducible refine below_drewN ?_ _) | (refine bstep ?_ (by with_reducible assumption))))⟩
    | some n =>
      obtain ⟨hn, hnk⟩ := findKey_mem hf
      rw [hf] at hfind
      clear hf
      have htell := fun W (hW : Below w.heap.size w W) => tell_any T W (hNW W hW) hn
      simp only [nptr] at hfind
      unfold nptr at htW htell
      dsimp only
      unfold qCells at htell ⊢
      generalize sum0 (under nodes n.key) = s0 at htell ⊢
      generalize sum1 (under nodes n.key) = s1 at htell ⊢
      generalize sb (joinB n.key) = pth at htell ⊢
      go_enter Tryz.func45, Tryz.ntmps45
      go_wp2_with (first
        | (go_at_call 63; refine (hval _).mono ?_; rintro e w1 ⟨rfl, hb1⟩; have hB1 : Below w.heap.size w w1 := bstep (by (repeat (first | (with_reducible exact Below.refl _ _) | (with_reducible assumption) | ((with_reducible refine Below.setCell ?_ ?_ _); rotate_left; (focus (first | omega | (simp <;> omega)))) | ((with_reducible refine Below.alloc ?_ ?_ _); rotate_left; (focus (first | omega | (simp <;> omega)))) | (with_reducible refine Below.drew ?_) | (with_reducible refine below_drewN ?_ _) | (refine bstep ?_ (by with_reducible assumption))))) hb1; have b1 := b0.below hb1 (by simp); have ht1 := htW w1 hB1)
        | (go_at_call 54; refine (hfind _ hB1 (.pointer (some ⟨n.blk, 0, none⟩)) rfl).mono ?_; rintro e w2 ⟨rfl, hb2⟩; have hB2 : Below w.heap.size w w2 := bstep hB1 hb2; have b2 := b1.below hb2 (by have := hb1.size; simp at this; omega))
        | (go_at_call 64; refine (htell _ hB2).mono ?_; rintro e w3 ⟨rfl, hb3⟩; have hB3 : Below w.heap.size w w3 := bstep hB2 hb3; have b3 := b2.below hb3 (by have := hb1.size; have := hb2.size; simp at *; omega); have hcl := b3.cell; have hfr := b3.frozen; clear hfind htW hNW htell))
      have hfin := (((((((((b3.set 0 (.string pth)).set 1 (.bool n.leaf)).set 2 (.int .i64 s0)).set 3 (.int .i64 s1)).set 4 (.int .i64 n.b0)).set 5 (.int .i64 n.b1)).set 6 (.int .i64 0)).set 7 (.int .i64 0)).set 8 (.slice none 0 0))
      have hc := hfin.cell
      clear hcl hfr
      exact bodyPost_ret (v := .tuple #[.agg #[.string pth, .bool n.leaf, .int .i64 s0, .int .i64 s1, .int .i64 n.b0, .int .i64 n.b1, .int .i64 0, .int .i64 0, .slice none 0 0], .int .i64 0]) (by simp [results, Tryz.results45, go_sem, hc]) rfl ⟨rfl, by (repeat (first | (with_reducible exact Below.refl _ _) | (with_reducible assumption) | ((with_reducible refine Below.setCell ?_ ?_ _); rotate_left; (focus (first | omega | (simp <;> omega)))) | ((with_reducible refine Below.alloc ?_ ?_ _); rotate_left; (focus (first | omega | (simp <;> omega)))) | (with_reducible refine Below.drew ?_) | (with_reducible refine below_drewN ?_ _) | (refine bstep ?_ (by with_reducible assumption))))⟩
end Go.Proofs.YtepneihjhcakhaaGreatDoor
