import Derived.Test.YtepneihjhcakhaaGreatDoorAgreeA
import Derived.BigQuiet
set_option linter.unusedVariables false
set_option linter.unusedSimpArgs false
namespace Go.Proofs.YtepneihjhcakhaaGreatDoor
open Go.RowKit

theorem equal35 (a b c e : Int) (w : World) : (Op.equalIn 10000 35 (.agg #[.int .i64 a, .int .i64 b]) (.agg #[.int .i64 c, .int .i64 e])).run Tryz.prog w = .ok (a == c && b == e) w := by
  rw [show (10000 : Nat) = 9998 + 2 from rfl, eq35]

theorem eq59 (d : Nat) (a b c e : Int) (w : World) : (Op.equalIn (d + 2) 59 (.agg #[.int .i64 a, .int .i64 b]) (.agg #[.int .i64 c, .int .i64 e])).run Tryz.prog w = .ok (a == c && b == e) w := by
  have u3 := Tryz.underlying3
  have u59 := Tryz.underlying59
  have z3 := Tryz.sizeOf3
  have a3 := Tryz.isAgg3
  unfold Op.equalIn
  simp only [Sem.run_bind, run_underlying u59, Result.andThen_ok]
  simp [go_sem, z3, a3, List.range', Std.Legacy.Range.forIn_eq_forIn_range', part]
  by_cases h : a = c <;> by_cases k : b = e <;> simp [h, k]
theorem equal59 (a b c e : Int) (w : World) : (Op.equalIn 10000 59 (.agg #[.int .i64 a, .int .i64 b]) (.agg #[.int .i64 c, .int .i64 e])).run Tryz.prog w = .ok (a == c && b == e) w := by
  rw [show (10000 : Nat) = 9998 + 2 from rfl, eq59]

set_option maxRecDepth 100000 in
set_option maxHeartbeats 400000 in
theorem sameEvents_nil (w : World) : Calls Tryz.prog 30 #[.slice none 0 0, .slice none 0 0] w fun e w' => e = .returned (.bool true) ∧ w' = w := by
  go_enter Tryz.func30, Tryz.ntmps30
  go_wp2
  refine wp_loop_rounds 1 ?_
  rw [rounds_succ]
  go_wp2
  go_ret
  exact ⟨rfl, rfl⟩

set_option maxRecDepth 100000 in
set_option maxHeartbeats 1000000 in
theorem sameQueue_same (w : World) (p : ByteArray) (lf : Bool) (a b c d : Int) :
    Calls Tryz.prog 47 #[.agg #[.string p, .bool lf, .int .i64 a, .int .i64 b, .int .i64 c, .int .i64 d, .int .i64 0, .int .i64 0, .slice none 0 0], .agg #[.string p, .bool lf, .int .i64 a, .int .i64 b, .int .i64 c, .int .i64 d, .int .i64 0, .int .i64 0, .slice none 0 0]] w
      fun e w' => e = .returned (.bool true) ∧ Below w.heap.size w w' := by
  have hq := equal35
  go_enter Tryz.func47, Tryz.ntmps47
  go_wp2
  refine wp_loop_rounds 1 ?_
  rw [rounds_succ]
  go_wp2
  go_ret
  exact ⟨rfl, by (repeat (first | (with_reducible exact Below.refl _ _) | (with_reducible assumption) | ((with_reducible refine Below.setCell ?_ ?_ _); rotate_left; (focus (first | omega | (simp <;> omega)))) | ((with_reducible refine Below.alloc ?_ ?_ _); rotate_left; (focus (first | omega | (simp <;> omega)))) | (with_reducible refine Below.drew ?_) | (with_reducible refine below_drewN ?_ _) | (refine bstep ?_ (by with_reducible assumption))))⟩

/-- A list that came out, as its owner wrote it. -/
def ListOK (W : World) (c : Nat) (v : Value) (m : Int) : Prop :=
  v = .slice none 0 0 ∨ ∃ b len cap, v = .slice (some ⟨b, 0, none⟩) len cap ∧ len ≤ 3 ∧ len ≤ cap ∧ cap ≤ maxLen ∧ b < W.heap.size ∧ ∀ j, j < len * c → W.cell? ⟨b, j, none⟩ = some (.int .i64 m)
def ints (ms : List Int) : List Value := ms.map fun m => .int .i64 m

structure Marked (W : World) (c : Nat) (tl : TypeId) (sl slm : Value) (ns : List Value) (ms : List Int) : Prop where
  row : W.ownsRow 0 tl 1 sl ns.length ns
  mrow : W.ownsRow 0 3 1 slm ms.length (ints ms)
  len : ns.length = ms.length
  ok : ∀ (i : Nat) v m, ns[i]? = some v → ms[i]? = some m → ListOK W c v m

theorem row_cell {W : World} {t : TypeId} {sl : Value} {n : Nat} {xs : List Value} (h : W.ownsRow 0 t 1 sl n xs) : ∃ ao cap, sl = .slice ao n cap ∧ n ≤ cap ∧ cap ≤ maxLen ∧ ∀ (i : Nat) v, xs[i]? = some v → ∃ g, ao = some ⟨g, 0, none⟩ ∧ g < W.heap.size ∧ W.cell? ⟨g, i, none⟩ = some v := by
  rcases h.2 with ⟨rfl, rfl⟩ | ⟨g, cap, cur, rfl, _, hg, h1, h2, h3⟩
  · refine ⟨none, 0, rfl, Nat.le_refl _, Nat.zero_le _, fun i v hv => ?_⟩
    have := h.1
    rw [List.getElem?_eq_none (by omega)] at hv; cases hv
  · refine ⟨_, cap, rfl, h1, h2, fun i v hv => ⟨g, rfl, (Array.getElem?_eq_some_iff.1 hg).1, ?_⟩⟩
    have := h.cells (g := g) rfl i v hv
    rwa [Addr.add_lit, Nat.zero_add] at this

set_option maxRecDepth 100000 in
set_option maxHeartbeats 1000000 in
theorem looks_any {W : World} {bw : Nat} {slT slN slE slA slB : Value} (hb : Blk W bw 32 #[slT, slN, slE, slA, slB]) {ns es : List Value} {ms me : List Int} (hN : Marked W 1 29 slN slA ns ms) (hE : Marked W 2 46 slE slB es me)
    (hl1 : ns.length ≤ 100000000) (hl2 : es.length ≤ 100000000) :
    Calls Tryz.prog 6 #[.pointer (some ⟨bw, 0, none⟩)] W fun e w' => e = .returned (.bool true) ∧ Below W.heap.size W w' := by
  obtain ⟨aN, cN, rfl, n1, n2, n3⟩ := row_cell hN.row
  obtain ⟨aE, cE, rfl, e1, e2, e3⟩ := row_cell hE.row
  obtain ⟨aA, cA, rfl, a1, a2, a3⟩ := row_cell hN.mrow
  obtain ⟨aB, cB, rfl, b1, b2, b3⟩ := row_cell hE.mrow
  have hnl := hN.len
  have hel := hE.len
  have hNok := hN.ok
  have hEok := hE.ok
  clear hN hE
  have c1 := hb.cell 1
  have c2 := hb.cell 2
  have c3 := hb.cell 3
  have c4 := hb.cell 4
  simp only [List.getElem?_toArray, List.getElem?_cons_zero, List.getElem?_cons_succ] at c1 c2 c3 c4
  rw [← hnl] at c3 a1
  rw [← hel] at c4 b1
  obtain ⟨n, hn⟩ : ∃ n, n = ns.length := ⟨_, rfl⟩
  obtain ⟨q, hq⟩ : ∃ q, q = es.length := ⟨_, rfl⟩
  rw [← hn] at c1 c3 hl1 n1 a1
  rw [← hq] at c2 c4 hl2 e1 b1
  have HN : Hid (n = ns.length ∧ ns.length = ms.length) := ⟨hn, hnl⟩
  have HQ : Hid (q = es.length ∧ es.length = me.length) := ⟨hq, hel⟩
  have HNok : Hid (∀ (i : Nat) v m, ns[i]? = some v → ms[i]? = some m → ListOK W 1 v m) := hNok
  have HEok : Hid (∀ (i : Nat) v m, es[i]? = some v → me[i]? = some m → ListOK W 2 v m) := hEok
  clear hn hq hnl hel hNok hEok
  have hbw := hb.lt
  have HC : Hid (∀ W', Below W.heap.size W W' → W'.cell? ⟨bw, 1, none⟩ = some (.slice aN n cN) ∧ W'.cell? ⟨bw, 2, none⟩ = some (.slice aE q cE) ∧ W'.cell? ⟨bw, 3, none⟩ = some (.slice aA n cA) ∧ W'.cell? ⟨bw, 4, none⟩ = some (.slice aB q cB)) := by
    suffices hh : (∀ W', Below W.heap.size W W' → W'.cell? ⟨bw, 1, none⟩ = some (.slice aN n cN) ∧ W'.cell? ⟨bw, 2, none⟩ = some (.slice aE q cE) ∧ W'.cell? ⟨bw, 3, none⟩ = some (.slice aA n cA) ∧ W'.cell? ⟨bw, 4, none⟩ = some (.slice aB q cB)) from hh
    exact fun W' hW => ⟨(hW.cell (p := ⟨bw, 1, none⟩) hbw).trans c1, (hW.cell (p := ⟨bw, 2, none⟩) hbw).trans c2, (hW.cell (p := ⟨bw, 3, none⟩) hbw).trans c3, (hW.cell (p := ⟨bw, 4, none⟩) hbw).trans c4⟩
  clear c1 c2 c3 c4
  go_enter Tryz.func6, Tryz.ntmps6
  go_wp2
  go_loopw [3] (fun i wr => ∃ k : Nat, k ≤ n ∧ i = .int .i64 k ∧ Below W.heap.size W wr) (fun i _ => n - (intOf i).toNat)
  case atStart => exact ⟨0, Nat.zero_le _, rfl, Below.refl _ _⟩
  case round =>
    obtain ⟨k, hk, rfl, hbel⟩ := hrel
    obtain ⟨c1, c2, c3, c4⟩ := HC.out _ hbel
    by_cases hlt : k < n
    · obtain ⟨v, hv⟩ : ∃ v, ns[k]? = some v := ⟨_, List.getElem?_eq_getElem (by rw [← HN.out.1]; exact hlt)⟩
      obtain ⟨m, hm⟩ : ∃ m, ms[k]? = some m := ⟨_, List.getElem?_eq_getElem (by rw [← HN.out.2, ← HN.out.1]; exact hlt)⟩
      obtain ⟨gN, rfl, gNl, pN⟩ := n3 k v hv
      obtain ⟨gA, rfl, gAl, pA⟩ := a3 k (.int .i64 m) (by simp [ints, hm])
      have hlo := HNok.out k v m hv hm
      clear hv hm n3 a3
      have pN' := (hbel.cell (p := ⟨gN, k, none⟩) gNl).trans pN
      rcases hlo with rfl | ⟨b, len, cap, rfl, l3, lc, lm, hbl, hcs⟩
      · go_wp2
        refine wp_loop_rounds 1 ?_
        rw [rounds_succ]
        go_wp2
        exact ⟨⟨k + 1, by omega, by go_num, hbel⟩, by simp [intOf]; omega⟩
      · simp only [Nat.mul_one] at hcs
        go_wp2
        go_loopw [4] (fun j wr => ∃ x : Nat, x ≤ len ∧ j = .int .i64 x ∧ Below W.heap.size W wr) (fun j _ => len - (intOf j).toNat)
        case atStart => exact ⟨0, Nat.zero_le _, rfl, hbel⟩
        case round =>
          clear c1 c2 c3 c4 pN'
          obtain ⟨x, hx, rfl, hbel2⟩ := hrel
          obtain ⟨c1, c2, c3, c4⟩ := HC.out _ hbel2
          have pN' := (hbel2.cell (p := ⟨gN, k, none⟩) gNl).trans pN
          have pA' := (hbel2.cell (p := ⟨gA, k, none⟩) gAl).trans pA
          by_cases hxl : x < len
          · have hcx := (hbel2.cell (p := ⟨b, x, none⟩) hbl).trans (hcs x hxl)
            clear hcs
            go_wp2
            go_quiet (fail)
            go_wp2
            exact ⟨⟨x + 1, by omega, by go_num, below_drewN hbel2 _⟩, by simp [intOf]; omega⟩
          · go_wp2
            exact ⟨⟨k + 1, by omega, by go_num, hbel2⟩, by simp [intOf]; omega⟩
    · go_wp2
      go_loopw [5] (fun i wr => ∃ k : Nat, k ≤ q ∧ i = .int .i64 k ∧ Below W.heap.size W wr) (fun i _ => q - (intOf i).toNat)
      case atStart => exact ⟨0, Nat.zero_le _, rfl, hbel⟩
      case round =>
        clear c1 c2 c3 c4
        obtain ⟨k, hk, rfl, hbel⟩ := hrel
        obtain ⟨c1, c2, c3, c4⟩ := HC.out _ hbel
        by_cases hlt : k < q
        · obtain ⟨v, hv⟩ : ∃ v, es[k]? = some v := ⟨_, List.getElem?_eq_getElem (by rw [← HQ.out.1]; exact hlt)⟩
          obtain ⟨m, hm⟩ : ∃ m, me[k]? = some m := ⟨_, List.getElem?_eq_getElem (by rw [← HQ.out.2, ← HQ.out.1]; exact hlt)⟩
          obtain ⟨gE, rfl, gEl, pE⟩ := e3 k v hv
          obtain ⟨gB, rfl, gBl, pB⟩ := b3 k (.int .i64 m) (by simp [ints, hm])
          have hlo := HEok.out k v m hv hm
          clear hv hm e3 b3
          have pE' := (hbel.cell (p := ⟨gE, k, none⟩) gEl).trans pE
          have pB' := (hbel.cell (p := ⟨gB, k, none⟩) gBl).trans pB
          rcases hlo with rfl | ⟨b, len, cap, rfl, l3, lc, lm, hbl, hcs⟩
          · go_wp2
            refine wp_loop_rounds 1 ?_
            rw [rounds_succ]
            go_wp2
            exact ⟨⟨k + 1, by omega, by go_num, hbel⟩, by simp [intOf]; omega⟩
          · go_wp2
            go_loopw [7] (fun j wr => ∃ x : Nat, x ≤ len ∧ j = .int .i64 x ∧ Below W.heap.size W wr) (fun j _ => len - (intOf j).toNat)
            case atStart => exact ⟨0, Nat.zero_le _, rfl, hbel⟩
            case round =>
              clear c1 c2 c3 c4 pE' pB'
              obtain ⟨x, hx, rfl, hbel2⟩ := hrel
              obtain ⟨c1, c2, c3, c4⟩ := HC.out _ hbel2
              have pE' := (hbel2.cell (p := ⟨gE, k, none⟩) gEl).trans pE
              by_cases hxl : x < len
              · have hcx := (hbel2.cell (p := ⟨b, x * 2, none⟩) hbl).trans (hcs (x * 2) (by omega))
                have hcy := (hbel2.cell (p := ⟨b, x * 2 + 1, none⟩) hbl).trans (hcs (x * 2 + 1) (by omega))
                clear hcs
                have hq9 := equal59
                go_wp2
                exact ⟨⟨x + 1, by omega, by go_num, hbel2⟩, by simp [intOf]; omega⟩
              · go_wp2
                exact ⟨⟨k + 1, by omega, by go_num, hbel2⟩, by simp [intOf]; omega⟩
        · go_wp2
          go_ret
          exact ⟨rfl, hbel⟩
end Go.Proofs.YtepneihjhcakhaaGreatDoor
