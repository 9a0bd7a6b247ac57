import Derived.Test.YtphclnolomgjoaaGreatDoorX15
import Derived.Test.YtphclnolomgjoaaGreatDoorB37
import Derived.Test.YtphclnolomgjoaaGreatDoorX01
import Derived.BigQuiet
set_option linter.unusedVariables false
set_option linter.unusedSimpArgs false
namespace Go.Proofs.YtphclnolomgjoaaGreatDoor
open Go.RowKit
def KW.d (w : KW) (j : Nat) : Int := if j = 0 then w.d0 else w.d1
def Last (l : List KW) (w : KW) (j : Nat) : Prop := ∀ y ∈ l, y.leaf = w.leaf → y.inn = true → y.d j > 0 → y.qav ≤ w.qav
def NewOut (l : List KW) (w : KW) (j : Nat) (W : World) (e : Ending) (w' : World) : Prop := (∃ b, e = .returned (.bool b) ∧ (Last l w j → b = true)) ∧ Below W.heap.size W w'
set_option maxRecDepth 100000 in
set_option maxHeartbeats 40000000 in
theorem knewest {W : World} {v : Value} {l : List KW} (hr : W.ownsRow 0 41 6 v l.length (qak l)) (h24 : l.length ≤ 25) (w : KW) {j : Nat} (hj : j < 2) :
    Calls Tryz.prog 50 #[v, .agg #[.int .i64 w.num, .int .i64 w.leaf, .int .i64 w.d0, .int .i64 w.d1, .bool w.inn, .int .i64 w.qav], .int .i64 j] W (NewOut l w j W) := by
  have HT : Hid (∀ e w', e = Ending.returned (.bool true) → Below W.heap.size W w' → NewOut l w j W e w') := fun e w' h1 h2 => ⟨⟨true, h1, fun _ => rfl⟩, h2⟩
  have HN : Hid (∀ e w', ¬ Last l w j → e = Ending.returned (.bool false) → Below W.heap.size W w' → NewOut l w j W e w') := fun e w' h0 h1 h2 => ⟨⟨false, h1, fun h => absurd h h0⟩, h2⟩
  obtain ⟨aw, cw, hv, hc1, hc2⟩ := qa7 hr
  have HK : Hid (∀ wr, Below W.heap.size W wr → ∀ k, k < l.length → ∃ (g lf : Nat) (d s : Int) (inn : Bool), aw = some ⟨g, 0, none⟩ ∧ g < W.heap.size ∧ wr.cell? ⟨g, k * 6 + 1, none⟩ = some (.int .i64 lf) ∧ wr.cell? ⟨g, k * 6 + 2 + j, none⟩ = some (.int .i64 d) ∧ wr.cell? ⟨g, k * 6 + 4, none⟩ = some (.bool inn) ∧ wr.cell? ⟨g, k * 6 + 5, none⟩ = some (.int .i64 s) ∧ Hid ((lf : Int) = w.leaf → inn = true → 0 < d → w.qav < s → ¬ Last l w j)) := by
    intro wr hb k hk
    obtain ⟨x, hx⟩ : ∃ x, l[k]? = some x := ⟨_, List.getElem?_eq_getElem hk⟩
    have hxm := List.mem_of_getElem? hx
    obtain ⟨g, c, hvw, hg, hc1, hc2, p0, p1, p2, p3, p4, p5⟩ := kws_at hr hx
    have hb0 := fun (a : Nat) => hb.cell (p := ⟨g, a, none⟩) hg
    rw [hv] at hvw
    injection hvw with e1
    refine ⟨g, x.leaf, x.d j, x.qav, x.inn, e1, hg, (hb0 _).trans p1, ?_, (hb0 _).trans p4, (hb0 _).trans p5, fun h1 h2 h3 h4 hL => ?_⟩
    · rcases (show j = 0 ∨ j = 1 by omega) with rfl | rfl
      · exact (hb0 _).trans p2
      · exact (hb0 _).trans p3
    · have := hL x hxm (by omega) h2 h3
      omega
  rw [hv]
  clear hr hv
  generalize l.length = nv at *
  obtain ⟨num, leaf, d0, d1, win, qav⟩ := w
  simp only at *
  go_enter Tryz.func50, Tryz.ntmps50
  go_wp2
  go_loopw [7] (fun i wr => ∃ k : Nat, k ≤ nv ∧ i = .int .i64 k ∧ Below W.heap.size W wr ∧ Blk wr W.heap.size 41 #[.int .i64 num, .int .i64 leaf, .int .i64 d0, .int .i64 d1, .bool win, .int .i64 qav]) (fun i _ => nv - (intOf i).toNat)
  case atStart => exact ⟨0, Nat.zero_le _, rfl, by exact bel2, by exact blk2⟩
  case round =>
    obtain ⟨k, hk, rfl, hbel, hb4⟩ := hrel
    have y1 := hb4.cell 1
    have y5 := hb4.cell 5
    simp only [List.getElem?_toArray, List.getElem?_cons_zero, List.getElem?_cons_succ] at y1 y5
    by_cases hlt : k < nv
    · obtain ⟨g, lf, d, s, inn, rfl, l1, p1, p2, p4, p5, HL⟩ := HK.out wr hbel k hlt
      clear HK
      have hki : (k : Int) < nv := by omega
      have hki0 : (0 : Int) ≤ k := by omega
      by_cases g1 : (lf : Int) = leaf
      · have g1' : lf = leaf := by omega
        subst g1'
        cases inn
        · rcases (show j = 0 ∨ j = 1 by omega) with rfl | rfl
          all_goals
            go_upto_region 4 with fail
            go_quiet (fail)
            go_wp2_with fail
            exact ⟨⟨k + 1, by omega, by go_num, below_drewN hbel _, hb4.drewN _⟩, by simp [intOf]; omega⟩
        · by_cases g2 : 0 < d
          · have hd2 : decide (d > 0) = true := decide_eq_true g2
            by_cases g3 : qav < s
            · have hd3 : decide (s > qav) = true := decide_eq_true g3
              have hno := HL.out g1 rfl g2 g3
              have HE := Hid.mk' (fun e w' => HN.out e w' hno)
              clear hno HN HL HT
              rcases (show j = 0 ∨ j = 1 by omega) with rfl | rfl
              all_goals
                go_upto_region 4 with fail
                go_quiet (fail)
                go_wp2_with fail
                go_ret
                exact HE.out _ _ rfl (below_drewN hbel _)
            · have hd3 : decide (s > qav) = false := decide_eq_false g3
              rcases (show j = 0 ∨ j = 1 by omega) with rfl | rfl
              all_goals
                go_upto_region 4 with fail
                go_quiet (fail)
                go_wp2_with fail
                exact ⟨⟨k + 1, by omega, by go_num, below_drewN hbel _, hb4.drewN _⟩, by simp [intOf]; omega⟩
          · have hd2 : decide (d > 0) = false := decide_eq_false g2
            rcases (show j = 0 ∨ j = 1 by omega) with rfl | rfl
            all_goals
              go_upto_region 4 with fail
              go_quiet (fail)
              go_wp2_with fail
              exact ⟨⟨k + 1, by omega, by go_num, below_drewN hbel _, hb4.drewN _⟩, by simp [intOf]; omega⟩
      · have hd1 : ((lf : Int) == (leaf : Int)) = false := by simpa using g1
        rcases (show j = 0 ∨ j = 1 by omega) with rfl | rfl
        all_goals
          go_upto_region 4 with fail
          go_quiet (fail)
          go_wp2_with fail
          exact ⟨⟨k + 1, by omega, by go_num, below_drewN hbel _, hb4.drewN _⟩, by simp [intOf]; omega⟩
    · have hkn : ¬ ((k : Int) < nv) := by omega
      have HE := Hid.mk' HT.out
      clear HK HN HT
      go_wp2_with fail
      go_ret
      exact HE.out _ _ rfl hbel
end Go.Proofs.YtphclnolomgjoaaGreatDoor
