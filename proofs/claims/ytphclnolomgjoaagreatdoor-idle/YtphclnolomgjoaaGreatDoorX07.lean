import Derived.Test.YtphclnolomgjoaaGreatDoorX06
import Derived.Test.YtphclnolomgjoaaGreatDoorB37
import Derived.Test.YtphclnolomgjoaaGreatDoorX01
import Derived.BigQuiet
set_option linter.unusedVariables false
set_option linter.unusedSimpArgs false
namespace Go.Proofs.YtphclnolomgjoaaGreatDoor
open Go.RowKit
theorem waitK_zero (R : KR) : waitK R 0 = 0 := by unfold waitK; simp
theorem waitK_le (R : KR) (k : Nat) : waitK R k ≤ R.works.length := List.length_filter_le _ _
theorem outK_zero (R : KR) : outK R 0 = 0 := by unfold outK; simp
theorem eq52K (d : Nat) (p : ByteArray) (a b : Int) (c : Bool) (w : World) : (Op.equalIn (d + 3) 52 (.agg #[.string p, .int .i64 a, .int .i64 b, .bool c]) (.agg #[.string p, .int .i64 a, .int .i64 b, .bool c])).run Tryz.prog w = .ok true w := by
  have u52 := Tryz.underlying52
  have u35 := Tryz.underlying35
  have u9 := Tryz.underlying9
  have u4 := Tryz.underlying4
  have z35 := Tryz.sizeOf35
  have a35 := Tryz.isAgg35
  have z9 := Tryz.sizeOf9
  have a9 := Tryz.isAgg9
  have z4 := Tryz.sizeOf4
  have a4 := Tryz.isAgg4
  unfold Op.equalIn
  simp only [Sem.run_bind, run_underlying u52, Result.andThen_ok]
  simp [go_sem, z35, a35, z9, a9, z4, a4, List.range', Std.Legacy.Range.forIn_eq_forIn_range', part, eq35]
theorem equal52K (p : ByteArray) (a b : Int) (c : Bool) (w : World) : (Op.equalIn 10000 52 (.agg #[.string p, .int .i64 a, .int .i64 b, .bool c]) (.agg #[.string p, .int .i64 a, .int .i64 b, .bool c])).run Tryz.prog w = .ok true w := by
  rw [show (10000 : Nat) = 9997 + 3 from rfl, eq52K]
set_option maxRecDepth 100000 in
set_option maxHeartbeats 4000000 in
theorem idle_walk {W : World} {aq as_ : Option Addr} {lq cq ls cs : Nat} {q : Nat → Int} {S : Nat → Stp} (hq : QIn W aq lq q) (hlq : lq ≤ cq) (hcq : cq ≤ maxLen) (hS : StIn W as_ ls S) (hls : ls ≤ cs) (hcs : cs ≤ maxLen) :
    Calls Tryz.prog 7 #[.slice aq lq cq, .slice as_ ls cs] W fun e w' => e = .returned (.bool true) ∧ Below W.heap.size W w' := by
  have HS : Hid (StIn W as_ ls S) := hS
  clear hS
  have hlen : ls ≤ 9223372036854775807 := by unfold maxLen at hcs; omega
  go_enter Tryz.func7, Tryz.ntmps7
  go_upto_region 5 with (first
    | (go_at_call 15; refine (ql8 _).mono ?_; rintro e w1 ⟨rfl, hb1⟩)
    | (go_at_call 16; refine (qqs (hq.below (n := 0) hb1) hlq hcq).mono ?_; rintro e w2 ⟨rb, rfl, hR2, hb2⟩))
  have hR0 : Hid (∃ R, RunI 0 R ∧ qau (fun b => b < w1.heap.size) w2 rb R) := by
    obtain ⟨nodes, K⟩ := hR2.kinv
    exact ⟨_, qyt K, hR2⟩
  clear hR2 hq
  go_wp2_with fail
  go_loopw [7] (fun i wr => ∃ k : Nat, k ≤ 50 ∧ k ≤ ls ∧ i = .int .i64 k ∧ Hid (∃ R, RunI k R ∧ qau (fun b => b < w1.heap.size) wr rb R) ∧ Below w1.heap.size w1 wr) (fun i _ => 50 - (intOf i).toNat)
  case atStart => exact ⟨0, Nat.zero_le _, Nat.zero_le _, rfl, hR0, hb2⟩
  case round =>
    obtain ⟨k, hk, hkl, rfl, hR, hB⟩ := hrel
    have hBW : Below W.heap.size W wr := hb1.trans (hB.mono hb1.size)
    by_cases hlt : k < ls ∧ k < 50
    · obtain ⟨hlt1, hlt2⟩ := hlt
      obtain ⟨gb, off, rfl, hgb, q0, q1, q2, q3, i0, i1, i2, i3⟩ := HS.out k hlt1
      have r0 := (hBW.cell (p := ⟨gb, off + k * 4, none⟩) hgb).trans q0
      have r1 := (hBW.cell (p := ⟨gb, off + k * 4 + 1, none⟩) hgb).trans q1
      have r2 := (hBW.cell (p := ⟨gb, off + k * 4 + 2, none⟩) hgb).trans q2
      have r3 := (hBW.cell (p := ⟨gb, off + k * 4 + 3, none⟩) hgb).trans q3
      have hst := qri hR.out hlt2 i0 i1 i2 i3
      have hki : (k : Int) < ls := by omega
      have hki0 : (0 : Int) ≤ k := by omega
      have hki5 : (k : Int) < 50 := by omega
      clear q0 q1 q2 q3 hR
      go_upto_region 13 with (go_at_call 17; refine hst.mono ?_; rintro e w3 ⟨rfl, hR3, hK3⟩)
      have HB3 := Hid.mk' (hB.trans (hK3.toBelow hB.size (fun b hb e => e hb)))
      clear hst r0 r1 r2 r3 hBW hB hK3 i0 i1 i2 i3
      obtain ⟨R, hI, hR⟩ := hR3.out
      have HE : Hid (∀ w', Below w3.heap.size w3 w' → Hid (∃ R, RunI (k + 1) R ∧ qau (fun b => b < w1.heap.size) w' rb R) ∧ Below w1.heap.size w1 w') := fun w' hb => ⟨⟨R, hI, hR.below hb⟩, HB3.out.trans (hb.mono HB3.out.size)⟩
      have HL := Hid.mk' (fun (j : Nat) (hj : j < 5) => idle_leaf hR hI hj)
      have hw24 : R.works.length ≤ 24 := by obtain ⟨nodes, K⟩ := hR.kinv; rw [hI.wlen]; exact K.inv.wks.wks.len
      have HWE : Hid (waitK R 5 = outK R R.works.length) := (waitK_all hI).trans (outK_all R).symm
      obtain ⟨P, bt, vp, vw, vl, hM⟩ := hR
      obtain ⟨aw, cw, hvw, hcw1, hcw2⟩ := qa7 hM.wrow
      obtain ⟨ap, cp, hvp, hcp1, hcp2⟩ := qa7 hM.prow
      have HW := Hid.mk' (fun (j : Nat) (hj : j < R.works.length) => idle_work hM hI hj)
      have c0 := hM.at_.cell 0
      have c1 := hM.at_.cell 1
      have c2 := hM.at_.cell 2
      simp only [List.getElem?_toArray, List.getElem?_cons_zero, List.getElem?_cons_succ] at c0 c1 c2
      rw [hvw] at c2 HW
      rw [hvp, hI.len] at c1
      rw [hvp, hI.len] at HW
      have hrl := hM.at_.lt
      clear hM hvw hvp hI hR3 HB3 hR0
      have HC := Hid.mk' (And.intro c0 (And.intro c1 c2))
      clear c0 c1 c2
      go_loopw [9, 10] (fun c9 c10 wr => ∃ j : Nat, j ≤ 5 ∧ c9 = .int .i64 (waitK R j) ∧ c10 = .int .i64 j ∧ Below w3.heap.size w3 wr) (fun _ c10 _ => 5 - (intOf c10).toNat)
      case atStart => exact ⟨0, by omega, by rw [waitK_zero]; rfl, rfl, Below.refl _ _⟩
      case round =>
        obtain ⟨j, hj, rfl, rfl, hBj⟩ := hrel
        by_cases hj5 : j < 5
        · obtain ⟨pth, lf, N0, N1, b0, b1, U0, U1, nw, nums, hq, hwk, hnw, hat⟩ := HL.out j hj5
          have HAT := Hid.mk' hat
          have HWK := Hid.mk' hwk
          have hwj := waitK_le R j
          clear hat hwk HL HW HC
          have hji : (j : Int) < 5 := by omega
          have hw0 : IntKind.i64.wrap ((waitK R j : Int) + nw) = (waitK R j : Int) + nw := by rw [IntKind.wrap_i64]; omega
          go_upto_region 20 with (go_at_call 19; refine (hq _ hBj).mono ?_; rintro e w4 ⟨a1, c1', rfl, hb4, hc1, hc2, hnums⟩)
          obtain ⟨W5, hW5⟩ : ∃ W5, W5 = w4.alloc (.cells #[.string pth, .bool lf, .int .i64 N0, .int .i64 N1, .int .i64 b0, .int .i64 b1, .int .i64 U0, .int .i64 U1, .slice a1 nw c1'] 37) := ⟨_, rfl⟩
          have bq : Blk W5 w4.heap.size 37 #[.string pth, .bool lf, .int .i64 N0, .int .i64 N1, .int .i64 b0, .int .i64 b1, .int .i64 U0, .int .i64 U1, .slice a1 nw c1'] := by rw [hW5]; exact Blk.new w4 37 _
          have hb45 : Below w4.heap.size w4 W5 := by rw [hW5]; exact (Below.refl _ _).alloc (Nat.le_refl _) _
          have hB4 : Below w3.heap.size w3 w4 := hBj.trans (hb4.mono hBj.size)
          have hB5 : Below w3.heap.size w3 W5 := hB4.trans (hb45.mono hB4.size)
          have HN : Hid (∀ i, i < nw → ∃ g, a1 = some ⟨g, 0, none⟩ ∧ g < W5.heap.size ∧ W5.cell? ⟨g, i, none⟩ = some (.int .i64 (nums i))) := fun i hi => by
            obtain ⟨g, e1, e2, e3⟩ := hnums.out i hi
            exact ⟨g, e1, Nat.lt_of_lt_of_le e2 hb45.size, (hb45.cell (p := ⟨g, i, none⟩) e2).trans e3⟩
          rw [← hW5]
          clear hW5 hb45 hB4 hb4 hnums hq
          generalize w4.heap.size = g4 at *
          go_loopw [13] (fun i wx => ∃ m : Nat, m ≤ nw ∧ i = .int .i64 m ∧ Below W5.heap.size W5 wx) (fun i _ => nw - (intOf i).toNat)
          case atStart => exact ⟨0, by omega, rfl, Below.refl _ _⟩
          case round =>
            obtain ⟨m, hm, rfl, hBm⟩ := hrel
            have bqm := bq.below hBm bq.lt
            have y8 := bqm.cell 8
            simp only [List.getElem?_toArray, List.getElem?_cons_zero, List.getElem?_cons_succ] at y8
            have hB3m : Below w3.heap.size w3 wr := hB5.trans (hBm.mono hB5.size)
            by_cases hmn : m < nw
            · obtain ⟨g, ha1, hgl, hgc⟩ := HN.out m hmn
              subst ha1
              obtain ⟨d0, d1, st, hfd, hft⟩ := HAT.out m hmn
              have y9 := (hBm.cell (p := ⟨g, m, none⟩) hgl).trans hgc
              generalize nums m = num at *
              have hmi : (m : Int) < nw := by omega
              clear HN HAT HE
              go_upto_region 23 with (go_at_call 20; refine (hfd _ hB3m).mono ?_; rintro e w6 ⟨rfl, hb6⟩)
              obtain ⟨W7, hW7⟩ : ∃ W7, W7 = w6.alloc (.cells #[.int .i64 num, .int .i64 j, .int .i64 d0, .int .i64 d1, .bool false, .int .i64 st] 41) := ⟨_, rfl⟩
              have bw : Blk W7 w6.heap.size 41 #[.int .i64 num, .int .i64 j, .int .i64 d0, .int .i64 d1, .bool false, .int .i64 st] := by rw [hW7]; exact Blk.new w6 41 _
              have hB7 : Below wr.heap.size wr W7 := by rw [hW7]; exact hb6.alloc hb6.size _
              have hBm7 : Below W5.heap.size W5 W7 := hBm.trans (hB7.mono hBm.size)
              have hB37 : Below w3.heap.size w3 W7 := hB3m.trans (hB7.mono hB3m.size)
              rw [← hW7]
              clear hW7 hb6 hfd hB7
              generalize w6.heap.size = g6 at *
              have z1 := bw.cell 1
              have z2 := bw.cell 2
              have z3 := bw.cell 3
              have z4 := bw.cell 4
              simp only [List.getElem?_toArray, List.getElem?_cons_zero, List.getElem?_cons_succ] at z1 z2 z3 z4
              go_upto_region 26 with (go_at_call 21; refine (hft _ hB37).mono ?_; rintro e w8 ⟨⟨b, rfl, hb0⟩, hb8⟩)
              have hBm8 : Below W5.heap.size W5 w8 := hBm7.trans (hb8.mono hBm7.size)
              by_cases hm0 : m = 0
              · have hbf := hb0 hm0
                subst hbf
                subst hm0
                go_wp2_with fail
                exact ⟨⟨1, by omega, rfl, hBm8⟩, by simp [intOf]; omega⟩
              · have hmi0 : ¬ ((m : Int) = 0) := by omega
                clear hb0
                go_wp2_with fail
                exact ⟨⟨m + 1, by omega, by go_num, hBm8⟩, by simp [intOf]; omega⟩
            · have hmi : ¬ ((m : Int) < nw) := by omega
              clear HN HAT HE
              go_wp2_with fail
              exact ⟨⟨j + 1, by omega, by rw [HWK.out]; simp, by go_num, hB3m⟩, by simp [intOf]; omega⟩
        · have hji : ¬ ((j : Int) < 5) := by omega
          obtain rfl : j = 5 := by omega
          clear HL
          have hw5 := waitK_le R 5
          go_upto_region 29 with fail
          go_loopw [9, 17] (fun c9 c17 wx => ∃ i : Nat, i ≤ R.works.length ∧ c9 = .int .i64 ((waitK R 5 : Int) - outK R i) ∧ c17 = .int .i64 i ∧ Below w3.heap.size w3 wx) (fun _ c17 _ => R.works.length - (intOf c17).toNat)
          case atStart => exact ⟨0, by omega, by rw [outK_zero]; simp, rfl, hBj⟩
          case round =>
            obtain ⟨i, hi, rfl, rfl, hBi⟩ := hrel
            obtain ⟨c0, c1, c2⟩ := HC.out
            have t0 := (hBi.cell (p := ⟨rb, 0, none⟩) hrl).trans c0
            have t1 := (hBi.cell (p := ⟨rb, 1, none⟩) hrl).trans c1
            have t2 := (hBi.cell (p := ⟨rb, 2, none⟩) hrl).trans c2
            have ho := outK_le R i
            clear c0 c1 c2
            by_cases hin : i < R.works.length
            · obtain ⟨g, c, gp, cp', lf, num, d0, d1, inn, pth, ew, ep, ⟨l1, l2, l3, l4, l5, l6, l7⟩, p0, p1, p2, p3, p4, p5, hcw, hout⟩ := HW.out i hin
              simp only [Value.slice.injEq] at ew ep
              obtain ⟨rfl, _, rfl⟩ := ew
              obtain ⟨rfl, _, rfl⟩ := ep
              have hbc := fun (a : Nat) => hBi.cell (p := ⟨g, a, none⟩) l1
              have s0 := (hbc _).trans p0
              have s1 := (hbc _).trans p1
              have s2 := (hbc _).trans p2
              have s3 := (hbc _).trans p3
              have s4 := (hbc _).trans p4
              have s5 := (hBi.cell (p := ⟨gp, lf, none⟩) l2).trans p5
              clear hbc p0 p1 p2 p3 p4 p5 HW
              have hii : (i : Int) < R.works.length := by omega
              have hlf8 : (lf : Int) < 8 := by omega
              have hsz := hBi.size
              have nr := hBi.size
              have hrl' : rb < wr.heap.size := Nat.lt_of_lt_of_le hrl hsz
              have hgl' : g < wr.heap.size := Nat.lt_of_lt_of_le l1 hsz
              have nr0 : ¬ (rb = wr.heap.size) := by omega
              have nr1 : ¬ (wr.heap.size = rb) := by omega
              have ng0 : ¬ (g = wr.heap.size) := by omega
              have ng1 : ¬ (wr.heap.size = g) := by omega
              go_upto_region 31 with fail
              go_cut [18, 19] from 103 to 175 (fun c18 c19 wx => ∃ b, c18 = .pointer (some ⟨b, 0, none⟩) ∧ c19 = .int .i64 0 ∧ Below wr.heap.size wr wx ∧ Blk wx b 52 #[.string pth, .int .i64 d0, .int .i64 d1, .bool inn])
              case first =>
                go_region_held3 (fun w' => w'.cell? ⟨rb, 0, none⟩ = some (.pointer (some ⟨bt, 0, none⟩)) ∧ w'.cell? ⟨rb, 2, none⟩ = some (.slice (some ⟨g, 0, none⟩) R.works.length cw) ∧ w'.cell? ⟨g, i * 6, none⟩ = some (.int .i64 num)) (go_keep)
                  (first
                  | (go_at_call 22; refine (hcw _ (qab hBi ?_)).mono ?_; (focus exact bel2); rintro e w6 ⟨rfl, hb6⟩; have hB6 : Below wr.heap.size wr w6 := qab (by exact bel2) hb6; have hz6 := hB6.size; have e0 := (hB6.cell (p := ⟨rb, 0, none⟩) hrl').trans t0; have e2 := (hB6.cell (p := ⟨rb, 2, none⟩) hrl').trans t2; have e6 := (hB6.cell (p := ⟨g, i * 6, none⟩) hgl').trans s0; have ng6 : ¬ (g = w6.heap.size) := (by omega); have nr6 : ¬ (rb = w6.heap.size) := (by omega); (try (have b6 : Blk w6 wr.heap.size 52 #[.string ⟨#[]⟩, .int .i64 0, .int .i64 0, .bool false] := Blk.below (by first | (with_reducible exact Blk.new _ _ _) | (with_reducible exact Blk.drew (Blk.new _ _ _)) | (with_reducible exact Blk.new' (by simp)) | (with_reducible exact Blk.drew (Blk.new' (by simp)))) hb6 (by simp); have cb6 := b6.cell; have fb6 := b6.frozen; have lb6 := b6.lt))))
                all_goals go_wp2_with fail
                all_goals go_meet
                all_goals first
                  | exact ⟨_, rfl, rfl, hB6.alloc hz6 _, Blk.new' rfl⟩
                  | (refine ⟨_, rfl, rfl, (((hB6.setCell (by simp) _).setCell (by simp) _).setCell (by simp) _).setCell (by simp) _, ?_⟩; have h9 := (((b6.set 0 (.string pth)).set 1 (.int .i64 d0)).set 2 (.int .i64 d1)).set 3 (.bool inn); simpa using h9)
              case rest =>
                obtain ⟨b, rfl, rfl, hBc, bc⟩ := hcut
                have hbc := fun (a : Nat) => hBc.cell (p := ⟨g, a, none⟩) hgl'
                have y1 := (hbc _).trans s1
                have y2 := (hbc _).trans s2
                have y3 := (hbc _).trans s3
                have y4 := (hbc _).trans s4
                have hgp' : gp < wr.heap.size := by omega
                have y5 := (hBc.cell (p := ⟨gp, lf, none⟩) hgp').trans s5
                have y6 := (hBc.cell (p := ⟨rb, 1, none⟩) hrl').trans t1
                have y7 := (hBc.cell (p := ⟨rb, 2, none⟩) hrl').trans t2
                have z0 := bc.cell 0
                have z1 := bc.cell 1
                have z2 := bc.cell 2
                have z3 := bc.cell 3
                simp only [List.getElem?_toArray, List.getElem?_cons_zero, List.getElem?_cons_succ] at z0 z1 z2 z3
                have hB3c := hBi.trans (hBc.mono hBi.size)
                have hszc := hBc.size
                have HO := Hid.mk' hout
                have he := equal52K
                clear hbc hout hcw HC t0 t1 t2 s0 s1 s2 s3 s4 s5 hBc nr0 nr1 ng0 ng1
                go_upto_region 32 with fail
                go_quiet (fail)
                obtain ⟨W9, hW9⟩ : ∃ W9, W9 = wc.drewN nq := ⟨_, rfl⟩
                have hB9 : Below w3.heap.size w3 W9 := by rw [hW9]; exact below_drewN hB3c nq
                have hBc9 : Below wc.heap.size wc W9 := by rw [hW9]; exact below_drewN (Below.refl _ _) nq
                have hrc : rb < wc.heap.size := by omega
                have hgc : g < wc.heap.size := by omega
                have x4 := (hBc9.cell (p := ⟨g, i * 6 + 4, none⟩) hgc).trans y4
                have x7 := (hBc9.cell (p := ⟨rb, 2, none⟩) hrc).trans y7
                rw [← hW9]
                clear hW9 hBc9 y1 y2 y3 y4 y5 y6 y7 z0 z1 z2 z3 he bc
                cases inn
                · have HO2 : Hid ((outK R (i + 1) : Int) = (outK R i : Int) + 1) := by have := HO.out; simp at this; show (outK R (i + 1) : Int) = (outK R i : Int) + 1; omega
                  have hw9 : IntKind.i64.wrap ((waitK R 5 : Int) - outK R i - 1) = (waitK R 5 : Int) - outK R i - 1 := by rw [IntKind.wrap_i64]; omega
                  clear HO
                  go_wp2_with fail
                  exact ⟨⟨i + 1, by omega, by rw [HO2.out]; congr 1; omega, by go_num, hB9⟩, by simp [intOf]; omega⟩
                · have HO2 : Hid (outK R (i + 1) = outK R i) := Hid.mk' (by have := HO.out; simpa using this)
                  clear HO
                  go_wp2_with fail
                  exact ⟨⟨i + 1, by omega, by rw [HO2.out], by go_num, hB9⟩, by simp [intOf]; omega⟩
            · have hii : ¬ ((i : Int) < R.works.length) := by omega
              obtain rfl : i = R.works.length := by omega
              have hz : (waitK R 5 : Int) - outK R R.works.length = 0 := by rw [HWE.out]; omega
              have HF := HE.out _ hBi
              clear HW HC HE
              go_wp2_with fail
              exact ⟨⟨k + 1, by omega, by omega, by go_num, HF.1, HF.2⟩, by simp [intOf]; omega⟩
    · have hki2 : ¬ ((k : Int) < ls) ∨ ¬ ((k : Int) < 50) := by omega
      have hki0 : (0 : Int) ≤ k := by omega
      rcases hki2 with hki2 | hki2
      all_goals go_wp2_with fail
      all_goals go_ret
      all_goals exact ⟨rfl, hBW⟩
end Go.Proofs.YtphclnolomgjoaaGreatDoor
