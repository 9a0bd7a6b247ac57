import Derived.Test.YtphclnolomgjoaaGreatDoorX03
import Derived.Test.YtphclnolomgjoaaGreatDoorB37
import Derived.Test.YtphclnolomgjoaaGreatDoorX01
import Derived.BigQuiet
set_option linter.unusedVariables false
set_option linter.unusedSimpArgs false
namespace Go.Proofs.YtphclnolomgjoaaGreatDoor
open Go.RowKit
section
variable {F : Nat → Prop} {W : World} {rb : Nat} {R : KR} {n : Nat} {nodes : List Node}
theorem fits_all (K : KInv nodes R.k) (I : RunI n R) {y : Wk} (h : ∀ i, i < 9 → tight R.k.L R.k.Ws y (entK R.k.L (keyI R i)) = false) : qbv R.k.L R.k.Ws y = true := by
  unfold qbv
  rw [List.all_eq_true]
  intro e he
  have hm := (qsj K I).mem_iff.1 he
  obtain ⟨p, hp, rfl⟩ := List.mem_map.1 hm
  rcases List.mem_cons.1 hp with rfl | hp
  · rw [show ([] : List Bs) = keyI R 0 from rfl, h 0 (by omega)]; rfl
  · obtain ⟨i, hi, e⟩ := List.getElem_of_mem hp
    have hk : keyI R (i + 1) = p := by simp [keyI, List.getD, List.getElem?_eq_getElem hi, e]
    have := I.len
    rw [← hk, h (i + 1) (by omega)]
    rfl
theorem fits_round (h : qau F W rb R) (I : RunI n R) {lf : Nat} (hlf : lf < 5) (y : Wk) (hy : y.key = R.paths.getD lf []) {k : Nat} (hk : k ≤ 8) : ∃ (pth : ByteArray) (l is : Bool) (N0 N1 b0 b1 U0 U1 : Int) (nw : Nat), Told R pth l N0 N1 b0 b1 U0 U1 nw ((k : Int) - 1) rb W ∧
    (∀ w, Calls Tryz.prog 35 #[.string (sb (qaa (R.paths.getD lf []))), .string pth] w fun e w' => e = .returned (.bool is) ∧ w' = w) ∧
    ((0 ≤ N0 ∧ N0 ≤ 20000) ∧ (0 ≤ N1 ∧ N1 ≤ 20000) ∧ (0 ≤ b0 ∧ b0 ≤ 1000) ∧ (0 ≤ b1 ∧ b1 ≤ 1000) ∧ (0 ≤ U0 ∧ U0 ≤ 24000) ∧ (0 ≤ U1 ∧ U1 ≤ 24000)) ∧
    (is = false ∨ (U0 + y.d0 ≤ N0 + b0 ∧ U1 + y.d1 ≤ N1 + b1) → tight R.k.L R.k.Ws y (entK R.k.L (keyI R k)) = false) := by
  obtain ⟨nodes, K⟩ := h.kinv
  obtain ⟨x, hx, hxk, hxl, hsz, hq⟩ := qs6 h K I hk
  have hbn := qiu K.tree.ents
  rw [K.L] at hbn
  have hbw := qyf K.inv.wks.wks (qaa x.key)
  have hxb : (0 ≤ x.b0 ∧ x.b0 ≤ 1000) ∧ (0 ≤ x.b1 ∧ x.b1 ≤ 1000) := by
    rw [← K.L] at hx
    obtain ⟨m, hm, rfl⟩ := List.mem_map.1 hx
    exact ⟨(K.tree.num m hm).2.2.1, (K.tree.num m hm).2.2.2.1⟩
  have hsz' : (sb (qaa x.key)).size ≤ 2000000 := by rw [hxk]; exact hsz
  have hek : entK R.k.L (keyI R k) = x := by
    unfold entK; rw [← hxk, qiw K hx]; rfl
  obtain ⟨p, hp⟩ : ∃ p, R.paths[lf]? = some p := ⟨_, List.getElem?_eq_getElem (by rw [I.len]; omega)⟩
  have hpd : R.paths.getD lf [] = p := by simp [List.getD, hp]
  have hin := fun w => qph (sb (qaa p)) (sb (qaa x.key)) w (I.small K hp) hsz'
  rw [qbs, qbs] at hin
  rw [hpd] at hy ⊢
  refine ⟨_, _, _, _, _, _, _, _, _, _, quf hq, hin, ⟨(hbn _).1, (hbn _).2, hxb.1, hxb.2, hbw.1, hbw.2⟩, fun hor => ?_⟩
  rw [hek]
  unfold tight
  rw [hy]
  rcases hor with e | ⟨e1, e2⟩
  · rw [e]; rfl
  · have a0 : sh0 R.k.L R.k.Ws x y.d0 = false := by unfold sh0; simp; omega
    have a1 : sh1 R.k.L R.k.Ws x y.d1 = false := by unfold sh1; simp; omega
    rw [a0, a1]; simp
def FitsOut (R : KR) (y : Wk) (W : World) (e : Ending) (w' : World) : Prop := (∃ b, e = .returned (.bool b) ∧ (b = true → qbv R.k.L R.k.Ws y = true)) ∧ Below W.heap.size W w'
set_option maxRecDepth 100000 in
set_option maxHeartbeats 4000000 in
theorem kfits (h : qau F W rb R) (I : RunI n R) {lf : Nat} (hlf : lf < 5) (y : Wk) (hy : y.key = R.paths.getD lf []) (hd0 : 0 ≤ y.d0 ∧ y.d0 ≤ 1000) (hd1 : 0 ≤ y.d1 ∧ y.d1 ≤ 1000) :
    Calls Tryz.prog 21 #[.pointer (some ⟨rb, 0, none⟩), .int .i64 lf, .agg #[.int .i64 y.d0, .int .i64 y.d1]] W (FitsOut R y W) := by
  have HR := Hid.mk' (fun (k : Nat) (hk : k ≤ 8) => fits_round h I hlf y hy hk)
  obtain ⟨nodes, K⟩ := h.kinv
  have HF := Hid.mk' (fits_all K I (y := y))
  obtain ⟨P, bt, vp, vw, vl, h⟩ := h
  obtain ⟨p, hp⟩ : ∃ p, R.paths[lf]? = some p := ⟨_, List.getElem?_eq_getElem (by rw [I.len]; omega)⟩
  have hpd : R.paths.getD lf [] = p := by simp [List.getD, hp]
  obtain ⟨gp, cp, hvp, hgl, hgne, hcp1, hcp2, q0⟩ := h.path hp
  have c1 := h.at_.cell 1
  simp only [List.getElem?_toArray, List.getElem?_cons_zero, List.getElem?_cons_succ] at c1
  rw [hvp, I.len] at c1
  rw [I.len] at hcp1
  rw [← hpd] at q0
  have hrl := h.at_.lt
  generalize sb (qaa (R.paths.getD lf [])) = pl at *
  clear h I hvp hpd hp hy K
  have hli : (lf : Int) < 8 := by omega
  have hli0 : (0 : Int) ≤ lf := by omega
  generalize y.d0 = e0 at *
  generalize y.d1 = e1 at *
  go_enter Tryz.func21, Tryz.ntmps21
  go_wp2
  go_loopw [7] (fun i wr => ∃ k : Nat, k ≤ 9 ∧ i = .int .i64 ((k : Int) - 1) ∧ Below W.heap.size W wr ∧ Blk wr W.heap.size 35 #[.int .i64 e0, .int .i64 e1] ∧ Hid (∀ i, i < k → tight R.k.L R.k.Ws y (entK R.k.L (keyI R i)) = false)) (fun i _ => (8 - intOf i).toNat)
  case atStart => exact ⟨0, by omega, rfl, by exact bel2, by exact blk2, fun i hi => by omega⟩
  case round =>
    obtain ⟨k, hk, rfl, hB, hb, hT⟩ := hrel
    have r1 := (hB.cell (p := ⟨rb, 1, none⟩) hrl).trans c1
    by_cases hlt : k < 9
    · obtain ⟨pth, l, is, N0, N1, b0, b1, U0, U1, nw, hq, hin, ⟨n0, n1, n2, n3, n4, n5⟩, hT1⟩ := HR.out k (by omega)
      have HT : Hid (is = false ∨ (U0 + e0 ≤ N0 + b0 ∧ U1 + e1 ≤ N1 + b1) → ∀ i, i < k + 1 → tight R.k.L R.k.Ws y (entK R.k.L (keyI R i)) = false) := fun hor i hi => by
        rcases (show i < k ∨ i = k by omega) with e | rfl
        · exact hT.out i e
        · exact hT1 hor
      clear hT1 HR hT
      have hki : (k : Int) - 1 < 8 := by omega
      go_upto_region 5 with (go_at_call 19; refine (hq _ hB).mono ?_; rintro e w1 ⟨a1, c1', rfl, hb1⟩)
      have hB1 := hB.trans (hb1.mono hB.size)
      have hl0 : W.heap.size < w1.heap.size := by have := hb.lt; have := hb1.size; omega
      obtain ⟨W5, hW5⟩ : ∃ W5, W5 = w1.alloc (.cells #[.string pth, .bool l, .int .i64 N0, .int .i64 N1, .int .i64 b0, .int .i64 b1, .int .i64 U0, .int .i64 U1, .slice a1 nw c1'] 37) := ⟨_, rfl⟩
      have bq : Blk W5 w1.heap.size 37 #[.string pth, .bool l, .int .i64 N0, .int .i64 N1, .int .i64 b0, .int .i64 b1, .int .i64 U0, .int .i64 U1, .slice a1 nw c1'] := by rw [hW5]; exact Blk.new w1 37 _
      have bd : Blk W5 W.heap.size 35 #[.int .i64 e0, .int .i64 e1] := by rw [hW5]; exact (hb.below hb1 (by have := hb.lt; omega)).alloc _
      have hB5 : Below W.heap.size W W5 := by rw [hW5]; exact hB1.alloc hB1.size _
      rw [← hW5]
      clear hW5 hb1 hB1 hq r1 hb
      generalize w1.heap.size = g1 at *
      have r1 := (hB5.cell (p := ⟨rb, 1, none⟩) hrl).trans c1
      have rq := (hB5.cell (p := ⟨gp, lf, none⟩) hgl).trans q0
      have y0 := bq.cell 0
      have y2 := bq.cell 2
      have y3 := bq.cell 3
      have y4 := bq.cell 4
      have y5 := bq.cell 5
      have y6 := bq.cell 6
      have y7 := bq.cell 7
      have x0 := bd.cell 0
      have x1 := bd.cell 1
      simp only [List.getElem?_toArray, List.getElem?_cons_zero, List.getElem?_cons_succ] at y0 y2 y3 y4 y5 y6 y7 x0 x1
      go_quiet ((go_at_call 35; exact Calls.quiet_of_same (hin _)))
      clear hin
      have HBD := Hid.mk' bd
      clear bd
      have w0 : IntKind.i64.wrap (N0 + b0) = N0 + b0 := by rw [IntKind.wrap_i64]; omega
      have w1' : IntKind.i64.wrap (N1 + b1) = N1 + b1 := by rw [IntKind.wrap_i64]; omega
      have w2 : IntKind.i64.wrap (U0 + e0) = U0 + e0 := by rw [IntKind.wrap_i64]; omega
      have w3 : IntKind.i64.wrap (U1 + e1) = U1 + e1 := by rw [IntKind.wrap_i64]; omega
      have HE : Hid (∀ e, e = Ending.returned (.bool false) → ∀ w', Below W.heap.size W w' → FitsOut R y W e w') := fun e he w' hw => ⟨⟨false, he, fun h => by cases h⟩, hw⟩
      go_wp2_with fail
      obtain ⟨W6, hW6⟩ : ∃ W6, W6 = W5.drewN nq := ⟨_, rfl⟩
      have bq6 : Blk W6 g1 37 #[.string pth, .bool l, .int .i64 N0, .int .i64 N1, .int .i64 b0, .int .i64 b1, .int .i64 U0, .int .i64 U1, .slice a1 nw c1'] := by rw [hW6]; exact bq.drewN _
      have bd6 : Blk W6 W.heap.size 35 #[.int .i64 e0, .int .i64 e1] := by rw [hW6]; exact HBD.out.drewN _
      have hB6 : Below W.heap.size W W6 := by rw [hW6]; exact below_drewN hB5 _
      rw [← hW6]
      clear hW6 bq HBD hB5 y0 y2 y3 y4 y5 y6 y7 x0 x1 r1 rq
      go_loopw [11] (fun i wx => ∃ j : Nat, j ≤ 2 ∧ i = .int .i64 j ∧ Hid (is = true → (1 ≤ j → U0 + e0 ≤ N0 + b0) ∧ (2 ≤ j → U1 + e1 ≤ N1 + b1)) ∧ ∃ m, wx = W6.drewN m) (fun i _ => 2 - (intOf i).toNat)
      case atStart => exact ⟨0, by omega, rfl, fun _ => ⟨fun h => by omega, fun h => by omega⟩, 0, rfl⟩
      case round =>
        obtain ⟨j, hj2, rfl, hc, m, rfl⟩ := hrel
        have bqm := bq6.drewN m
        have bdm := bd6.drewN m
        have hBm := below_drewN hB6 m
        have z2 := bq6.cell 2
        have z3 := bq6.cell 3
        have z4 := bq6.cell 4
        have z5 := bq6.cell 5
        have z6 := bq6.cell 6
        have z7 := bq6.cell 7
        have x0 := bd6.cell 0
        have x1 := bd6.cell 1
        simp only [List.getElem?_toArray, List.getElem?_cons_zero, List.getElem?_cons_succ] at z2 z3 z4 z5 z6 z7 x0 x1
        cases is
        · have HN := Hid.mk' (HT.out (.inl rfl))
          clear HT hc HE
          rcases (show j = 0 ∨ j = 1 ∨ j = 2 by omega) with rfl | rfl | rfl
          all_goals
            go_wp2_with fail
            exact ⟨⟨k + 1, by omega, by go_num, hBm, bdm, HN⟩, by simp [intOf]; omega⟩
        · rcases (show j = 0 ∨ j = 1 ∨ j = 2 by omega) with rfl | rfl | rfl
          · by_cases hn : U0 + e0 ≤ N0 + b0
            · have hng : ¬ (N0 + b0 < U0 + e0) := by omega
              have HC : Hid (true = true → (1 ≤ 1 → U0 + e0 ≤ N0 + b0) ∧ (2 ≤ 1 → U1 + e1 ≤ N1 + b1)) := fun _ => ⟨fun _ => hn, fun h => by omega⟩
              clear hc hn
              go_upto_region 9 with fail
              go_quiet (fail)
              go_wp2_with fail
              exact ⟨⟨1, by omega, rfl, fun _ => HC.out rfl, m + nq, rfl⟩, by simp [intOf]⟩
            · have hng : N0 + b0 < U0 + e0 := by omega
              clear hc hn HT
              go_upto_region 9 with fail
              go_quiet (fail)
              go_wp2_with fail
              go_ret
              exact HE.out _ rfl _ (below_drewN hBm _)
          · have h0 := (hc.out rfl).1 (by omega)
            by_cases hn : U1 + e1 ≤ N1 + b1
            · have hng : ¬ (N1 + b1 < U1 + e1) := by omega
              have HC : Hid (true = true → (1 ≤ 2 → U0 + e0 ≤ N0 + b0) ∧ (2 ≤ 2 → U1 + e1 ≤ N1 + b1)) := fun _ => ⟨fun _ => h0, fun _ => hn⟩
              clear hc hn h0
              go_upto_region 9 with fail
              go_quiet (fail)
              go_wp2_with fail
              exact ⟨⟨2, by omega, rfl, fun _ => HC.out rfl, m + nq, rfl⟩, by simp [intOf]⟩
            · have hng : N1 + b1 < U1 + e1 := by omega
              clear hc hn HT
              go_upto_region 9 with fail
              go_quiet (fail)
              go_wp2_with fail
              go_ret
              exact HE.out _ rfl _ (below_drewN hBm _)
          · have h0 := hc.out rfl
            have HN := Hid.mk' (HT.out (.inr ⟨h0.1 (by omega), h0.2 (by omega)⟩))
            clear HT hc h0 HE
            go_wp2_with fail
            exact ⟨⟨k + 1, by omega, by go_num, hBm, bdm, HN⟩, by simp [intOf]; omega⟩
    · have hki : ¬ ((k : Int) - 1 < 8) := by omega
      obtain rfl : k = 9 := by omega
      have HG := Hid.mk' (HF.out hT.out)
      clear hT HF HR
      have HE : Hid (∀ e, e = Ending.returned (.bool true) → ∀ w', Below W.heap.size W w' → FitsOut R y W e w') := fun e he w' hw => ⟨⟨true, he, fun _ => HG.out⟩, hw⟩
      go_wp2_with fail
      go_ret
      exact HE.out _ rfl _ hB
end
end Go.Proofs.YtphclnolomgjoaaGreatDoor
