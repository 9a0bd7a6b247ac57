import Derived.Test.YtphclnolomgjoaaGreatDoorY07
import Derived.Test.YtphclnolomgjoaaGreatDoorB37
import Derived.Test.YtphclnolomgjoaaGreatDoorY01
import Derived.BigQuiet
set_option linter.unusedVariables false
set_option linter.unusedSimpArgs false
namespace Go.Proofs.YtphclnolomgjoaaGreatDoor
open Go.RowKit
set_option maxRecDepth 100000 in
set_option maxHeartbeats 40000000 in
theorem kept_walk1 {W : World} {aq as_ am : Option Addr} {lq cq ls cs lm cm : Nat} {q : Nat → Int} {S M : Nat → Stp} (hq : QIn W aq lq q) (hlq : lq ≤ cq) (hcq : cq ≤ maxLen) (hS : StIn W as_ ls S) (hls : ls ≤ cs) (hcs : cs ≤ maxLen) (hM : StIn W am lm M) (hlm : lm ≤ cm) (hcm : cm ≤ maxLen) (wrong : ByteArray) (hwr : wrong.size ≤ 1500000) (hsa : ls ≤ 50) (hsb : lm ≤ 10) :
    Calls Tryz.prog 11 #[.slice aq lq cq, .slice as_ ls cs, .slice am lm cm, .string wrong] W fun e w' => e = .returned (.bool true) ∧ Below W.heap.size W w' := by
  have HS : Hid (StIn W as_ ls S) := hS
  have HM : Hid (StIn W am lm M) := hM
  clear hS hM
  have hlen : ls ≤ 9223372036854775807 := by unfold maxLen at hcs; omega
  have hlenm : lm ≤ 9223372036854775807 := by unfold maxLen at hcm; omega
  go_enter Tryz.func11, Tryz.ntmps11
  go_upto_region 5 with (first
    | (go_at_call 15; refine (ql8 _).mono ?_; rintro e w1 ⟨rfl, hb1⟩)
    | (go_at_call 16; refine (qqs (hq.below (n := 0) hb1) hlq hcq).mono ?_; rintro e w2 ⟨rb, rfl, hR2, hb2⟩))
  have hR0 : Hid (∃ R, RunI 0 R ∧ NmI R ∧ qau (fun b => b < w1.heap.size) w2 rb R) := by
    obtain ⟨nodes, K⟩ := hR2.kinv
    exact ⟨_, qyt K, nm_fresh _ _, hR2⟩
  clear hR2 hq
  go_wp2_with fail
  go_loopw [11] (fun i wr => ∃ k : Nat, k ≤ 50 ∧ k ≤ ls ∧ i = .int .i64 k ∧ Hid (∃ R, RunI k R ∧ NmI R ∧ qau (fun b => b < w1.heap.size) wr rb R) ∧ Below w1.heap.size w1 wr) (fun i _ => 50 - (intOf i).toNat)
  case atStart => exact ⟨0, Nat.zero_le _, Nat.zero_le _, rfl, hR0, hb2⟩
  case round =>
    obtain ⟨k, hk, hkl, rfl, hR, hB⟩ := hrel
    have hBW : Below W.heap.size W wr := hb1.trans (hB.mono hb1.size)
    by_cases hlt : k < ls ∧ k < 50
    · obtain ⟨hlt1, hlt2⟩ := hlt
      obtain ⟨gb, off, rfl, hgb, q0, q1, q2, q3, i0, i1, i2, i3⟩ := HS.out k hlt1
      have r0 := (hBW.cell (p := ⟨gb, off + k * 4, none⟩) hgb).trans q0
      have r1 := (hBW.cell (p := ⟨gb, off + k * 4 + 1, none⟩) hgb).trans q1
      have r2 := (hBW.cell (p := ⟨gb, off + k * 4 + 2, none⟩) hgb).trans q2
      have r3 := (hBW.cell (p := ⟨gb, off + k * 4 + 3, none⟩) hgb).trans q3
      have hst := kept_calls hR.out hlt2 i0 i1 i2 i3
      have hki : (k : Int) < ls := by omega
      have hki0 : (0 : Int) ≤ k := by omega
      have hki5 : (k : Int) < 50 := by omega
      clear q0 q1 q2 q3 hR
      go_wp2_with (go_at_call 17; refine hst.mono ?_; rintro e w3 ⟨rfl, hR3, hK3⟩)
      have hB3 := hB.trans (hK3.toBelow hB.size (fun b hb e => e hb))
      exact ⟨⟨k + 1, by omega, by omega, by go_num, hR3, hB3⟩, by simp [intOf]; omega⟩
    · have hki2 : ¬ ((k : Int) < ls) := by omega
      have hki0 : (0 : Int) ≤ k := by omega
      obtain ⟨R, hI, hN, hR⟩ := hR.out
      have hw9 : ∃ w9, w9 = wr := ⟨_, rfl⟩
      obtain ⟨w9, hw9⟩ := hw9
      rw [← hw9] at hB hBW hR ⊢
      clear hw9
      obtain ⟨P, bt, vp, vw, vl, hM⟩ := hR
      have HIN := Hid.mk' (And.intro hI hN)
      have HW0 : Hid (WasM w1.heap.size w9 rb R bt vp vw vl (.slice none 0 0) []) := by
        refine ⟨⟨P, hM.fo' (T := fun _ => False) (Keep.refl _ _) (fun b h => h.elim) (fun b h => ?_) (fun b h => ?_)⟩, World.ownsRow_nil _ _ _ _, fun b h => by simp [Value.ownBlock] at h, hB.size, fun i q h => by simp at h⟩
        · rcases h with h | h
          · exact .inl h
          · simp [Value.ownBlock] at h
        · rcases h with h | h
          · have := hB.size; omega
          · simp [Value.ownBlock] at h
      have HC1 : Hid (∀ N wx v qs, WasM N wx rb R bt vp vw vl v qs → ∃ gp cp, vp = .slice (some ⟨gp, 0, none⟩) 8 cp ∧ gp < wx.heap.size ∧ 8 ≤ cp ∧ cp ≤ maxLen ∧ rb < wx.heap.size ∧ wx.cell? ⟨rb, 0, none⟩ = some (.pointer (some ⟨bt, 0, none⟩)) ∧ wx.cell? ⟨rb, 1, none⟩ = some (.slice (some ⟨gp, 0, none⟩) 8 cp)) := fun N wx v qs h => by
        obtain ⟨P', hR⟩ := h.run
        obtain ⟨p, hp⟩ : ∃ p, R.paths[0]? = some p := ⟨_, List.getElem?_eq_getElem (by rw [hI.len]; omega)⟩
        obtain ⟨gp, cp, hvp, hgl, hgne, hcp1, hcp2, q0⟩ := hR.path hp
        rw [hI.len] at hvp hcp1
        have c0 := hR.at_.cell 0
        have c1 := hR.at_.cell 1
        simp only [List.getElem?_toArray, List.getElem?_cons_zero, List.getElem?_cons_succ] at c0 c1
        rw [hvp] at c1
        exact ⟨gp, cp, hvp, hgl, hcp1, hcp2, hR.at_.lt, c0, c1⟩
      have HTD : Hid (∀ N wx v qs, WasM N wx rb R bt vp vw vl v qs → ∀ i, i ≤ 8 → ∃ lf, Told R (sb (qaa (keyI R i))) lf (es0 (qai R.k.L (qaa (keyI R i)))) (es1 (qai R.k.L (qaa (keyI R i)))) (entK R.k.L (keyI R i)).b0 (entK R.k.L (keyI R i)).b1 (ws0 (qae R.k.Ws (qaa (keyI R i)))) (ws1 (qae R.k.Ws (qaa (keyI R i)))) (R.k.waits (entK R.k.L (keyI R i))).length ((i : Int) - 1) rb wx) := fun N wx v qs h i hi => by
        obtain ⟨P', hR⟩ := h.run
        exact told_at ⟨_, _, _, _, _, hR⟩ hI hi
      have HK50 : Hid (k ≤ 50) := hk
      clear hM hI hN
      all_goals
        go_upto_region 13 with fail
        go_loopw [13, 14] (fun c13 c14 wr => WasR w1.heap.size rb R bt vp vw vl w9 c13 c14 wr) (fun _ j _ => (8 - intOf j).toNat)
        case atStart => exact ⟨0, [], none, 0, by omega, rfl, rfl, rfl, Below.refl _ _, HW0.out⟩
        case round =>
          obtain ⟨j, qs, a, c, hj, hqs, rfl, rfl, hBj, hWj⟩ := hrel
          obtain ⟨gp, cp, hvp, hgp, hcp1, hcp2, hrl, c0, c1⟩ := HC1.out _ _ _ _ hWj.out
          by_cases hj9 : j < 9
          · obtain ⟨lf, hT⟩ := HTD.out _ _ _ _ hWj.out j (by omega)
            subst hqs
            have hji : (qs.length : Int) - 1 < 8 := by omega
            have HAP : Hid (∀ Wx nb a1 c1, Below wr.heap.size wr Wx → Blk Wx nb 37 #[.string (sb (qaa (keyI R qs.length))), .bool lf, .int .i64 (es0 (qai R.k.L (qaa (keyI R qs.length)))), .int .i64 (es1 (qai R.k.L (qaa (keyI R qs.length)))), .int .i64 (entK R.k.L (keyI R qs.length)).b0, .int .i64 (entK R.k.L (keyI R qs.length)).b1, .int .i64 (ws0 (qae R.k.Ws (qaa (keyI R qs.length)))), .int .i64 (ws1 (qae R.k.Ws (qaa (keyI R qs.length)))), .slice a1 (R.k.waits (entK R.k.L (keyI R qs.length))).length c1] → ∃ v' w', (∀ ty, (Builtin.append_ #[61, 61] ty #[.slice a qs.length c, .slice (some ⟨nb, 0, none⟩) 1 1]).run Tryz.prog Wx = .ok v' w') ∧ ∃ a' c', v' = .slice a' (qs.length + 1) c' ∧ Hid (WasR w1.heap.size rb R bt vp vw vl w9 (.slice a' (qs.length + 1) c') (.int .i64 (qs.length : Int)) w')) := fun Wx nb a1 c1 hb hB => by
              obtain ⟨v', w', h1, a', c', rfl, h2⟩ := (hWj.out.below hb).app (by omega) ⟨sb (qaa (keyI R qs.length)), lf, es0 (qai R.k.L (qaa (keyI R qs.length))), es1 (qai R.k.L (qaa (keyI R qs.length))), (entK R.k.L (keyI R qs.length)).b0, (entK R.k.L (keyI R qs.length)).b1, ws0 (qae R.k.Ws (qaa (keyI R qs.length))), ws1 (qae R.k.Ws (qaa (keyI R qs.length))), a1, (R.k.waits (entK R.k.L (keyI R qs.length))).length, c1⟩ ⟨rfl, rfl, rfl, rfl, rfl, rfl, rfl, rfl⟩ nb hB
              refine ⟨_, w', h1, a', c', rfl, qs.length + 1, _, a', c', by omega, ?_, by congr 1; omega, rfl, (hBj.trans (hb.mono hWj.out.le)).trans h2.out.2, h2.out.1⟩
              simp
            clear hWj HTD HC1 HW0 hvp
            generalize sb (qaa (keyI R qs.length)) = t0 at *
            generalize es0 (qai R.k.L (qaa (keyI R qs.length))) = t1 at *
            generalize es1 (qai R.k.L (qaa (keyI R qs.length))) = t2 at *
            generalize (entK R.k.L (keyI R qs.length)).b0 = t3 at *
            generalize (entK R.k.L (keyI R qs.length)).b1 = t4 at *
            generalize ws0 (qae R.k.Ws (qaa (keyI R qs.length))) = t5 at *
            generalize ws1 (qae R.k.Ws (qaa (keyI R qs.length))) = t6 at *
            generalize (R.k.waits (entK R.k.L (keyI R qs.length))).length = t7 at *
            go_upto_region 16 with (go_at_call 19; refine (hT _ (Below.refl _ _)).mono ?_; rintro e w4 ⟨a1, c1', rfl, hb4⟩)
            have bq : Blk (w4.alloc (.cells #[.string t0, .bool lf, .int .i64 t1, .int .i64 t2, .int .i64 t3, .int .i64 t4, .int .i64 t5, .int .i64 t6, .slice a1 t7 c1'] 37)) w4.heap.size 37 #[.string t0, .bool lf, .int .i64 t1, .int .i64 t2, .int .i64 t3, .int .i64 t4, .int .i64 t5, .int .i64 t6, .slice a1 t7 c1'] := Blk.new w4 37 _
            go_wp2_with (at_builtin; refine qbd (by rfl) _ _ _ _ rfl _ _ rfl (by rfl) (HAP.out _ _ a1 c1' (qab hb4 (by exact bel2)) (by exact blk2)) ?_; rintro v' w5 ⟨a5, c5, rfl, hfin⟩)
            exact ⟨hfin.out, by simp [intOf]; omega⟩
          · have hji : ¬ ((j : Int) - 1 < 8) := by omega
            obtain rfl : j = 9 := by omega
            clear HW0
            go_upto_region 18 with fail
            obtain ⟨wa, hwa⟩ : ∃ wa, wa = wr := ⟨_, rfl⟩
            rw [← hwa] at hBj hWj hgp hrl c0 c1 ⊢
            clear hwa
            have hqs9 : qs.length = 9 := hqs
            have HQS := Hid.mk' hqs9
            clear hqs hqs9
            go_loopw [17] (fun c17 wx => ∃ i : Nat, i ≤ 10 ∧ i ≤ lm ∧ c17 = .int .i64 i ∧ Below w1.heap.size wa wx ∧ Hid (WasM w1.heap.size wx rb R bt vp vw vl (.slice a 9 c) qs)) (fun i _ => 10 - (intOf i).toNat)
            case atStart => exact ⟨0, by omega, by omega, rfl, Below.refl _ _, hWj⟩
            case round =>
              obtain ⟨i, hi, hil, rfl, hBi, hWi⟩ := hrel
              have hBWi : Below W.heap.size W wr := hBW.trans ((hBj.trans hBi).mono hb1.size)
              by_cases hlt3 : i < lm ∧ i < 10
              · obtain ⟨hlt1, hlt2⟩ := hlt3
                obtain ⟨gb, off, ham, hgb, q0, q1, q2, q3, i0, i1, i2, i3⟩ := HM.out i hlt1
                subst ham
                have r0 := (hBWi.cell (p := ⟨gb, off + i * 4, none⟩) hgb).trans q0
                have r1 := (hBWi.cell (p := ⟨gb, off + i * 4 + 1, none⟩) hgb).trans q1
                have r2 := (hBWi.cell (p := ⟨gb, off + i * 4 + 2, none⟩) hgb).trans q2
                have r3 := (hBWi.cell (p := ⟨gb, off + i * 4 + 3, none⟩) hgb).trans q3
                have hii : (i : Int) < lm := by omega
                have hii0 : (0 : Int) ≤ i := by omega
                have hii1 : (i : Int) < 10 := by omega
                have hpk := qfz (M i).a 8 i1 (by omega) (by omega)
                have hpk2 := qfz (M i).b 1000 i2 (by omega) (by omega)
                have hkk := qef (M i).a (n := 8) (by omega)
                have hpb0 : (pkN (M i).b 1000 : Int) < 1000 := by have := qef (M i).b (n := 1000) (by omega); omega
                have hwn : IntKind.i64.wrap (-(pkN (M i).b 1000 : Int)) = -(pkN (M i).b 1000 : Int) := by rw [IntKind.wrap_i64]; omega
                have hpb : 0 ≤ (pkN (M i).b 1000 : Int) ∧ (pkN (M i).b 1000 : Int) < 1000 := by have := qef (M i).b (n := 1000) (by omega); omega
                obtain ⟨hI, hN⟩ := HIN.out
                obtain ⟨p, hp⟩ : ∃ p, R.paths[pkN (M i).a 8]? = some p := ⟨_, List.getElem?_eq_getElem (by rw [hI.len]; exact hkk)⟩
                obtain ⟨F2, hF2⟩ : ∃ F2 : Nat → Prop, F2 = fun b => (b < w1.heap.size ∨ (Value.slice a 9 c).ownBlock = some b) ∨ b = wr.heap.size := ⟨_, rfl⟩
                have hF2g : F2 wr.heap.size := by rw [hF2]; exact .inr rfl
                obtain ⟨RS, hRS⟩ : ∃ RS : World → Prop, RS = fun w => ∃ P, RunM F2 w rb R P bt vp vw vl := ⟨_, rfl⟩
                have hrs5 : RS (wr.alloc (.cells #[.int .i64 (M i).k, .int .i64 (M i).a, .int .i64 (M i).b, .int .i64 (M i).c] 32)) := by
                  rw [hRS]
                  obtain ⟨P', hR'⟩ := hWi.out.run
                  refine ⟨P', hR'.fo' (Keep.new (T := fun _ => False) ((Below.refl _ _).alloc (Nat.le_refl _) _)) (fun b h => h.elim) (fun b h => ?_) (fun b h => ?_)⟩
                  · rw [hF2] at h
                    rcases h with h | h
                    · exact .inl h
                    · exact .inr (by omega)
                  · rw [hF2] at h
                    rcases h with h | h
                    · have := hR'.fo b h; simp; omega
                    · simp; omega
                obtain ⟨gp', cp', hvp', hgp', hcp1', hcp2', hrl', e0, e1⟩ := HC1.out _ _ _ _ hWi.out
                have hvv : gp' = gp ∧ cp' = cp := by
                  have h9 := hvp.symm.trans hvp'
                  injection h9 with h1 h2 h3
                  injection h1 with h1
                  injection h1 with h1
                  exact ⟨h1.symm, h3.symm⟩
                obtain ⟨rfl, rfl⟩ := hvv
                obtain ⟨nodes, K⟩ : ∃ nodes, KInv nodes R.k := by
                  obtain ⟨P', hR'⟩ := hWi.out.run
                  exact qau.kinv ⟨_, _, _, _, _, hR'⟩
                have HRB : Hid (∀ w w', RS w → Below w.heap.size w w' → RS w') := fun w w' h hb => by
                  rw [hRS] at h ⊢
                  obtain ⟨P', h⟩ := h
                  exact ⟨P', h.below hb⟩
                have HCL : Hid (∀ w, RS w → w.cell? ⟨rb, 0, none⟩ = some (.pointer (some ⟨bt, 0, none⟩)) ∧ w.cell? ⟨rb, 1, none⟩ = some (.slice (some ⟨gp', 0, none⟩) 8 cp') ∧ w.cell? ⟨gp', pkN (M i).a 8, none⟩ = some (.string (sb (qaa p)))) := fun w h => by
                  rw [hRS] at h
                  obtain ⟨P', hR⟩ := h
                  obtain ⟨g9, c9, hv9, _, _, _, _, q9⟩ := hR.path hp
                  have c0 := hR.at_.cell 0
                  have c1 := hR.at_.cell 1
                  simp only [List.getElem?_toArray, List.getElem?_cons_zero, List.getElem?_cons_succ] at c0 c1
                  have h9 := hvp.symm.trans hv9
                  injection h9 with h1 h2 h3
                  injection h1 with h1
                  injection h1 with h1
                  subst h1
                  rw [hvp] at c1
                  exact ⟨c0, c1, q9⟩
                have H26 : Hid (∀ w, RS w → Calls Tryz.prog 26 #[.pointer (some ⟨bt, 0, none⟩), .string (sb (qaa p)), .agg #[.int .i64 1, .int .i64 1], .agg #[.int .i64 0, .int .i64 0]] w fun e w' => ∃ ev, e = .returned (.tuple #[ev, .int .i64 4]) ∧ RS w' ∧ Keep (fun b => ¬ F2 b) w w') := fun w h => by
                  rw [hRS] at h ⊢
                  obtain ⟨P', h⟩ := h
                  exact kp_leafC h hI K hp
                have H27 : Hid (∀ w, RS w → Calls Tryz.prog 27 #[.pointer (some ⟨bt, 0, none⟩), .string (sb (qaa p)), .agg #[.int .i64 0, .int .i64 0]] w fun e w' => ∃ ev, e = .returned (.tuple #[ev, .int .i64 4]) ∧ RS w' ∧ Keep (fun b => ¬ F2 b) w w') := fun w h => by
                  rw [hRS] at h ⊢
                  obtain ⟨P', h⟩ := h
                  exact kp_cohortC h hI K hp
                have H28 : Hid (∀ w m, m ≤ 0 → RS w → Calls Tryz.prog 28 #[.pointer (some ⟨bt, 0, none⟩), .int .i64 m] w fun e w' => ∃ ev, e = .returned (.tuple #[ev, .int .i64 12]) ∧ RS w' ∧ Keep (fun b => ¬ F2 b) w w') := fun w m hm h => by
                  rw [hRS] at h ⊢
                  obtain ⟨P', h⟩ := h
                  exact kp_finishC h K hm
                have H29 : Hid (∀ w, RS w → Calls Tryz.prog 29 #[.pointer (some ⟨bt, 0, none⟩), .string (sb (qaa p)), .agg #[.int .i64 (-1), .int .i64 0], .agg #[.int .i64 0, .int .i64 0]] w fun e w' => ∃ ev, e = .returned (.tuple #[ev, .int .i64 6]) ∧ RS w' ∧ Keep (fun b => ¬ F2 b) w w') := fun w h => by
                  rw [hRS] at h ⊢
                  obtain ⟨P', h⟩ := h
                  exact kp_quotaC h hI K hp
                obtain ⟨er, her, H30⟩ : ∃ er : Int, (er = 5 ∨ er = 10) ∧ Hid (∀ w, RS w → Calls Tryz.prog 30 #[.pointer (some ⟨bt, 0, none⟩), .string (sb (qaa p)), .string (sb (qaa p))] w fun e w' => ∃ ev, e = .returned (.tuple #[ev, .int .i64 er]) ∧ RS w' ∧ Keep (fun b => ¬ F2 b) w w') := by
                  have h5 := hrs5
                  rw [hRS] at h5
                  obtain ⟨P5, h5⟩ := h5
                  obtain ⟨er, h1, h2⟩ := kp_moveC h5 hI K hp
                  refine ⟨er, h1, fun w h => ?_⟩
                  rw [hRS] at h ⊢
                  obtain ⟨P', h⟩ := h
                  exact h2 h
                have H31 : Hid (∀ w, RS w → Calls Tryz.prog 31 #[.pointer (some ⟨bt, 0, none⟩), .string ⟨#[]⟩] w fun e w' => ∃ ev, e = .returned (.tuple #[ev, .int .i64 2]) ∧ RS w' ∧ Keep (fun b => ¬ F2 b) w w') := fun w h => by
                  rw [hRS] at h ⊢
                  obtain ⟨P', h⟩ := h
                  exact kp_removeC h
                have H32 : Hid (∀ w, RS w → Calls Tryz.prog 32 #[.pointer (some ⟨bt, 0, none⟩), .string ⟨#[120, 47, 110, 111, 110, 101]⟩, .agg #[.int .i64 0, .int .i64 0]] w fun e w' => ∃ ev, e = .returned (.tuple #[.int .i64 0, ev, .int .i64 3]) ∧ RS w' ∧ Keep (fun b => ¬ F2 b) w w') := fun w h => by
                  rw [hRS] at h ⊢
                  obtain ⟨P', h⟩ := h
                  exact kp_submitC h hI (by have := HK50.out; omega) hN
                have HND : Hid (∀ w', RS w' → Keep (fun b => ¬ F2 b) (wr.alloc (.cells #[.int .i64 (M i).k, .int .i64 (M i).a, .int .i64 (M i).b, .int .i64 (M i).c] 32)) w' → Below w1.heap.size wa w' ∧ Hid (WasM w1.heap.size w' rb R bt vp vw vl (.slice a 9 c) qs)) := fun w' h hk => by
                  rw [hRS] at h
                  obtain ⟨P', h⟩ := h
                  have hW := hWi.out
                  have hle := hW.le
                  have hz := hk.size
                  simp at hz
                  have hb5 : Below wr.heap.size wr (wr.alloc (.cells #[.int .i64 (M i).k, .int .i64 (M i).a, .int .i64 (M i).b, .int .i64 (M i).c] 32)) := (Below.refl _ _).alloc (Nat.le_refl _) _
                  have hk5 : Keep (fun b => ¬ F2 b) wr w' := (Keep.new hb5).trans hk
                  refine ⟨hBi.trans ⟨hk5.os, hk5.tape, hk5.output, hk5.size, fun b hb => hk5.block b (by omega) (fun e => e (by rw [hF2]; exact .inl (.inl hb)))⟩, ⟨P', h.fo' (T := fun _ => False) (Keep.refl _ _) (fun b h => h.elim) (fun b hb => .inl (by rw [hF2]; exact .inl hb)) (fun b hb => ?_)⟩, qaf hW.row hk5 (fun b hb e => e (by rw [hF2]; exact .inl (.inr hb))), hW.new, by omega, hW.tell⟩
                  obtain ⟨P9, hR9⟩ := hW.run
                  have := hR9.fo b hb
                  omega
                have bs5 : Blk (wr.alloc (.cells #[.int .i64 (M i).k, .int .i64 (M i).a, .int .i64 (M i).b, .int .i64 (M i).c] 32)) wr.heap.size 32 #[.int .i64 (M i).k, .int .i64 (M i).a, .int .i64 (M i).b, .int .i64 (M i).c] := Blk.new wr 32 _
                clear hWi hI hN K hp hRS hF2 hBWi q0 q1 q2 q3 hvp' e0 e1 hWj
                generalize sb (qaa p) = pt at *
                obtain ⟨kk, hkkd⟩ : ∃ kk, kk = pkN (M i).a 8 := ⟨_, rfl⟩
                rw [← hkkd] at hkk hpk HCL
                clear hkkd
                go_upto_region 21 with fail
                have s1 := bs5.cell 1
                have s2 := bs5.cell 2
                obtain ⟨d0, d1, d2⟩ := HCL.out _ hrs5
                simp only [List.getElem?_toArray, List.getElem?_cons_zero, List.getElem?_cons_succ] at s1 s2
                obtain ⟨W5, hW5⟩ : ∃ W5, W5 = wr.alloc (.cells #[.int .i64 (M i).k, .int .i64 (M i).a, .int .i64 (M i).b, .int .i64 (M i).c] 32) := ⟨_, rfl⟩
                rw [← hW5] at hrs5 bs5 s1 s2 d0 d1 d2 HND ⊢
                clear hW5
                obtain ⟨gs, hgs⟩ : ∃ gs, gs = wr.heap.size := ⟨_, rfl⟩
                rw [← hgs] at bs5 s1 s2 hF2g ⊢
                clear hgs r0 r1 r2 r3
                have hkki : (kk : Int) < 8 := by omega
                have hkki0 : (0 : Int) ≤ kk := by omega
                go_quiet ((go_at_call 23; exact Calls.quiet_of_same (hpk _)))
                obtain ⟨W6, hW6⟩ : ∃ W6, W6 = W5.drewN nq := ⟨_, rfl⟩
                have hb56 : Below W5.heap.size W5 W6 := by rw [hW6]; exact below_drewN (Below.refl _ _) nq
                rw [← hW6]
                clear hW6 d0 d1 d2 s1 s2
                have hrs6 := HRB.out _ _ hrs5 hb56
                have bs6 := bs5.below hb56 bs5.lt
                have hK6 : Keep (fun b => ¬ F2 b) W5 W6 := Keep.new hb56
                obtain ⟨d60, d61, d62⟩ := HCL.out _ hrs6
                clear hb56 bs5 hrs5
                go_upto_region 22 with fail
                go_region_held3 (fun w' => w'.cell? ⟨rb, 0, none⟩ = some (.pointer (some ⟨bt, 0, none⟩)) ∧ w'.cell? ⟨rb, 1, none⟩ = some (.slice (some ⟨gp', 0, none⟩) 8 cp') ∧ w'.cell? ⟨gp', kk, none⟩ = some (.string pt)) (go_keep)
                  (first
                    | (go_at_call 26; refine (H26.out _ (HRB.out _ _ hrs6 ?_)).mono ?_; (focus exact bel2); rintro e w7 ⟨ev7, rfl, hrs7, hk7⟩; obtain ⟨d70, d71, d72⟩ := HCL.out _ hrs7))
                have hK7 : Keep (fun b => ¬ F2 b) W6 w7 := (Keep.new (show Below W6.heap.size W6 _ by exact bel2)).trans hk7
                clear hk7
                go_upto_region 23 with fail
                go_region_held3 (fun w' => w'.cell? ⟨rb, 0, none⟩ = some (.pointer (some ⟨bt, 0, none⟩)) ∧ w'.cell? ⟨rb, 1, none⟩ = some (.slice (some ⟨gp', 0, none⟩) 8 cp') ∧ w'.cell? ⟨gp', kk, none⟩ = some (.string pt)) (go_keep)
                  (first
                    | (go_at_call 27; refine (H27.out _ (HRB.out _ _ hrs7 ?_)).mono ?_; (focus exact bel2); rintro e w8 ⟨ev8, rfl, hrs8, hk8⟩; obtain ⟨d80, d81, d82⟩ := HCL.out _ hrs8))
                have hK8 : Keep (fun b => ¬ F2 b) w7 w8 := (Keep.new (show Below w7.heap.size w7 _ by exact bel2)).trans hk8
                clear hk8
                have bs8 := (bs6.keep hK7 (fun h => h hF2g)).keep hK8 (fun h => h hF2g)
                have s8 := bs8.cell 2
                simp only [List.getElem?_toArray, List.getElem?_cons_zero, List.getElem?_cons_succ] at s8
                go_upto_region 24 with fail
                go_region_held3 (fun w' => w'.cell? ⟨rb, 0, none⟩ = some (.pointer (some ⟨bt, 0, none⟩)) ∧ w'.cell? ⟨gs, 2, none⟩ = some (.int .i64 (M i).b)) (go_keep)
                  (first
                    | (go_at_call 23; refine (hpk2 _).mono ?_; rintro e wp ⟨rfl, hwp⟩; subst hwp)
                    | (go_at_call 28; refine (H28.out _ _ ?_ (HRB.out _ _ hrs8 ?_)).mono ?_; (focus (first | omega | (rw [IntKind.wrap_i64]; omega) | (simp only [IntKind.wrap_i64]; omega))); (focus exact bel2); rintro e w9' ⟨ev9, rfl, hrs9, hk9⟩; obtain ⟨d90, d91, d92⟩ := HCL.out _ hrs9; have s9 := ((bs8.below (show Below w8.heap.size w8 _ by exact bel2) bs8.lt).keep hk9 (fun h => h hF2g)).cell 2; simp only [List.getElem?_toArray, List.getElem?_cons_zero, List.getElem?_cons_succ] at s9))
                have hK9 : Keep (fun b => ¬ F2 b) w8 w9' := (Keep.new (show Below w8.heap.size w8 _ by exact bel2)).trans hk9
                clear hk9 s9 s8
                go_upto_region 25 with fail
                go_region_held3 (fun w' => w'.cell? ⟨rb, 0, none⟩ = some (.pointer (some ⟨bt, 0, none⟩)) ∧ w'.cell? ⟨rb, 1, none⟩ = some (.slice (some ⟨gp', 0, none⟩) 8 cp') ∧ w'.cell? ⟨gp', kk, none⟩ = some (.string pt)) (go_keep)
                  (first
                    | (go_at_call 29; refine (H29.out _ (HRB.out _ _ hrs9 ?_)).mono ?_; (focus exact bel2); rintro e w10 ⟨ev10, rfl, hrs10, hk10⟩; obtain ⟨d100, d101, d102⟩ := HCL.out _ hrs10))
                have hK10 : Keep (fun b => ¬ F2 b) w9' w10 := (Keep.new (show Below w9'.heap.size w9' _ by exact bel2)).trans hk10
                clear hk10
                go_upto_region 26 with fail
                go_region_held3 (fun w' => w'.cell? ⟨rb, 0, none⟩ = some (.pointer (some ⟨bt, 0, none⟩)) ∧ w'.cell? ⟨rb, 1, none⟩ = some (.slice (some ⟨gp', 0, none⟩) 8 cp') ∧ w'.cell? ⟨gp', kk, none⟩ = some (.string pt)) (go_keep)
                  (first
                    | (go_at_call 30; refine (H30.out _ (HRB.out _ _ hrs10 ?_)).mono ?_; (focus exact bel2); rintro e w11 ⟨ev11, rfl, hrs11, hk11⟩; obtain ⟨d110, d111, d112⟩ := HCL.out _ hrs11))
                have hK11 : Keep (fun b => ¬ F2 b) w10 w11 := (Keep.new (show Below w10.heap.size w10 _ by exact bel2)).trans hk11
                clear hk11
                go_upto_region 29 with (first
                  | (go_at_call 31; refine (H31.out _ (HRB.out _ _ hrs11 ?_)).mono ?_; (focus exact bel2); rintro e w12 ⟨ev12, rfl, hrs12, hk12⟩; obtain ⟨d120, d121, d122⟩ := HCL.out _ hrs12)
                  | (go_at_call 32; refine (H32.out _ (HRB.out _ _ hrs12 ?_)).mono ?_; (focus exact bel2); rintro e w13 ⟨ev13, rfl, hrs13, hk13⟩))
                have hK12 : Keep (fun b => ¬ F2 b) w11 w12 := (Keep.new (show Below w11.heap.size w11 _ by exact bel2)).trans hk12
                have hK13 : Keep (fun b => ¬ F2 b) w12 w13 := (Keep.new (show Below w12.heap.size w12 _ by exact bel2)).trans hk13
                obtain ⟨n1, n2⟩ := HND.out w13 hrs13 (((((((hK6.trans hK7).trans hK8).trans hK9).trans hK10).trans hK11).trans hK12).trans hK13)
                have HN1 := Hid.mk' n1
                clear n1 hk12 hk13 HND HCL HRB H26 H27 H28 H29 H30 H31 H32
                rcases her with rfl | rfl
                all_goals
                  go_wp2_with fail
                  exact ⟨⟨i + 1, by omega, by omega, by go_num, HN1.out, n2⟩, by simp [intOf]; omega⟩
              · have hii2 : ¬ ((i : Int) < lm) := by omega
                have hii0 : (0 : Int) ≤ i := by omega
                obtain ⟨wb, hwb⟩ : ∃ wb, wb = wr := ⟨_, rfl⟩
                rw [← hwb] at hBi hWi hBWi ⊢
                clear hwb
                obtain ⟨hI, hN⟩ := HIN.out
                obtain ⟨RS, hRS⟩ : ∃ RS : World → Prop, RS = fun w => ∃ P, RunM (fun b => b < w1.heap.size ∨ (Value.slice a 9 c).ownBlock = some b) w rb R P bt vp vw vl := ⟨_, rfl⟩
                have hrs0 : RS wb := by rw [hRS]; exact hWi.out.run
                have HCL : Hid (∀ w, RS w → w.cell? ⟨rb, 0, none⟩ = some (.pointer (some ⟨bt, 0, none⟩))) := fun w h => by
                  rw [hRS] at h
                  obtain ⟨P', hR⟩ := h
                  have c0 := hR.at_.cell 0
                  simp only [List.getElem?_toArray, List.getElem?_cons_zero, List.getElem?_cons_succ] at c0
                  exact c0
                have H26 : Hid (∀ w s, s.size ≤ 2000000 → qar (bl s) = false → RS w → Calls Tryz.prog 26 #[.pointer (some ⟨bt, 0, none⟩), .string s, .agg #[.int .i64 0, .int .i64 0], .agg #[.int .i64 0, .int .i64 0]] w fun e w' => ∃ ev, e = .returned (.tuple #[ev, .int .i64 1]) ∧ RS w' ∧ Keep (fun b => ¬ (b < w1.heap.size ∨ (Value.slice a 9 c).ownBlock = some b)) w w') := fun w s h1 h2 h => by
                  rw [hRS] at h ⊢
                  obtain ⟨P', h⟩ := h
                  exact kp_badLeaf h s h1 h2
                have H27 : Hid (∀ w s, s.size ≤ 2000000 → qar (bl s) = false → RS w → Calls Tryz.prog 27 #[.pointer (some ⟨bt, 0, none⟩), .string s, .agg #[.int .i64 0, .int .i64 0]] w fun e w' => ∃ ev, e = .returned (.tuple #[ev, .int .i64 1]) ∧ RS w' ∧ Keep (fun b => ¬ (b < w1.heap.size ∨ (Value.slice a 9 c).ownBlock = some b)) w w') := fun w s h1 h2 h => by
                  rw [hRS] at h ⊢
                  obtain ⟨P', h⟩ := h
                  exact kp_badCohort h s h1 h2
                have HND : Hid (∀ w', RS w' → Keep (fun b => ¬ (b < w1.heap.size ∨ (Value.slice a 9 c).ownBlock = some b)) wb w' → WasM w1.heap.size w' rb R bt vp vw vl (.slice a 9 c) qs ∧ Below w1.heap.size wb w') := fun w' h hk => by
                  rw [hRS] at h
                  have hW := hWi.out
                  have hle := hW.le
                  exact ⟨⟨h, qaf hW.row hk (fun b hb e => e (.inr hb)), hW.new, Nat.le_trans hle hk.size, hW.tell⟩, ⟨hk.os, hk.tape, hk.output, hk.size, fun b hb => hk.block b (by omega) (fun e => e (.inl hb))⟩⟩
                have b1 : qar (bl (wrong ++ ⟨#[47]⟩)) = false := by
                  rw [ql4]
                  exact bad_end _
                have b2 : qar (bl (⟨#[47]⟩ ++ wrong)) = false := by
                  rw [ql4]
                  exact bad_start _
                have z1 : (wrong ++ ⟨#[47]⟩ : ByteArray).size ≤ 2000000 := by
                  rw [← qcl, ql4, List.length_append, qcl]
                  show wrong.size + 1 ≤ 2000000
                  omega
                have z2 : (⟨#[47]⟩ ++ wrong : ByteArray).size ≤ 2000000 := by
                  rw [← qcl, ql4, List.length_append, qcl wrong]
                  show 1 + wrong.size ≤ 2000000
                  omega
                have d0 := HCL.out _ hrs0
                clear hRS hWj hWi hN
                all_goals
                  go_upto_region 33 with (first
                    | (go_at_call 26; refine (H26.out _ _ z1 b1 hrs0).mono ?_; rintro e wc ⟨ev1, rfl, hrs1, hk1⟩; have d1 := HCL.out _ hrs1)
                    | (go_at_call 27; refine (H27.out _ _ z2 b2 hrs1).mono ?_; rintro e wd ⟨ev2, rfl, hrs2, hk2⟩))
                  obtain ⟨hWd, hBd⟩ := HND.out wd hrs2 (hk1.trans hk2)
                  have hBWd : Below W.heap.size W wd := hBWi.trans (hBd.mono hb1.size)
                  obtain ⟨gp2, cp2, _, _, _, _, hrl2, _, e1⟩ := HC1.out _ _ _ _ hWd
                  have HSM : Hid (∀ wx, Below wd.heap.size wd wx → Calls Tryz.prog 18 #[.pointer (some ⟨rb, 0, none⟩)] wx fun e w' => e = .returned (.bool true) ∧ Below wx.heap.size wx w') := fun wx hb => by
                    obtain ⟨P', hR⟩ := hWd.run
                    exact q0p ⟨_, _, _, _, _, hR.below hb⟩ hI
                  have HQ4 : Hid (∀ j : Nat, j < 9 → ∃ (g lc : Nat) (lf lf2 : Bool) (t0 : ByteArray) (t1 t2 t3 t4 t5 t6 : Int) (t7 : Nat) (a2 : Option Addr) (c2 : Nat), (Value.slice a 9 c = .slice (some ⟨g, 0, none⟩) 9 lc) ∧ g < wd.heap.size ∧ 9 ≤ lc ∧ lc ≤ maxLen ∧ Told R t0 lf t1 t2 t3 t4 t5 t6 t7 ((j : Int) - 1) rb wd ∧ wd.cell? ⟨g, j * 9, none⟩ = some (.string t0) ∧ wd.cell? ⟨g, j * 9 + 1, none⟩ = some (.bool lf2) ∧ wd.cell? ⟨g, j * 9 + 2, none⟩ = some (.int .i64 t1) ∧ wd.cell? ⟨g, j * 9 + 3, none⟩ = some (.int .i64 t2) ∧ wd.cell? ⟨g, j * 9 + 4, none⟩ = some (.int .i64 t3) ∧ wd.cell? ⟨g, j * 9 + 5, none⟩ = some (.int .i64 t4) ∧ wd.cell? ⟨g, j * 9 + 6, none⟩ = some (.int .i64 t5) ∧ wd.cell? ⟨g, j * 9 + 7, none⟩ = some (.int .i64 t6) ∧ wd.cell? ⟨g, j * 9 + 8, none⟩ = some (.slice a2 t7 c2)) := fun j hj => by
                    obtain ⟨lf, hT⟩ := HTD.out _ _ _ _ hWd j (by omega)
                    obtain ⟨q, hq⟩ : ∃ q, qs[j]? = some q := ⟨_, List.getElem?_eq_getElem (by rw [HQS.out]; exact hj)⟩
                    obtain ⟨g, lc, h1, h2, h3, h4, p0, p1, p2, p3, p4, p5, p6, p7, p8⟩ := hWd.at_ hq
                    obtain ⟨e0, e1, e2, e3, e4, e5, e6, e7⟩ := hWd.tell j q hq
                    rw [HQS.out] at h1 h3
                    rw [e0] at p0
                    rw [e1] at p2
                    rw [e2] at p3
                    rw [e3] at p4
                    rw [e4] at p5
                    rw [e5] at p6
                    rw [e6] at p7
                    rw [e7] at p8
                    exact ⟨g, lc, lf, q.lf, _, _, _, _, _, _, _, _, q.a, q.c, h1, h2, h3, h4, hT, p0, p1, p2, p3, p4, p5, p6, p7, p8⟩
                  clear HND hWd hBd hBWi hk1 hk2 hrs0 hrs1 hrs2 H26 H27 HCL hI b1 b2 z1 z2 HTD HC1 d0 d1
                  go_upto_region 36 with fail
                  go_loopw [39] (fun c39 wx => ∃ j : Nat, j ≤ 9 ∧ c39 = .int .i64 ((j : Int) - 1) ∧ Below wd.heap.size wd wx) (fun j _ => (8 - intOf j).toNat)
                  case atStart => exact ⟨0, by omega, rfl, Below.refl _ _⟩
                  case round =>
                    obtain ⟨j4, hj4, rfl, hB4⟩ := hrel
                    have f1 := (hB4.cell (p := ⟨rb, 1, none⟩) hrl2).trans e1
                    have hs4 := hB4.size
                    by_cases hj5 : j4 < 9
                    · obtain ⟨g, lc, lf, lf2, t0, t1, t2, t3, t4, t5, t6, t7, a2, c2, hsl, hg, hlc1, hlc2, hT, p0, p1, p2, p3, p4, p5, p6, p7, p8⟩ := HQ4.out j4 hj5
                      simp only [Value.slice.injEq, true_and] at hsl
                      obtain ⟨rfl, rfl⟩ := hsl
                      have hji4 : (j4 : Int) - 1 < 8 := by omega
                      have hji5 : (j4 : Int) < 9 := by omega
                      have heq : ∀ (a b : Int) W, (Op.equalIn 10000 35 (.agg #[.int .i64 a, .int .i64 b]) (.agg #[.int .i64 a, .int .i64 b])).run Tryz.prog W = .ok true W := fun a b W => by
                        have := eq35 9998 a b a b W
                        simpa using this
                      clear HQ4 HSM
                      go_upto_region 39 with (go_at_call 19; refine (hT _ hB4).mono ?_; rintro e w14 ⟨a1, c1', rfl, hb14⟩)
                      obtain ⟨W15, hW15⟩ : ∃ W15, W15 = w14.alloc (.cells #[.string t0, .bool lf, .int .i64 t1, .int .i64 t2, .int .i64 t3, .int .i64 t4, .int .i64 t5, .int .i64 t6, .slice a1 t7 c1'] 37) := ⟨_, rfl⟩
                      have bq : Blk W15 w14.heap.size 37 #[.string t0, .bool lf, .int .i64 t1, .int .i64 t2, .int .i64 t3, .int .i64 t4, .int .i64 t5, .int .i64 t6, .slice a1 t7 c1'] := by rw [hW15]; exact Blk.new w14 37 _
                      have hB14 := hB4.trans (hb14.mono hB4.size)
                      have hB15 : Below wd.heap.size wd W15 := by rw [hW15]; exact hB14.alloc hB14.size _
                      rw [← hW15]
                      have hl14 := bq.lt
                      have hgl : g < w14.heap.size := Nat.lt_of_lt_of_le hg hB14.size
                      clear hW15 hb14 hT hB14 hB4 f1
                      generalize w14.heap.size = g14 at *
                      have hbc := fun (a : Nat) => hB15.cell (p := ⟨g, a, none⟩) hg
                      have x0 := (hbc _).trans p0
                      have x1 := (hbc _).trans p1
                      have x2 := (hbc _).trans p2
                      have x3 := (hbc _).trans p3
                      have x4 := (hbc _).trans p4
                      have x5 := (hbc _).trans p5
                      have x6 := (hbc _).trans p6
                      have x7 := (hbc _).trans p7
                      have x8 := (hbc _).trans p8
                      have y0 := bq.cell 0
                      have y2 := bq.cell 2
                      have y3 := bq.cell 3
                      have y4 := bq.cell 4
                      have y5 := bq.cell 5
                      have y6 := bq.cell 6
                      have y7 := bq.cell 7
                      have y8 := bq.cell 8
                      simp only [List.getElem?_toArray, List.getElem?_cons_zero, List.getElem?_cons_succ] at y0 y2 y3 y4 y5 y6 y7 y8
                      have n15 : ¬ (g14 = W15.heap.size) := by omega
                      have n16 : ¬ (W15.heap.size = g14) := by omega
                      clear hbc p0 p1 p2 p3 p4 p5 p6 p7 p8
                      have hB16 : ∀ o, Below wd.heap.size wd (W15.alloc o) := fun o => hB15.alloc hB15.size _
                      go_wp2_with fail
                      exact ⟨⟨j4 + 1, by omega, by go_num, hB16 _⟩, by simp [intOf]; omega⟩
                    · have hji4 : ¬ ((j4 : Int) - 1 < 8) := by omega
                      have hsm := HSM.out _ hB4
                      clear HQ4 HSM
                      go_wp2_with (go_at_call 18; refine hsm.mono ?_; rintro e w16 ⟨rfl, hb16⟩)
                      go_ret
                      exact ⟨rfl, hBWd.trans ((hB4.trans (hb16.mono hB4.size)).mono hBWd.size)⟩
end Go.Proofs.YtphclnolomgjoaaGreatDoor
