import Derived.Test.YtphclnolomgjoaaGreatDoorX18
import Derived.Test.YtphclnolomgjoaaGreatDoorB37
import Derived.Test.YtphclnolomgjoaaGreatDoorX01
import Derived.BigQuiet
import Derived.Deep.RegionLaw
set_option linter.unusedVariables false
set_option linter.unusedSimpArgs false
namespace Go.Proofs.YtphclnolomgjoaaGreatDoor
open Go.RowKit
set_option maxRecDepth 100000 in
set_option maxHeartbeats 8000000 in
theorem fair_walk {W : World} {aq as_ : Option Addr} {lq cq ls cs : Nat} {q : Nat → Int} {S : Nat → Stp} (hq : QIn W aq lq q) (hlq : lq ≤ cq) (hcq : cq ≤ maxLen) (hS : StIn W as_ ls S) (hls : ls ≤ cs) (hcs : cs ≤ maxLen) :
    Calls Tryz.prog 9 #[.slice aq lq cq, .slice as_ ls cs] W fun e w' => e = .returned (.bool true) ∧ Below W.heap.size W w' := by
  have HS : Hid (StIn W as_ ls S) := hS
  clear hS
  have hlen : ls ≤ 9223372036854775807 := by unfold maxLen at hcs; omega
  go_enter Tryz.func9, Tryz.ntmps9
  go_upto_region 5 with (first
    | (go_at_call 15; refine (ql8 _).mono ?_; rintro e w1 ⟨rfl, hb1⟩)
    | (go_at_call 16; refine (qqs (hq.below (n := 0) hb1) hlq hcq).mono ?_; rintro e w2 ⟨rb, rfl, hR2, hb2⟩))
  have hR0 : Hid (∃ R, RunI 0 R ∧ qau (fun b => b < w1.heap.size) w2 rb R) := by
    obtain ⟨nodes, K⟩ := hR2.kinv
    exact ⟨_, qyt K, hR2⟩
  clear hR2 hq
  go_wp2_with fail
  go_loopw [7] (fun i wr => ∃ k : Nat, k ≤ 50 ∧ k ≤ ls ∧ i = .int .i64 k ∧ Hid (∃ R, RunI k R ∧ qau (fun b => b < w1.heap.size) wr rb R) ∧ Below w1.heap.size w1 wr) (fun i _ => 50 - (intOf i).toNat)
  case atStart => exact ⟨0, Nat.zero_le _, Nat.zero_le _, rfl, hR0, hb2⟩
  case round =>
    obtain ⟨k, hk, hkl, rfl, hR, hB⟩ := hrel
    have hBW : Below W.heap.size W wr := hb1.trans (hB.mono hb1.size)
    by_cases hlt : k < ls ∧ k < 50
    · obtain ⟨hlt1, hlt2⟩ := hlt
      obtain ⟨gb, off, rfl, hgb, q0, q1, q2, q3, i0, i1, i2, i3⟩ := HS.out k hlt1
      obtain ⟨R, hI, hR⟩ := hR.out
      obtain ⟨nodes, K⟩ := hR.kinv
      have hw24 : R.works.length ≤ 24 := by rw [hI.wlen]; exact K.inv.wks.wks.len
      obtain ⟨P, bt, vp, vw, vl, hM⟩ := hR
      obtain ⟨aw, cw, hvw, hcw1, hcw2⟩ := qa7 hM.wrow
      have c2 := hM.at_.cell 2
      simp only [List.getElem?_toArray, List.getElem?_cons_zero, List.getElem?_cons_succ] at c2
      rw [hvw] at c2
      have hcop := wrk_copy hM hB.size hw24 hvw
      have hki : (k : Int) < ls := by omega
      have hki0 : (0 : Int) ≤ k := by omega
      have hki5 : (k : Int) < 50 := by omega
      have HKI := Hid.mk' (And.intro hI K)
      clear hM hvw hI K hR0
      go_upto_region 10 with (at_builtin; refine qbd (by rfl) _ _ _ _ rfl _ _ rfl (by rfl) hcop ?_; rintro v1 w4 ⟨a8, c8, rfl, hc81, hc82, t2, hb4, hm4⟩)
      have hBW4 : Below W.heap.size W w4 := hBW.trans (hb4.mono hBW.size)
      have hB4 : Below w1.heap.size w1 w4 := hB.trans (hb4.mono hB.size)
      have r0 := (hBW4.cell (p := ⟨gb, off + k * 4, none⟩) hgb).trans q0
      have r1 := (hBW4.cell (p := ⟨gb, off + k * 4 + 1, none⟩) hgb).trans q1
      have r2 := (hBW4.cell (p := ⟨gb, off + k * 4 + 2, none⟩) hgb).trans q2
      have r3 := (hBW4.cell (p := ⟨gb, off + k * 4 + 3, none⟩) hgb).trans q3
      have hst := fair_calls HKI.out.1 hm4.out hlt2 i0 i1 i2 i3
      clear hcop hBW hB hb4 hm4 c2
      go_upto_region 14 with (go_at_call 17; refine hst.mono ?_; rintro e w5 ⟨rfl, hF5, hb5⟩)
      have hB5 : Below w1.heap.size w1 w5 := hB4.trans hb5
      have hBW5 : Below W.heap.size W w5 := hb1.trans (hB5.mono hb1.size)
      obtain ⟨R', bt', vp', vw', vl', hI', hM', hSt⟩ := hF5.out
      have s0 := (hBW5.cell (p := ⟨gb, off + k * 4, none⟩) hgb).trans q0
      have hpk := qfz (S k).k 8 i0 (by omega) (by omega)
      obtain ⟨P', hR'⟩ := hM'.run
      obtain ⟨aw', cw', hvw', hcw1', hcw2'⟩ := qa7 hR'.wrow
      obtain ⟨al', cl', hvl', hcl1', hcl2'⟩ := qa7 hR'.lrow
      have d2 := hR'.at_.cell 2
      have d4 := hR'.at_.cell 4
      simp only [List.getElem?_toArray, List.getElem?_cons_zero, List.getElem?_cons_succ] at d2 d4
      rw [hvw'] at d2
      rw [hvl'] at d4
      have hrl' := hR'.at_.lt
      have HNX : Hid (∀ w' (v : Value) (ws : List KW) (w6 : World), WrkM w1.heap.size w6 rb R' bt' vp' vw' vl' v ws → Keep (fun b => v.ownBlock = some b) w6 w' → Below w1.heap.size w5 w6 → Hid (∃ R, RunI (k + 1) R ∧ qau (fun b => b < w1.heap.size) w' rb R) ∧ Below w1.heap.size w1 w') := fun w' v ws w6 h1 h2 h3 => by
        obtain ⟨g1, g2⟩ := h1.done h2
        exact ⟨⟨R', hI', g1⟩, (hB5.trans h3).trans g2⟩
      have HM5 := Hid.mk' hM'
      have hp8 := qef (S k).k (n := 8) (by omega)
      have HST := Hid.mk' hSt
      have HRM := Hid.mk' hR'
      have hw24' : R'.works.length ≤ 24 := by
        obtain ⟨nodes', K'⟩ := qau.kinv ⟨_, _, _, _, _, hR'⟩
        rw [hI'.wlen]; exact K'.inv.wks.wks.len
      have HI' := Hid.mk' hI'
      clear hst r0 r1 r2 r3 t2 hF5 hM' hR' hSt hI'
      by_cases c4 : pkN (S k).k 8 < 4
      · by_cases hne : R'.works.length = R.works.length
        · have HE := HNX.out w5 _ _ w5 HM5.out (Keep.refl _ _) (Below.refl _ _)
          have hkk : ¬ ((4 : Int) ≤ (pkN (S k).k 8 : Nat)) := by omega
          have hne' : (R'.works.length : Int) = R.works.length := by omega
          clear HNX HM5 HST HRM HKI
          go_wp2_with (go_at_call 23; refine (hpk _).mono ?_; rintro e w6 ⟨rfl, hw6⟩; subst hw6)
          exact ⟨⟨k + 1, by omega, by omega, by go_num, HE.1, HE.2⟩, by simp [intOf]; omega⟩
        · obtain ⟨w, A, B, t', hw, hRp, hE, hll, hlen1⟩ := fair_step HKI.out.1 HKI.out.2 HST.out c4 hne
          obtain ⟨g, c', hv2, hg, _, _, _, p0, p1, p2, p3, p4, p5⟩ := HRM.out.tk.cells hw
          rw [hvw'] at hv2
          injection hv2 with e1 e2 e3
          subst e1
          clear e2 e3
          have hkk : ¬ ((4 : Int) ≤ (pkN (S k).k 8 : Nat)) := by omega
          have hne' : ¬ ((R'.works.length : Int) = R.works.length) := by omega
          have hni : (R.works.length : Int) < R'.works.length := by omega
          have hap2 : ∀ Wx nb, Below w5.heap.size w5 Wx → Blk Wx nb 41 #[.int .i64 w.num, .int .i64 w.leaf, .int .i64 w.d0, .int .i64 w.d1, .bool false, .int .i64 0] → ∃ v' w', (∀ ty, (Builtin.append_ #[47, 47] ty #[.slice a8 R.works.length c8, .slice (some ⟨nb, 0, none⟩) 1 1]).run Tryz.prog Wx = .ok v' w') ∧ ∃ a c, v' = .slice a (R.works.length + 1) c ∧ Hid (WrkM w1.heap.size w' rb R' bt' vp' vw' vl' (.slice a (R.works.length + 1) c) (R.works ++ [⟨w.num, w.leaf, w.d0, w.d1, false, 0⟩]) ∧ Below w1.heap.size Wx w') := fun Wx nb hb hB => (HM5.out.below hb).app hw24 ⟨w.num, w.leaf, w.d0, w.d1, false, 0⟩ nb hB
          have HRP : Hid (∀ wA a c, WrkM w1.heap.size wA rb R' bt' vp' vw' vl' (.slice a (R.works.length + 1) c) (R.works ++ [⟨w.num, w.leaf, w.d0, w.d1, false, 0⟩]) → Calls Tryz.prog 25 #[.pointer (some ⟨rb, 0, none⟩), .slice a (R.works.length + 1) c, .slice al' R'.last.length cl'] wA fun e w' => e = .returned (.bool true) ∧ Keep (fun b => (Value.slice a (R.works.length + 1) c).ownBlock = some b) wA w') := fun wA a c h => by
            obtain ⟨P9, hR9⟩ := h.run
            have := kreplayed hR9 HI'.out (by omega) hll h.row (fun b hb => .inr hb) hRp hE
            rw [hvl'] at this
            exact this
          have HD4 : Hid (∀ wA a c, WrkM w1.heap.size wA rb R' bt' vp' vw' vl' (.slice a (R.works.length + 1) c) (R.works ++ [⟨w.num, w.leaf, w.d0, w.d1, false, 0⟩]) → wA.cell? ⟨rb, 4, none⟩ = some (.slice al' R'.last.length cl')) := fun wA a c h => by
            obtain ⟨P9, hR9⟩ := h.run
            have e4 := hR9.at_.cell 4
            simp only [List.getElem?_toArray, List.getElem?_cons_zero, List.getElem?_cons_succ] at e4
            rw [hvl'] at e4
            exact e4
          have HCL : Hid (∀ wA a c, WrkM w1.heap.size wA rb R' bt' vp' vw' vl' (.slice a (R.works.length + 1) c) (R.works ++ [⟨w.num, w.leaf, w.d0, w.d1, false, 0⟩]) → wA.cell? ⟨rb, 2, none⟩ = some (.slice (some ⟨g, 0, none⟩) R'.works.length cw') ∧ wA.cell? ⟨g, R.works.length * 6, none⟩ = some (.int .i64 w.num) ∧ wA.cell? ⟨g, R.works.length * 6 + 1, none⟩ = some (.int .i64 w.leaf) ∧ wA.cell? ⟨g, R.works.length * 6 + 2, none⟩ = some (.int .i64 w.d0) ∧ wA.cell? ⟨g, R.works.length * 6 + 3, none⟩ = some (.int .i64 w.d1)) := fun wA a c h => by
            obtain ⟨P9, hR9⟩ := h.run
            have e2 := hR9.at_.cell 2
            simp only [List.getElem?_toArray, List.getElem?_cons_zero, List.getElem?_cons_succ] at e2
            rw [hvw'] at e2
            obtain ⟨g', c'', hv3, _, _, _, _, z0, z1, z2, z3, _, _⟩ := hR9.tk.cells hw
            rw [hvw'] at hv3
            injection hv3 with e1
            injection e1 with e1
            injection e1 with e1
            subst e1
            exact ⟨e2, z0, z1, z2, z3⟩
          have hle5 := hB5.size
          clear hRp hE hw HST HRM HKI HM5 hlen1 HI' hvl' hvw' hne hne' d4 p4 p5
          go_upto_region 16 with (go_at_call 23; refine (hpk _).mono ?_; rintro e w6 ⟨rfl, hw6⟩; subst hw6)
          · rename_i h9
            exfalso
            rcases h9 with h9 | h9
            · omega
            · simp at h9; omega
          go_region_held3 (fun w' => w'.cell? ⟨rb, 2, none⟩ = some (.slice (some ⟨g, 0, none⟩) R'.works.length cw') ∧ w'.cell? ⟨g, R.works.length * 6, none⟩ = some (.int .i64 w.num) ∧ w'.cell? ⟨g, R.works.length * 6 + 1, none⟩ = some (.int .i64 w.leaf) ∧ w'.cell? ⟨g, R.works.length * 6 + 2, none⟩ = some (.int .i64 w.d0) ∧ w'.cell? ⟨g, R.works.length * 6 + 3, none⟩ = some (.int .i64 w.d1)) (go_keep)
            (first
              | (refine qa8 rfl (.tmp 68) (.tmp 94) 47 47 rfl _ _ ?_ ?_ (hap2 _ w6.heap.size ?_ ?_) ?_; (focus (simp [Act.eval, Act.put])); (focus ((try simp [Act.eval, Act.put]); (try rfl))); (focus exact bel2); (focus exact blk2); rintro v' wA ⟨a9, c9, rfl, hfin⟩; have e4 := HD4.out _ _ _ hfin.out.1; obtain ⟨f2, f3, f4, f5, f6⟩ := HCL.out _ _ _ hfin.out.1))
          all_goals have hB9 : Below w1.heap.size w6 wA := Below.trans (Below.mono (show Below w6.heap.size w6 _ by exact bel2) hle5) hfin.out.2
          all_goals go_upto_region 17 with fail
          all_goals go_wp2_with (go_at_call 25; refine (HRP.out _ _ _ hfin.out.1).mono ?_; rintro e w7 ⟨rfl, hk7⟩)
          all_goals have HE := HNX.out w7 _ _ wA hfin.out.1 hk7 hB9
          all_goals exact ⟨⟨k + 1, by omega, by omega, by go_num, HE.1, HE.2⟩, by simp [intOf]; omega⟩
      · have HE := HNX.out w5 _ _ w5 HM5.out (Keep.refl _ _) (Below.refl _ _)
        have hkk : (4 : Int) ≤ (pkN (S k).k 8 : Nat) := by omega
        clear HNX HM5 HST HRM HKI
        go_wp2_with (go_at_call 23; refine (hpk _).mono ?_; rintro e w6 ⟨rfl, hw6⟩; subst hw6)
        exact ⟨⟨k + 1, by omega, by omega, by go_num, HE.1, HE.2⟩, by simp [intOf]; omega⟩
    · have hki2 : ¬ ((k : Int) < ls) ∨ ¬ ((k : Int) < 50) := by omega
      have hki0 : (0 : Int) ≤ k := by omega
      rcases hki2 with hki2 | hki2
      all_goals go_wp2_with fail
      all_goals go_ret
      all_goals exact ⟨rfl, hBW⟩
end Go.Proofs.YtphclnolomgjoaaGreatDoor
