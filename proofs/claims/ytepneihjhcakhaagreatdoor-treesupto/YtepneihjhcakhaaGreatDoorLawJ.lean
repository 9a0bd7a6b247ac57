import Derived.Test.YtepneihjhcakhaaGreatDoorLawI
set_option linter.unusedVariables false
set_option linter.unusedSimpArgs false
namespace Go.Proofs.YtepneihjhcakhaaGreatDoor
open Go.RowKit

theorem twCells_get : ∀ (l : List Tw) (t : Nat) (x : Tw), l[t]? = some x → (twCells l)[t * 2]? = some (.pointer (some ⟨x.bt, 0, none⟩)) ∧ (twCells l)[t * 2 + 1]? = some (.pointer (some ⟨x.br, 0, none⟩))
  | [], _, _, h => by simp at h
  | a :: l, 0, x, h => by simp at h; subst h; exact ⟨rfl, rfl⟩
  | a :: l, t + 1, x, h => by
    have ih := twCells_get l t x (by simpa using h)
    simp only [twCells, List.flatMap_cons] at ih ⊢
    refine ⟨?_, ?_⟩
    · rw [List.getElem?_append_right (by simp; omega)]; rw [show (t + 1) * 2 - [Value.pointer (some ⟨a.bt, 0, none⟩), .pointer (some ⟨a.br, 0, none⟩)].length = t * 2 by simp; omega]; exact ih.1
    · rw [List.getElem?_append_right (by simp; omega)]; rw [show (t + 1) * 2 + 1 - [Value.pointer (some ⟨a.bt, 0, none⟩), .pointer (some ⟨a.br, 0, none⟩)].length = t * 2 + 1 by simp; omega]; exact ih.2

/-- Where the towers lie. -/
theorem St.towers {n₀ : Nat} {τ : Nat → Tag} {W : World} {bw : Nat} {tws : List Tw} {N : Nat} (h : St n₀ τ W bw tws N) (hpos : 0 < tws.length) :
    ∃ gT cT, bw < W.heap.size ∧ gT < W.heap.size ∧ tws.length ≤ cT ∧ cT ≤ maxLen ∧ W.cell? ⟨bw, 0, none⟩ = some (.slice (some ⟨gT, 0, none⟩) tws.length cT) ∧
      ∀ (t : Nat) x, tws[t]? = some x → W.cell? ⟨gT, t * 2, none⟩ = some (.pointer (some ⟨x.bt, 0, none⟩)) ∧ W.cell? ⟨gT, t * 2 + 1, none⟩ = some (.pointer (some ⟨x.br, 0, none⟩)) := by
  obtain ⟨slT, slN, slE, slA, slB, ns, es, ms, me, h⟩ := h
  obtain ⟨gT, cT, rfl, h1, h2⟩ := ownsRow_form h.row hpos
  refine ⟨gT, cT, h.law.blk.lt, row_lt h.row rfl, h1, h2, h.law.blk.cell 0, fun t x hx => ?_⟩
  obtain ⟨c1, c2⟩ := twCells_get tws t x hx
  have d1 := h.row.cells (g := gT) rfl _ _ c1
  have d2 := h.row.cells (g := gT) rfl _ _ c2
  rw [Addr.add_lit, Nat.zero_add] at d1 d2
  exact ⟨d1, d2⟩

set_option maxHeartbeats 400000 in
theorem pick_val (c : Int) (n : Nat) (hc : -9223372036854775808 ≤ c) (hc' : c ≤ 9223372036854775807) (hn : 0 < n) (hn' : n ≤ 9223372036854775807) :
    ∃ r : Nat, r < n ∧ ∀ w, Calls Tryz.prog 9 #[.int .i64 c, .int .i64 n] w fun e w' => e = .returned (.int .i64 r) ∧ w' = w := by
  have key : ∀ x : Int, 0 ≤ x → ∃ r : Nat, r < n ∧ (x.tmod n) = r := fun x hx => by
    refine ⟨(x.tmod n).toNat, ?_, ?_⟩
    · have h1 := Int.tmod_lt_of_pos x (b := (n : Int)) (by omega)
      have h2 := Int.tmod_nonneg (n : Int) hx
      omega
    · have h2 := Int.tmod_nonneg (n : Int) hx
      omega
  have key2 : ∀ x : Int, 0 ≤ x → ∃ r : Nat, r < n ∧ (x % n) = r := fun x hx => by
    obtain ⟨r, h, e⟩ := key x hx
    exact ⟨r, h, by rw [← e, Int.tmod_eq_emod_of_nonneg hx]⟩
  have hn2 : 0 < (n : Int) := by omega
  by_cases h0 : c < 0
  · obtain ⟨r, h, e⟩ := key (-(c + 1)) (by omega)
    refine ⟨r, h, fun w => ?_⟩
    have HE : Hid ((-(c + 1)).tmod n = r) := e
    clear e key key2
    go_enter Tryz.func9, Tryz.ntmps9
    go_wp2
    go_ret
    exact ⟨ret_int (by rw [← HE.out, Int.neg_tmod]), rfl⟩
  · obtain ⟨r, h, e⟩ := key2 c (by omega)
    refine ⟨r, h, fun w => ?_⟩
    have HE : Hid (c % n = r) := e
    clear e key key2
    go_enter Tryz.func9, Tryz.ntmps9
    go_wp2
    go_ret
    exact ⟨ret_int HE.out, rfl⟩

set_option maxRecDepth 100000 in
set_option maxHeartbeats 2000000 in
theorem step_cohort {n₀ : Nat} {τ : Nat → Tag} {W : World} {bw : Nat} {tws : List Tw} {N : Nat} (hN : N ≤ 99999996) (h : St n₀ τ W bw tws N) (hA : Agree tws) (hpos : 0 < tws.length) (hmax : tws.length ≤ 100000000) (s s2 : ByteArray) (hs : s.size ≤ 2000000) (T a0 a1 c0 c1 nm : Int)
    (hT1 : -9223372036854775808 ≤ T) (hT2 : T ≤ 9223372036854775807) :
    Calls Tryz.prog 5 #[.pointer (some ⟨bw, 0, none⟩), .agg #[.int .i64 2, .int .i64 T, .string s, .string s2, .int .i64 a0, .int .i64 a1, .int .i64 c0, .int .i64 c1, .int .i64 nm]] W (StepR n₀ τ W bw tws.length (N + 4)) := by
  obtain ⟨gT, cT, hbw, hgT, hcT1, hcT2, hc0, hcells⟩ := h.towers hpos
  obtain ⟨r, hr, hpick⟩ := pick_val T tws.length hT1 hT2 hpos (by omega)
  obtain ⟨x, hx⟩ : ∃ x, tws[r]? = some x := ⟨_, List.getElem?_eq_getElem hr⟩
  obtain ⟨er, M1, M2, h10, h11, h12⟩ := cohort_chain hN h hA (t := r) (x := x) hx s hs c0 c1
  obtain ⟨q0, q1⟩ := hcells r x hx
  obtain ⟨k, hk⟩ : ∃ k, k = tws.length := ⟨_, rfl⟩
  rw [← hk] at hpos hmax hcT1 hc0 h12 hr hpick ⊢
  have h12 : ∀ W1, M2 W1 → Calls Tryz.prog 12 #[.pointer (some ⟨bw, 0, none⟩), .slice none 0 0, .int .i64 er, .slice none 0 0, .int .i64 er] W1 fun e w' => e = .returned (.bool true) ∧ StepR n₀ τ W bw k (N + 4) (.returned (.bool true)) w' := fun W1 hM => (h12 W1 hM).mono (fun e w' hS => ⟨hS.1, by rw [← hS.1]; exact hS⟩)
  generalize StepR n₀ τ W bw k (N + 4) = X at h12 ⊢
  clear h hA hk hcells hx
  generalize x.bt = bt at h10 q0
  generalize x.br = br at h11 q1
  have hr1 : (r : Int) < k := by omega
  have hr0 : (0 : Int) ≤ r := by omega
  have hk0 : ((k : Int) == 0) = false := by simp; omega
  have b3 : Blk (W.alloc (.cells #[.int .i64 2, .int .i64 T, .string s, .string s2, .int .i64 a0, .int .i64 a1, .int .i64 c0, .int .i64 c1, .int .i64 nm] 37)) W.heap.size 37 #[.int .i64 2, .int .i64 T, .string s, .string s2, .int .i64 a0, .int .i64 a1, .int .i64 c0, .int .i64 c1, .int .i64 nm] := Blk.new W 37 _
  have hB0 : Below W.heap.size W (W.alloc (.cells #[.int .i64 2, .int .i64 T, .string s, .string s2, .int .i64 a0, .int .i64 a1, .int .i64 c0, .int .i64 c1, .int .i64 nm] 37)) := (Below.refl _ _).alloc (Nat.le_refl _) _
  go_enter Tryz.func5, Tryz.ntmps5
  go_upto_region 7 with fail
  generalize W.alloc (.cells #[.int .i64 2, .int .i64 T, .string s, .string s2, .int .i64 a0, .int .i64 a1, .int .i64 c0, .int .i64 c1, .int .i64 nm] 37) = W0 at b3 hB0 ⊢
  have hs0 := hB0.size
  have lt3 := b3.lt
  have d0 := (hB0.cell (p := ⟨bw, 0, none⟩) hbw).trans hc0
  have d1 := b3.cell 1
  have p0 := (hB0.cell (p := ⟨gT, r * 2, none⟩) hgT).trans q0
  have p1 := (hB0.cell (p := ⟨gT, r * 2 + 1, none⟩) hgT).trans q1
  simp only [List.getElem?_toArray, List.getElem?_cons_zero, List.getElem?_cons_succ] at d1
  clear hc0 q0 q1
  have n1 : ¬ (bw = W0.heap.size) := by omega
  have n2 : ¬ (gT = W0.heap.size) := by omega
  have n3 : ¬ (W.heap.size = W0.heap.size) := by omega
  have hbw0 : bw < W0.heap.size := by omega
  have hgT0 : gT < W0.heap.size := by omega
  go_cut [6] from 62 to 75 (fun q wx => ∃ b6, q = .pointer (some ⟨b6, 0, none⟩) ∧ Below W.heap.size W wx ∧ Blk wx b6 44 #[.pointer (some ⟨bt, 0, none⟩), .pointer (some ⟨br, 0, none⟩)] ∧ Blk wx W.heap.size 37 #[.int .i64 2, .int .i64 T, .string s, .string s2, .int .i64 a0, .int .i64 a1, .int .i64 c0, .int .i64 c1, .int .i64 nm] ∧ W.heap.size < b6)
  case first =>
    go_region_held3 (fun w' => w'.cell? ⟨bw, 0, none⟩ = some (.slice (some ⟨gT, 0, none⟩) k cT) ∧ w'.cell? ⟨W.heap.size, 1, none⟩ = some (.int .i64 T) ∧ w'.cell? ⟨gT, r * 2, none⟩ = some (.pointer (some ⟨bt, 0, none⟩)) ∧ w'.cell? ⟨gT, r * 2 + 1, none⟩ = some (.pointer (some ⟨br, 0, none⟩))) (go_keep)
      (first
      | (go_at_call 9; refine (hpick _).mono ?_; rintro e w1 ⟨rfl, hw1⟩; subst hw1))
    all_goals go_wp2_with fail
    all_goals go_meet
    all_goals exact ⟨_, rfl, (by (repeat (first | (with_reducible exact Below.refl _ _) | (with_reducible assumption) | ((with_reducible refine Below.setCell ?_ ?_ _); rotate_left; (focus (first | omega | (simp <;> omega)))) | ((with_reducible refine Below.alloc ?_ ?_ _); rotate_left; (focus (first | omega | (simp <;> omega)))) | (with_reducible refine Below.drew ?_) | (with_reducible refine below_drewN ?_ _) | (refine bstep ?_ (by with_reducible assumption))))), (by first | (with_reducible exact Blk.new' (by simp)) | (with_reducible exact Blk.drew (Blk.new' (by simp)))), (by (repeat (first | (with_reducible assumption) | ((with_reducible refine Blk.new' ?_); simp; done) | (with_reducible refine Blk.alloc ?_ _) | (with_reducible refine Blk.drew ?_) | (with_reducible refine Blk.drewN ?_ _)))), lt3⟩
  case rest =>
    obtain ⟨b6, rfl, hBc, b6c, b3c, hlt6⟩ := hcut
    clear hpick p0 p1 d0 d1 b3 hB0
    have hzc := hBc.size
    have e60 := b6c.cell 0
    have e61 := b6c.cell 1
    have e3 := b3c.cell
    simp only [List.getElem?_toArray, List.getElem?_cons_zero, List.getElem?_cons_succ] at e60 e61
    go_wp2_with (first
      | (go_at_call 10; refine (h10 _ hBc).mono ?_; rintro e w1 ⟨rfl, hk1, hM1⟩; have b61 := b6c.keep hk1 (by omega); have b31 := b3c.keep hk1 (by omega); have f61 := b61.cell 1; have f3 := b31.cell; simp only [List.getElem?_toArray, List.getElem?_cons_zero, List.getElem?_cons_succ] at f61)
      | (go_at_call 11; refine (h11 _ hM1).mono ?_; rintro e w2 ⟨rfl, hk2, hM2⟩)
      | (go_at_call 12; refine (h12 _ hM2).mono ?_; rintro e w3 ⟨rfl, hX⟩))
    all_goals exact hX
set_option maxRecDepth 100000 in
set_option maxHeartbeats 2000000 in
theorem step_leaf {n₀ : Nat} {τ : Nat → Tag} {W : World} {bw : Nat} {tws : List Tw} {N : Nat} (hN : N ≤ 99999996) (h : St n₀ τ W bw tws N) (hA : Agree tws) (hpos : 0 < tws.length) (hmax : tws.length ≤ 100000000) (s s2 : ByteArray) (hs : s.size ≤ 2000000) (T a0 a1 c0 c1 nm : Int)
    (hT1 : -9223372036854775808 ≤ T) (hT2 : T ≤ 9223372036854775807) :
    Calls Tryz.prog 5 #[.pointer (some ⟨bw, 0, none⟩), .agg #[.int .i64 3, .int .i64 T, .string s, .string s2, .int .i64 a0, .int .i64 a1, .int .i64 c0, .int .i64 c1, .int .i64 nm]] W (StepR n₀ τ W bw tws.length (N + 4)) := by
  obtain ⟨gT, cT, hbw, hgT, hcT1, hcT2, hc0, hcells⟩ := h.towers hpos
  obtain ⟨r, hr, hpick⟩ := pick_val T tws.length hT1 hT2 hpos (by omega)
  obtain ⟨x, hx⟩ : ∃ x, tws[r]? = some x := ⟨_, List.getElem?_eq_getElem hr⟩
  obtain ⟨er, M1, M2, h10, h11, h12⟩ := leaf_chain hN h hA (t := r) (x := x) hx s hs a0 a1 c0 c1
  obtain ⟨q0, q1⟩ := hcells r x hx
  obtain ⟨k, hk⟩ : ∃ k, k = tws.length := ⟨_, rfl⟩
  rw [← hk] at hpos hmax hcT1 hc0 h12 hr hpick ⊢
  have h12 : ∀ W1, M2 W1 → Calls Tryz.prog 12 #[.pointer (some ⟨bw, 0, none⟩), .slice none 0 0, .int .i64 er, .slice none 0 0, .int .i64 er] W1 fun e w' => e = .returned (.bool true) ∧ StepR n₀ τ W bw k (N + 4) (.returned (.bool true)) w' := fun W1 hM => (h12 W1 hM).mono (fun e w' hS => ⟨hS.1, by rw [← hS.1]; exact hS⟩)
  generalize StepR n₀ τ W bw k (N + 4) = X at h12 ⊢
  clear h hA hk hcells hx
  generalize x.bt = bt at h10 q0
  generalize x.br = br at h11 q1
  have hr1 : (r : Int) < k := by omega
  have hr0 : (0 : Int) ≤ r := by omega
  have hk0 : ((k : Int) == 0) = false := by simp; omega
  have b3 : Blk (W.alloc (.cells #[.int .i64 3, .int .i64 T, .string s, .string s2, .int .i64 a0, .int .i64 a1, .int .i64 c0, .int .i64 c1, .int .i64 nm] 37)) W.heap.size 37 #[.int .i64 3, .int .i64 T, .string s, .string s2, .int .i64 a0, .int .i64 a1, .int .i64 c0, .int .i64 c1, .int .i64 nm] := Blk.new W 37 _
  have hB0 : Below W.heap.size W (W.alloc (.cells #[.int .i64 3, .int .i64 T, .string s, .string s2, .int .i64 a0, .int .i64 a1, .int .i64 c0, .int .i64 c1, .int .i64 nm] 37)) := (Below.refl _ _).alloc (Nat.le_refl _) _
  go_enter Tryz.func5, Tryz.ntmps5
  go_upto_region 7 with fail
  generalize W.alloc (.cells #[.int .i64 3, .int .i64 T, .string s, .string s2, .int .i64 a0, .int .i64 a1, .int .i64 c0, .int .i64 c1, .int .i64 nm] 37) = W0 at b3 hB0 ⊢
  have hs0 := hB0.size
  have lt3 := b3.lt
  have d0 := (hB0.cell (p := ⟨bw, 0, none⟩) hbw).trans hc0
  have d1 := b3.cell 1
  have p0 := (hB0.cell (p := ⟨gT, r * 2, none⟩) hgT).trans q0
  have p1 := (hB0.cell (p := ⟨gT, r * 2 + 1, none⟩) hgT).trans q1
  simp only [List.getElem?_toArray, List.getElem?_cons_zero, List.getElem?_cons_succ] at d1
  clear hc0 q0 q1
  have n1 : ¬ (bw = W0.heap.size) := by omega
  have n2 : ¬ (gT = W0.heap.size) := by omega
  have n3 : ¬ (W.heap.size = W0.heap.size) := by omega
  have hbw0 : bw < W0.heap.size := by omega
  have hgT0 : gT < W0.heap.size := by omega
  go_cut [6] from 62 to 75 (fun q wx => ∃ b6, q = .pointer (some ⟨b6, 0, none⟩) ∧ Below W.heap.size W wx ∧ Blk wx b6 44 #[.pointer (some ⟨bt, 0, none⟩), .pointer (some ⟨br, 0, none⟩)] ∧ Blk wx W.heap.size 37 #[.int .i64 3, .int .i64 T, .string s, .string s2, .int .i64 a0, .int .i64 a1, .int .i64 c0, .int .i64 c1, .int .i64 nm] ∧ W.heap.size < b6)
  case first =>
    go_region_held3 (fun w' => w'.cell? ⟨bw, 0, none⟩ = some (.slice (some ⟨gT, 0, none⟩) k cT) ∧ w'.cell? ⟨W.heap.size, 1, none⟩ = some (.int .i64 T) ∧ w'.cell? ⟨gT, r * 2, none⟩ = some (.pointer (some ⟨bt, 0, none⟩)) ∧ w'.cell? ⟨gT, r * 2 + 1, none⟩ = some (.pointer (some ⟨br, 0, none⟩))) (go_keep)
      (first
      | (go_at_call 9; refine (hpick _).mono ?_; rintro e w1 ⟨rfl, hw1⟩; subst hw1))
    all_goals go_wp2_with fail
    all_goals go_meet
    all_goals exact ⟨_, rfl, (by (repeat (first | (with_reducible exact Below.refl _ _) | (with_reducible assumption) | ((with_reducible refine Below.setCell ?_ ?_ _); rotate_left; (focus (first | omega | (simp <;> omega)))) | ((with_reducible refine Below.alloc ?_ ?_ _); rotate_left; (focus (first | omega | (simp <;> omega)))) | (with_reducible refine Below.drew ?_) | (with_reducible refine below_drewN ?_ _) | (refine bstep ?_ (by with_reducible assumption))))), (by first | (with_reducible exact Blk.new' (by simp)) | (with_reducible exact Blk.drew (Blk.new' (by simp)))), (by (repeat (first | (with_reducible assumption) | ((with_reducible refine Blk.new' ?_); simp; done) | (with_reducible refine Blk.alloc ?_ _) | (with_reducible refine Blk.drew ?_) | (with_reducible refine Blk.drewN ?_ _)))), lt3⟩
  case rest =>
    obtain ⟨b6, rfl, hBc, b6c, b3c, hlt6⟩ := hcut
    clear hpick p0 p1 d0 d1 b3 hB0
    have hzc := hBc.size
    have e60 := b6c.cell 0
    have e61 := b6c.cell 1
    have e3 := b3c.cell
    simp only [List.getElem?_toArray, List.getElem?_cons_zero, List.getElem?_cons_succ] at e60 e61
    go_wp2_with (first
      | (go_at_call 13; refine (h10 _ hBc).mono ?_; rintro e w1 ⟨rfl, hk1, hM1⟩; have b61 := b6c.keep hk1 (by omega); have b31 := b3c.keep hk1 (by omega); have f61 := b61.cell 1; have f3 := b31.cell; simp only [List.getElem?_toArray, List.getElem?_cons_zero, List.getElem?_cons_succ] at f61)
      | (go_at_call 14; refine (h11 _ hM1).mono ?_; rintro e w2 ⟨rfl, hk2, hM2⟩)
      | (go_at_call 12; refine (h12 _ hM2).mono ?_; rintro e w3 ⟨rfl, hX⟩))
    all_goals exact hX
set_option maxRecDepth 100000 in
set_option maxHeartbeats 2000000 in
theorem step_queue {n₀ : Nat} {τ : Nat → Tag} {W : World} {bw : Nat} {tws : List Tw} {N : Nat} (hN : N ≤ 99999996) (h : St n₀ τ W bw tws N) (hA : Agree tws) (hpos : 0 < tws.length) (hmax : tws.length ≤ 100000000) (s s2 : ByteArray) (hs : s.size ≤ 2000000) (T a0 a1 c0 c1 nm : Int)
    (hT1 : -9223372036854775808 ≤ T) (hT2 : T ≤ 9223372036854775807) :
    Calls Tryz.prog 5 #[.pointer (some ⟨bw, 0, none⟩), .agg #[.int .i64 4, .int .i64 T, .string s, .string s2, .int .i64 a0, .int .i64 a1, .int .i64 c0, .int .i64 c1, .int .i64 nm]] W (StepR n₀ τ W bw tws.length (N + 4)) := by
  obtain ⟨gT, cT, hbw, hgT, hcT1, hcT2, hc0, hcells⟩ := h.towers hpos
  obtain ⟨r, hr, hpick⟩ := pick_val T tws.length hT1 hT2 hpos (by omega)
  obtain ⟨x, hx⟩ : ∃ x, tws[r]? = some x := ⟨_, List.getElem?_eq_getElem hr⟩
  have h25 := fun W1 hb => queue_chain hN h hA (t := r) (x := x) hx s s2 hs T a0 a1 c0 c1 nm W1 hb
  obtain ⟨q0, q1⟩ := hcells r x hx
  obtain ⟨k, hk⟩ : ∃ k, k = tws.length := ⟨_, rfl⟩
  rw [← hk] at hpos hmax hcT1 hc0 h25 hr hpick ⊢
  have h25 : ∀ W1, Below W.heap.size W W1 → Calls Tryz.prog 25 #[.pointer (some ⟨bw, 0, none⟩), .agg #[.pointer (some ⟨x.bt, 0, none⟩), .pointer (some ⟨x.br, 0, none⟩)], .agg #[.int .i64 4, .int .i64 T, .string s, .string s2, .int .i64 a0, .int .i64 a1, .int .i64 c0, .int .i64 c1, .int .i64 nm]] W1 fun e w' => e = .returned (.bool true) ∧ StepR n₀ τ W bw k (N + 4) (.returned (.bool true)) w' := fun W1 hM => (h25 W1 hM).mono (fun e w' hS => ⟨hS.1, by rw [← hS.1]; exact hS⟩)
  generalize StepR n₀ τ W bw k (N + 4) = X at h25 ⊢
  clear h hA hk hcells hx
  generalize x.bt = bt at h25 q0
  generalize x.br = br at h25 q1
  have hr1 : (r : Int) < k := by omega
  have hr0 : (0 : Int) ≤ r := by omega
  have hk0 : ((k : Int) == 0) = false := by simp; omega
  have b3 : Blk (W.alloc (.cells #[.int .i64 4, .int .i64 T, .string s, .string s2, .int .i64 a0, .int .i64 a1, .int .i64 c0, .int .i64 c1, .int .i64 nm] 37)) W.heap.size 37 #[.int .i64 4, .int .i64 T, .string s, .string s2, .int .i64 a0, .int .i64 a1, .int .i64 c0, .int .i64 c1, .int .i64 nm] := Blk.new W 37 _
  have hB0 : Below W.heap.size W (W.alloc (.cells #[.int .i64 4, .int .i64 T, .string s, .string s2, .int .i64 a0, .int .i64 a1, .int .i64 c0, .int .i64 c1, .int .i64 nm] 37)) := (Below.refl _ _).alloc (Nat.le_refl _) _
  go_enter Tryz.func5, Tryz.ntmps5
  go_upto_region 7 with fail
  generalize W.alloc (.cells #[.int .i64 4, .int .i64 T, .string s, .string s2, .int .i64 a0, .int .i64 a1, .int .i64 c0, .int .i64 c1, .int .i64 nm] 37) = W0 at b3 hB0 ⊢
  have hs0 := hB0.size
  have lt3 := b3.lt
  have d0 := (hB0.cell (p := ⟨bw, 0, none⟩) hbw).trans hc0
  have d1 := b3.cell 1
  have p0 := (hB0.cell (p := ⟨gT, r * 2, none⟩) hgT).trans q0
  have p1 := (hB0.cell (p := ⟨gT, r * 2 + 1, none⟩) hgT).trans q1
  simp only [List.getElem?_toArray, List.getElem?_cons_zero, List.getElem?_cons_succ] at d1
  clear hc0 q0 q1
  have n1 : ¬ (bw = W0.heap.size) := by omega
  have n2 : ¬ (gT = W0.heap.size) := by omega
  have n3 : ¬ (W.heap.size = W0.heap.size) := by omega
  have hbw0 : bw < W0.heap.size := by omega
  have hgT0 : gT < W0.heap.size := by omega
  go_cut [6] from 62 to 75 (fun q wx => ∃ b6, q = .pointer (some ⟨b6, 0, none⟩) ∧ Below W.heap.size W wx ∧ Blk wx b6 44 #[.pointer (some ⟨bt, 0, none⟩), .pointer (some ⟨br, 0, none⟩)] ∧ Blk wx W.heap.size 37 #[.int .i64 4, .int .i64 T, .string s, .string s2, .int .i64 a0, .int .i64 a1, .int .i64 c0, .int .i64 c1, .int .i64 nm] ∧ W.heap.size < b6)
  case first =>
    go_region_held3 (fun w' => w'.cell? ⟨bw, 0, none⟩ = some (.slice (some ⟨gT, 0, none⟩) k cT) ∧ w'.cell? ⟨W.heap.size, 1, none⟩ = some (.int .i64 T) ∧ w'.cell? ⟨gT, r * 2, none⟩ = some (.pointer (some ⟨bt, 0, none⟩)) ∧ w'.cell? ⟨gT, r * 2 + 1, none⟩ = some (.pointer (some ⟨br, 0, none⟩))) (go_keep)
      (first
      | (go_at_call 9; refine (hpick _).mono ?_; rintro e w1 ⟨rfl, hw1⟩; subst hw1))
    all_goals go_wp2_with fail
    all_goals go_meet
    all_goals exact ⟨_, rfl, (by (repeat (first | (with_reducible exact Below.refl _ _) | (with_reducible assumption) | ((with_reducible refine Below.setCell ?_ ?_ _); rotate_left; (focus (first | omega | (simp <;> omega)))) | ((with_reducible refine Below.alloc ?_ ?_ _); rotate_left; (focus (first | omega | (simp <;> omega)))) | (with_reducible refine Below.drew ?_) | (with_reducible refine below_drewN ?_ _) | (refine bstep ?_ (by with_reducible assumption))))), (by first | (with_reducible exact Blk.new' (by simp)) | (with_reducible exact Blk.drew (Blk.new' (by simp)))), (by (repeat (first | (with_reducible assumption) | ((with_reducible refine Blk.new' ?_); simp; done) | (with_reducible refine Blk.alloc ?_ _) | (with_reducible refine Blk.drew ?_) | (with_reducible refine Blk.drewN ?_ _)))), lt3⟩
  case rest =>
    obtain ⟨b6, rfl, hBc, b6c, b3c, hlt6⟩ := hcut
    clear hpick p0 p1 d0 d1 b3 hB0
    have hzc := hBc.size
    have e60 := b6c.cell 0
    have e61 := b6c.cell 1
    have e3 := b3c.cell
    simp only [List.getElem?_toArray, List.getElem?_cons_zero, List.getElem?_cons_succ] at e60 e61
    go_wp2_with (go_at_call 25; refine (h25 _ hBc).mono ?_; rintro e w1 ⟨rfl, hX⟩)
    all_goals exact hX
end Go.Proofs.YtepneihjhcakhaaGreatDoor
