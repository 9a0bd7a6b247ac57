import Derived.Test.YtepneihjhcakhaaGreatDoorModel
import Derived.Deep.RegionLaw
import Derived.Lib.AppendZerosOnto
import Derived.Lib.Overlaps
import Derived.Laws.NewBlocks
set_option linter.unusedVariables false
set_option linter.unusedSimpArgs false
namespace Go.Proofs.YtepneihjhcakhaaGreatDoor
open Go.RowKit

/-! copy, where its run is known -/
theorem wp_copy_eq {P : Program} (w : World) {o : Oper} {a : Act} {K : Act → World → Prop} {Q : Exit → Act → World → Prop} (d s : Operand) (t t' : TypeId)
    (ho : o.op = .call { callee := .builtin .copy, args := #[d, s], argTypes := #[t, t'] }) (v u : Value) (hd : a.eval d = v) (hs : a.eval s = u) {v' : Value} {w' : World}
    (hr : (Builtin.copy_ #[t, t'] o.type #[v, u]).run P w = .ok v' w') (h : K (a.put o.dst v') w') : o.wp P a w K Q := by
  unfold Oper.wp execOp
  simp only [ho, resolve, invoke, builtin, Sem.run_bind, Sem.run_pure, Result.andThen_ok, List.map_toArray, List.map_cons, List.map_nil, hd, hs, hr]
  exact h
theorem wpList_copy_eq {P : Program} (w : World) {ops : Array Oper} {rest : List Oper} {o : Oper} {a : Act} {Q : Exit → Act → World → Prop} (hgd : o.guard = none) (d s : Operand) (t t' : TypeId)
    (ho : o.op = .call { callee := .builtin .copy, args := #[d, s], argTypes := #[t, t'] }) (v u : Value) (hd : a.eval d = v) (hs : a.eval s = u) {v' : Value} {w' : World}
    (hr : (Builtin.copy_ #[t, t'] o.type #[v, u]).run P w = .ok v' w') (h : wpList P ops Q rest (a.put o.dst v') w') : wpList P ops Q (o :: rest) a w :=
  wpList_plain hgd fun _ hK => wp_copy_eq w d s t t' ho v u hd hs hr (hK _ _ h)
theorem step_copy_eq {P : Program} {ops : Array Oper} {o : Oper} {a : Act} {w : World} {K : Act → World → Prop} {Q : Exit → Act → World → Prop} {E : Prop}
    (hg : o.guard = none) (d x : Operand) (dT sT : TypeId) (hop : o.op = Op.call { callee := Callee.builtin Builtin.copy, args := #[d, x], argTypes := #[dT, sT] })
    (v u : Value) (hd : a.eval d = v) (hx : a.eval x = u) {v' : Value} {w' : World} (hr : (Builtin.copy_ #[dT, sT] o.type #[v, u]).run P w = .ok v' w') (hK : K (a.put o.dst v') w') :
    if Region.wanted o (yielded ops a.tmps) = true then Oper.wp P o a w K Q else E := by
  rw [if_pos (by simp [Region.wanted, hg])]
  unfold Oper.wp
  simp [execOp, hop, resolve, invoke, builtin, hd, hx, hr, Result.andThen]
  exact hK

theorem info60 : (Tryz.prog.info? 60).map (fun i => (i.zero, i.size, i.bytes)) = some (some (.pointer none), 1, 8) := by kernel_rfl
theorem size60 : (Tryz.prog.info? 60).map (·.size) = some 1 := by kernel_rfl

set_option maxRecDepth 100000 in
set_option maxHeartbeats 2000000 in
/-- slices.Insert: at the end. -/
theorem insert_end (sl : Value) (n vb : Nat) (xs : List Value) (v : Value) (w : World) (hn : n ≤ 1000) (hv1 : v.oneCell' = true) (hown : w.ownsRow 0 60 1 sl n xs) (hvb : Blk w vb 60 #[v]) :
    Calls Tryz.prog 75 #[sl, .int .i64 n, .slice (some ⟨vb, 0, none⟩) 1 1] w fun e w' =>
      ∃ sl', e = .returned sl' ∧ w'.ownsRow 0 60 1 sl' (n + 1) (xs ++ [v]) ∧ w.grownBy w' sl.ownBlock ∧ (sl'.ownBlock = sl.ownBlock ∨ ∃ g, sl'.ownBlock = some g ∧ w.heap.size ≤ g) := by
  obtain ⟨i0, hi, hz0, hz1, hz2⟩ := info_parts info60
  have hvc := hvb.cell 0
  simp only [List.getElem?_toArray, List.getElem?_cons_zero] at hvc
  have hnews : ∀ j u, [v][j]? = some u → w.cell? ((⟨vb, 0, none⟩ : Addr).add j) = some u := fun j u hj => by
    cases j with
    | zero => simp at hj; subst hj; exact hvc
    | succ j => simp at hj
  have key : ∃ v' w', (∀ ty, (Builtin.append_ #[102, 102] ty #[sl, .slice (some ⟨vb, 0, none⟩) 1 1]).run Tryz.prog w = .ok v' w') ∧ w'.ownsRow 0 60 1 v' (n + 1) (xs ++ [v]) ∧ w.grownBy w' sl.ownBlock ∧ (v'.ownBlock = sl.ownBlock ∨ ∃ g, v'.ownBlock = some g ∧ w.heap.size ≤ g) := by
    have hnew : ∀ {v' : Value} {w' : World}, w'.ownsRow w.heap.size 60 1 v' (n + 1) (xs ++ [v]) → w'.ownsRow 0 60 1 v' (n + 1) (xs ++ [v]) ∧ ∃ g, v'.ownBlock = some g ∧ w.heap.size ≤ g := fun {v' w'} h => by
      obtain ⟨h1, h2⟩ := h
      rcases h2 with ⟨_, h0⟩ | ⟨g, cap, cur, rfl, hb, rest⟩
      · omega
      · exact ⟨⟨h1, .inr ⟨g, cap, cur, rfl, Nat.zero_le _, rest⟩⟩, g, rfl, hb⟩
    rcases hown.2 with ⟨rfl, rfl⟩ | ⟨g, cap, cur, rfl, _, hg, hnc, hcm, hcs, ht⟩
    · have hx : xs = [] := List.eq_nil_of_length_eq_zero (by simpa using hown.1)
      subst hx
      obtain ⟨v', w', hr, ho, hgr, _⟩ := run_append_own (P := Tryz.prog) w w.heap.size 102 0 60 i0 _ 1 8 Tryz.underlying102 hi hz0 hz1 hz2 rfl (by decide) (.slice none 0 0) 0 [] (World.ownsRow_nil w _ 60 1) ⟨vb, 0, none⟩ 1 1 [v] rfl hnews (by simp [hv1]) (by unfold maxLen; omega) (by omega) (Nat.le_refl _)
      have ho' := hnew (by simpa using ho)
      exact ⟨v', w', fun ty => hr, ho'.1, hgr, .inr ho'.2⟩
    · by_cases hroom : n + 1 ≤ cap
      · have hr := fun ty => run_append_room (P := Tryz.prog) w 102 ty 60 i0 Tryz.underlying102 hi g n cap cur hg ⟨vb, 0, none⟩ 1 1 [v] (by rw [hz1]; rfl) hnews (by simp [hv1]) hroom (by rw [hz1]; simp; omega)
        rw [hz1] at hr
        simp only [Nat.mul_one] at hr ht hcs
        refine ⟨_, _, hr, ⟨by simp [hown.1], .inr ⟨g, cap, _, rfl, Nat.zero_le _, setRow_heap w g cur _ 60 _ hg, hroom, hcm, ?_, ?_⟩⟩, ⟨rfl, rfl, rfl, by simp, fun k _ hk => setRow_other w g k _ (fun e => hk (by simp [Value.ownBlock, e]))⟩, .inl rfl⟩
        · simp [hcs]; omega
        · have : xs.length = n := by simpa using hown.1
          rw [Nat.mul_one, List.toList_toArray, ht, List.take_append_of_le_length (by simp; omega), List.take_of_length_le (by simp; omega)]
      · obtain ⟨v', w', hr, ho, hgr⟩ := run_append_arg_grows (P := Tryz.prog) w 102 0 60 i0 _ 1 8 Tryz.underlying102 hi hz0 hz1 hz2 rfl (by decide) ⟨g, 0, none⟩ n cap xs hown.1 (hown.cells (g := g) rfl) ⟨vb, 0, none⟩ 1 1 [v] rfl hnews (by omega) (by unfold maxLen; omega) (by omega)
        have ho' := hnew ho
        exact ⟨v', w', fun ty => hr, ho'.1, ⟨hgr.os, hgr.tape, hgr.output, hgr.size, fun k hk _ => hgr.block k hk (by simp)⟩, .inr ho'.2⟩
  obtain ⟨v', w', hrun, ho, hgr, hor⟩ := key
  obtain ⟨ao, cap, hsl, hle⟩ : ∃ ao cap, sl = .slice ao n cap ∧ n ≤ cap ∧ cap ≤ maxLen := by
    rcases hown.2 with ⟨rfl, rfl⟩ | ⟨g, cap, cur, rfl, _, _, h1, h2, _⟩
    · exact ⟨none, 0, rfl, Nat.le_refl _, Nat.zero_le _⟩
    · exact ⟨_, _, rfl, h1, h2⟩
  obtain ⟨hle, hmax⟩ := hle
  unfold maxLen at hmax
  subst hsl
  have hnil : ao = none → n = 0 ∧ cap = 0 := fun e => by
    subst e
    rcases hown.2 with ⟨h, rfl⟩ | ⟨g, cap', cur, h, _⟩
    · injection h with _ _ h3; exact ⟨rfl, h3⟩
    · cases h
  clear hown hnews
  go_enter Tryz.func75, Tryz.ntmps75
  cases ao with
  | none =>
    obtain ⟨rfl, rfl⟩ := hnil rfl
    go_wp2_with (at_builtin; refine Lib.wpList_append_run _ rfl _ _ _ _ rfl _ _ rfl rfl _ _ (hrun _) ?_)
    all_goals (go_ret; exact ⟨_, rfl, ho, hgr, hor⟩)
  | some a =>
    go_wp2_with (at_builtin; refine Lib.wpList_append_run _ rfl _ _ _ _ rfl _ _ rfl rfl _ _ (hrun _) ?_)
    all_goals (go_ret; exact ⟨_, rfl, ho, hgr, hor⟩)

set_option maxRecDepth 100000 in
set_option maxHeartbeats 4000000 in
/-- slices.Insert: ahead of the end, and there is room. -/
theorem insert_shift (g n c i vb : Nat) (cur : Array Value) (v : Value) (w : World) (hi : i < n) (hroom : n + 1 ≤ c) (hc : c ≤ maxLen) (hg : w.heap[g]? = some (.cells cur 60 (0, 0))) (hcs : cur.size = c)
    (hv1 : v.oneCell' = true) (h1 : ∀ u ∈ cur.toList.take n, u.oneCell' = true) (hvb : Blk w vb 60 #[v]) (hne : vb ≠ g) :
    Calls Tryz.prog 75 #[.slice (some ⟨g, 0, none⟩) n c, .int .i64 i, .slice (some ⟨vb, 0, none⟩) 1 1] w fun e w' =>
      e = .returned (.slice (some ⟨g, 0, none⟩) (n + 1) c) ∧ (∃ R : Array Value, w'.heap[g]? = some (.cells R 60 (0, 0)) ∧ R.size = c ∧ R.toList.take (n + 1) = (cur.toList.take n).take i ++ v :: (cur.toList.take n).drop i) ∧ Keep (fun b => b = g) w w' := by
  unfold maxLen at hc
  have hz2 : ¬ ((i : Int) = (n : Int)) := by omega
  have hsh : w.shape? vb = some (60, 1) := by unfold World.shape?; rw [show w.heap[vb]? = _ from hvb]; rfl
  have hshg : w.shape? g = some (60, c) := by unfold World.shape?; rw [hg]; simp [hcs]
  have hov : ∀ lb cb, (callFunc 100 #[.slice (some ⟨vb, 0, none⟩) 1 1, .slice (some ⟨g, i + 1, none⟩) lb cb]).run Tryz.prog w = .ok (.value (.bool false)) w := fun lb cb => by
    rw [run_callFunc_extern Tryz.func100 (by kernel_rfl) (by kernel_rfl) (by kernel_rfl) (e := Extern.SlicesOverlaps.overlaps #[102, 102] #[4]) (by kernel_rfl),
      Lib.run_overlaps_apart w 102 4 60 Tryz.underlying102 1 Tryz.sizeOf60 ⟨vb, 0, none⟩ ⟨g, i + 1, none⟩ 1 1 lb cb hne 60 60 1 c hsh hshg (by omega) (hvb.frozen 0) (hvb.frozen 1)]
    rfl
  have cell : ∀ j u, cur[j]? = some u → w.cell? ⟨g, j, none⟩ = some u := fun j u h => by unfold World.cell?; simp only [hg]; simpa using h
  obtain ⟨cs, hcsd⟩ : ∃ cs, cs = (cur.toList.take n).drop i := ⟨_, rfl⟩
  have hcl : cs.length = n - i := by rw [hcsd]; simp; omega
  have hcp1 : ∀ ty dc sc, (Builtin.copy_ #[102, 102] ty #[.slice (some ⟨g, i + 1, none⟩) (n - i) dc, .slice (some ⟨g, i, none⟩) (n + 1 - i) sc]).run Tryz.prog w.drew = .ok (goInt cs.length) (w.drew.setRow g (cur.toList.take (i + 1) ++ cs ++ cur.toList.drop (i + 1 + cs.length)).toArray) := fun ty dc sc =>
    run_copy_row Tryz.prog w.drew 102 102 ty 60 g (i + 1) (n - i) dc ⟨g, i, none⟩ (n + 1 - i) sc cur 60 cs Tryz.underlying102 size60 hg (by rw [hcl]; simp only [Nat.min_def]; split <;> omega)
      (fun j u hj => by
        rw [Addr.add_lit]
        refine cell _ _ ?_
        rw [hcsd, List.getElem?_drop, List.getElem?_take] at hj
        split at hj
        · simpa using hj
        · cases hj) (by rw [hcl, hcs]; omega) (fun u hu => h1 u (by rw [hcsd] at hu; exact List.mem_of_mem_drop hu))
  obtain ⟨R1, hR1⟩ : ∃ R1, R1 = (cur.toList.take (i + 1) ++ cs ++ cur.toList.drop (i + 1 + cs.length)).toArray := ⟨_, rfl⟩
  rw [← hR1] at hcp1
  have hR1s : R1.size = c := by rw [hR1]; simp [hcl, hcs]; omega
  have hg1 : (w.drew.setRow g R1).heap[g]? = some (.cells R1 60 (0, 0)) := setRow_heap w.drew g cur R1 60 (0, 0) hg
  have hvc : w.cell? ⟨vb, 0, none⟩ = some v := by have := hvb.cell 0; simpa using this
  have hcp2 : ∀ (W : World), W.heap[g]? = some (.cells R1 60 (0, 0)) → W.cell? ⟨vb, 0, none⟩ = some v → ∀ ty dc, (Builtin.copy_ #[102, 102] ty #[.slice (some ⟨g, i, none⟩) (n + 1 - i) dc, .slice (some ⟨vb, 0, none⟩) 1 1]).run Tryz.prog W = .ok (goInt 1) (W.setRow g (R1.toList.take i ++ [v] ++ R1.toList.drop (i + 1)).toArray) := fun W hWg hWv ty dc =>
    run_copy_row Tryz.prog W 102 102 ty 60 g i (n + 1 - i) dc ⟨vb, 0, none⟩ 1 1 R1 60 [v] Tryz.underlying102 size60 hWg (by simp only [Nat.min_def, List.length_singleton]; split <;> omega)
      (fun j u hj => by cases j with | zero => (simp at hj; subst hj; exact hWv) | succ j => simp at hj) (by rw [hR1s]; simp; omega) (by simp [hv1])
  have hE : ∀ j u, w.cell? ⟨vb, j, none⟩ = some u → (w.drew.setRow g R1).cell? ⟨vb, j, none⟩ = some u := fun j u h => by rw [cell_setRow_other _ _ _ _ hne]; exact h
  have hw1 : IntKind.i64.wrap ((i : Int) + 1) = (i : Int) + 1 := by rw [IntKind.wrap_i64]; omega
  have hin : i ≤ n := by omega
  have htn : ((i : Int) + 1).toNat = i + 1 := by omega
  have hb1 : (0 : Int) ≤ (i : Int) + 1 := by omega
  have hb2 : ¬ (c = i + 1) := by omega
  have hb3 : (i : Int) ≤ (n : Int) + 1 := by omega
  have hb4 : ¬ (c = i) := by omega
  have HCS : Hid (cs = (cur.toList.take n).drop i) := hcsd
  have HR1 : Hid (R1 = (cur.toList.take (i + 1) ++ cs ++ cur.toList.drop (i + 1 + cs.length)).toArray) := hR1
  have HCL : Hid (cs.length = n - i) := hcl
  clear hcsd hR1 hcl
  go_enter Tryz.func75, Tryz.ntmps75
  go_wp2_with (simp only [hov])
  go_region_law (refine step_copy_eq rfl _ _ 102 102 rfl _ _ (by simp [Act.eval, Act.put]) (by simp [Act.eval, Act.put]) (hcp1 _ _ _) ?_)
  go_wp2_with (at_builtin; refine wpList_copy_eq _ rfl _ _ 102 102 rfl _ _ rfl rfl (hcp2 _ hg1 (hE _ _ hvc) _ _) ?_)
  go_ret
  refine ⟨rfl, ⟨(R1.toList.take i ++ v :: R1.toList.drop (i + 1)).toArray, setRow_heap _ g R1 _ 60 (0, 0) hg1, by simp [hR1s]; omega, ?_⟩, ?_⟩
  · have e1 : R1.toList = cur.toList.take (i + 1) ++ cs ++ cur.toList.drop (n + 1) := by rw [HR1.out, HCL.out, show i + 1 + (n - i) = n + 1 by omega]
    have e2 : R1.toList.take i = cur.toList.take i := by rw [e1, List.append_assoc, List.take_append_of_le_length (by simp; omega), List.take_take, Nat.min_eq_left (by omega)]
    have e3 : R1.toList.drop (i + 1) = cs ++ cur.toList.drop (n + 1) := by rw [e1, List.append_assoc, List.drop_append_of_le_length (by simp; omega), List.drop_of_length_le (by simp; omega)]; rfl
    have e4 : (cur.toList.take n).take i = cur.toList.take i := by rw [List.take_take, Nat.min_eq_left (by omega)]
    rw [List.toList_toArray, e2, e3, e4, ← HCS.out]
    have hlen : (cur.toList.take i).length = i := by simp; omega
    rw [show cur.toList.take i ++ v :: (cs ++ cur.toList.drop (n + 1)) = (cur.toList.take i ++ v :: cs) ++ cur.toList.drop (n + 1) by simp]
    rw [List.take_append_of_le_length (by simp [hlen, HCL.out]; omega), List.take_of_length_le (by simp [hlen, HCL.out]; omega)]
  · exact ⟨rfl, rfl, rfl, by simp, fun k hk hn => by rw [setRow_other _ _ _ _ hn, setRow_other _ _ _ _ hn]; rfl⟩

set_option maxRecDepth 100000 in
set_option maxHeartbeats 4000000 in
/-- slices.Insert: ahead of the end, and there is no room. -/
theorem insert_grow (g n c i vb : Nat) (cur : Array Value) (v : Value) (w : World) (hi : i < n) (hn1 : n ≤ 1000) (hnc : n ≤ c) (hroom : c < n + 1) (hg : w.heap[g]? = some (.cells cur 60 (0, 0))) (hcs : cur.size = c)
    (hv1 : v.oneCell' = true) (h1 : ∀ u ∈ cur.toList.take n, u.oneCell' = true) (hvb : Blk w vb 60 #[v]) :
    Calls Tryz.prog 75 #[.slice (some ⟨g, 0, none⟩) n c, .int .i64 i, .slice (some ⟨vb, 0, none⟩) 1 1] w fun e w' =>
      ∃ G, n + 1 ≤ G ∧ G ≤ maxLen ∧ e = .returned (.slice (some ⟨w.heap.size, 0, none⟩) (n + 1) G) ∧ (∃ R : Array Value, w'.heap[w.heap.size]? = some (.cells R 60 (0, 0)) ∧ R.size = G ∧ R.toList.take (n + 1) = (cur.toList.take n).take i ++ v :: (cur.toList.take n).drop i) ∧ Below w.heap.size w w' := by
  obtain ⟨i0, hi0, hz0, hzs, hzb⟩ := info_parts info60
  obtain ⟨xs, hxs⟩ : ∃ xs, xs = cur.toList.take n := ⟨_, rfl⟩
  rw [← hxs] at h1
  have hxl : xs.length = n := by rw [hxs]; simp; omega
  have hz2 : ¬ ((i : Int) = (n : Int)) := by omega
  have hz3 : (c : Int) < (n : Int) + 1 := by omega
  have hgw : g < w.heap.size := (Array.getElem?_eq_some_iff.1 hg).1
  have hvw : vb < w.heap.size := hvb.lt
  have cell : ∀ j u, xs[j]? = some u → w.cell? ⟨g, j, none⟩ = some u := fun j u h => by
    unfold World.cell?; simp only [hg]
    rw [hxs, List.getElem?_take] at h
    split at h
    · simpa using h
    · cases h
  have hvc : w.cell? ⟨vb, 0, none⟩ = some v := by have := hvb.cell 0; simpa using this
  have hkk : (n : Int) + 1 - (i : Int) = ((n + 1 - i : Nat) : Int) := by omega
  have hik : i + (n + 1 - i) = n + 1 := by omega
  have hold : (Builtin.firstCells i0.size i (.slice (some ⟨g, 0, none⟩) i c)).run Tryz.prog w.drew = .ok (xs.take i).toArray w.drew := by
    rw [hzs]
    exact run_firstCells_some w.drew 1 i ⟨g, 0, none⟩ i c (xs.take i) (by rw [List.length_take]; omega) (fun j u hj => by
      rw [Addr.add_lit, Nat.zero_add]
      rw [List.getElem?_take] at hj
      split at hj
      · exact cell j u hj
      · cases hj)
  obtain ⟨G, hG⟩ : ∃ G, G = grownCap w (n + 1) c 60 := ⟨_, rfl⟩
  obtain ⟨ROW, hROW⟩ : ∃ ROW : Array Value, ROW = (xs.take i).toArray ++ Builtin.zeroCells (Value.pointer none).cells (n + 1 - i) ++ Builtin.zeroCells (Value.pointer none).cells (G - (n + 1)) := ⟨_, rfl⟩
  have hrz : ∀ ty, (Builtin.append_ #[102, 3] ty #[.slice (some ⟨g, 0, none⟩) i c, .int .i64 ((n : Int) + 1 - (i : Int))]).run Tryz.prog w =
      .ok (.slice (some ⟨w.heap.size, 0, none⟩) (n + 1) G) (w.drew.alloc (.cells ROW 60)) := fun ty => by
    have h := Lib.run_append_grow_zeros w 102 3 ty 60 i0 _ .i64 .i64 Tryz.underlying102 Tryz.underlying3 hi0 hz0 (some ⟨g, 0, none⟩) i c (xs.take i) hold (n + 1 - i) (by omega) (by omega) (by omega) (by omega) (by rw [hzb]; omega) (by rw [hzb, hik]; exact growslice_fits hroom (by omega))
    rw [hik, ← hG, ← hROW] at h
    rw [hkk]
    exact h
  have hGn : n + 1 ≤ G := by rw [hG]; exact grownCap_ge w _ _ _
  have hG63 : G ≤ maxLen := by rw [hG]; exact grownCap_le_maxLen w (n + 1) c 60 (by unfold maxLen; omega)
  have hRl : ROW.size = G := by
    rw [hROW]; simp [Builtin.zeroCells, Value.cells]; omega
  have hRt : ROW.toList.take i = xs.take i := by
    rw [hROW]
    simp only [Array.toList_append, List.append_assoc, List.toList_toArray]
    rw [List.take_append_of_le_length (by simp; omega), List.take_of_length_le (by simp; omega)]
  obtain ⟨W1, hW1⟩ : ∃ W1, W1 = w.drew.alloc (.cells ROW 60) := ⟨_, rfl⟩
  rw [← hW1] at hrz
  have hsz1 : W1.heap.size = w.heap.size + 1 := by rw [hW1]; simp
  have hN : W1.heap[w.heap.size]? = some (.cells ROW 60 (0, 0)) := by rw [hW1]; exact heap_alloc_new w.drew _
  have hOld : ∀ k, k < w.heap.size → W1.heap[k]? = w.heap[k]? := fun k hk => by rw [hW1]; exact Below.heap_alloc w.drew _ k hk
  have hbel1 : Below w.heap.size w W1 := by rw [hW1]; exact (Below.refl _ w).drew.alloc (Nat.le_refl _) _
  have hcp1 : ∀ (W : World), W.heap[w.heap.size]? = some (.cells ROW 60 (0, 0)) → W.cell? ⟨vb, 0, none⟩ = some v → ∀ ty dc, (Builtin.copy_ #[102, 102] ty #[.slice (some ⟨w.heap.size, i, none⟩) (n + 1 - i) dc, .slice (some ⟨vb, 0, none⟩) 1 1]).run Tryz.prog W = .ok (goInt 1) (W.setRow w.heap.size (ROW.toList.take i ++ [v] ++ ROW.toList.drop (i + 1)).toArray) := fun W hWg hWv ty dc =>
    run_copy_row Tryz.prog W 102 102 ty 60 w.heap.size i (n + 1 - i) dc ⟨vb, 0, none⟩ 1 1 ROW 60 [v] Tryz.underlying102 size60 hWg (by simp only [Nat.min_def, List.length_singleton]; split <;> omega)
      (fun j u hj => by cases j with | zero => (simp at hj; subst hj; exact hWv) | succ j => simp at hj) (by rw [hRl]; simp; omega) (by simp [hv1])
  obtain ⟨R2, hR2⟩ : ∃ R2, R2 = (ROW.toList.take i ++ [v] ++ ROW.toList.drop (i + 1)).toArray := ⟨_, rfl⟩
  rw [← hR2] at hcp1
  have hR2s : R2.size = G := by rw [hR2]; simp [hRl]; omega
  obtain ⟨W2, hW2⟩ : ∃ W2, W2 = W1.setRow w.heap.size R2 := ⟨_, rfl⟩
  obtain ⟨cs, hcsd⟩ : ∃ cs, cs = xs.drop i := ⟨_, rfl⟩
  have hcl : cs.length = n - i := by rw [hcsd]; simp; omega
  have hcp2 : ∀ (W : World), W.heap[w.heap.size]? = some (.cells R2 60 (0, 0)) → (∀ j, W.cell? ⟨g, j, none⟩ = w.cell? ⟨g, j, none⟩) → ∀ ty dc sc, (Builtin.copy_ #[102, 102] ty #[.slice (some ⟨w.heap.size, i + 1, none⟩) (n - i) dc, .slice (some ⟨g, i, none⟩) (n - i) sc]).run Tryz.prog W = .ok (goInt cs.length) (W.setRow w.heap.size (R2.toList.take (i + 1) ++ cs ++ R2.toList.drop (i + 1 + cs.length)).toArray) := fun W hWg hWc ty dc sc =>
    run_copy_row Tryz.prog W 102 102 ty 60 w.heap.size (i + 1) (n - i) dc ⟨g, i, none⟩ (n - i) sc R2 60 cs Tryz.underlying102 size60 hWg (by rw [hcl]; simp)
      (fun j u hj => by
        rw [Addr.add_lit, hWc]
        rw [hcsd, List.getElem?_drop] at hj
        exact cell _ _ hj) (by rw [hcl, hR2s]; omega) (fun u hu => h1 u (by rw [hcsd] at hu; exact List.mem_of_mem_drop hu))
  obtain ⟨R3, hR3⟩ : ∃ R3, R3 = (R2.toList.take (i + 1) ++ cs ++ R2.toList.drop (i + 1 + cs.length)).toArray := ⟨_, rfl⟩
  rw [← hR3] at hcp2
  have hg2 : (W1.setRow w.heap.size R2).heap[w.heap.size]? = some (.cells R2 60 (0, 0)) := setRow_heap W1 _ ROW R2 60 (0, 0) hN
  have hcg : ∀ j, W1.cell? ⟨g, j, none⟩ = w.cell? ⟨g, j, none⟩ := fun j => World.cell?_of_block (hOld g hgw)
  have hcg2 : ∀ j, (W1.setRow w.heap.size R2).cell? ⟨g, j, none⟩ = w.cell? ⟨g, j, none⟩ := fun j => by rw [cell_setRow_other _ _ _ _ (by simp; omega)]; exact hcg j
  have hcv : W1.cell? ⟨vb, 0, none⟩ = some v := (World.cell?_of_block (hOld vb hvw)).trans hvc
  have hfin : R3.size = G ∧ R3.toList.take (n + 1) = xs.take i ++ v :: xs.drop i := by
    refine ⟨by rw [hR3]; simp [hcl, hR2s]; omega, ?_⟩
    have hil : (xs.take i).length = i := by simp; omega
    have e1 : R2.toList = xs.take i ++ v :: ROW.toList.drop (i + 1) := by rw [hR2, hRt]; simp
    have e2 : R2.toList.take (i + 1) = xs.take i ++ [v] := by
      rw [e1, List.take_append, hil, show i + 1 - i = 1 by omega, List.take_of_length_le (by omega)]; simp
    rw [hR3, List.toList_toArray, e2, hcsd]
    rw [show xs.take i ++ [v] ++ xs.drop i = xs.take i ++ v :: xs.drop i by simp]
    rw [List.take_append_of_le_length (by simp; omega), List.take_of_length_le (by simp; omega)]
  have hmax := hG63
  unfold maxLen at hmax
  have hGi : ¬ (G = i) := by omega
  have hGim : ¬ (G = i + 1) := by omega
  have hci : ¬ (c = i) := by omega
  have hw1 : IntKind.i64.wrap ((i : Int) + 1) = (i : Int) + 1 := by rw [IntKind.wrap_i64]; omega
  have hb1 : (0 : Int) ≤ (i : Int) + 1 := by omega
  have hin : i ≤ n := by omega
  have htn : ((i : Int) + 1).toNat = i + 1 := by omega
  have hb3 : (i : Int) ≤ (n : Int) := by omega
  have HXS : Hid (xs = cur.toList.take n) := hxs
  have HW1 : Hid (W1 = w.drew.alloc (.cells ROW 60)) := hW1
  have HFIN : Hid (R3.size = G ∧ R3.toList.take (n + 1) = xs.take i ++ v :: xs.drop i) := hfin
  have HOLD : Hid (∀ k, k < w.heap.size → W1.heap[k]? = w.heap[k]?) := hOld
  have hcpA := hcp1 W1 hN hcv
  have hcpB := hcp2 (W1.setRow w.heap.size R2).drew hg2 hcg2
  clear hkk hik hold hROW hG hRl hRt hR2 hR3 hW2 hcsd hcl hxs hxl hR2s hW1 hfin hcg hOld h1 cell
  go_enter Tryz.func75, Tryz.ntmps75
  go_wp2_with (at_builtin; refine Lib.wpList_append_run _ rfl _ _ _ _ rfl _ _ rfl rfl _ _ (hrz _) ?_)
  go_region
  go_wp2
  go_ret
  refine ⟨G, hGn, hG63, rfl, ⟨R3, setRow_heap (W1.setRow w.heap.size R2).drew _ R2 _ 60 (0, 0) hg2, HFIN.out.1, by rw [← HXS.out]; exact HFIN.out.2⟩, ?_⟩
  refine hbel1.trans ⟨rfl, rfl, rfl, by simp, fun k hk => ?_⟩
  rw [setRow_other _ _ _ _ (by omega)]
  exact setRow_other _ _ _ _ (by omega)

/-- slices.Insert, all roads: where a list of queues is owned. -/
theorem insert_any (sl : Value) (n i vb : Nat) (xs : List Value) (v : Value) (w : World) (hn : n ≤ 1000) (hi : i ≤ n) (hv1 : v.oneCell' = true) (h1 : ∀ u ∈ xs, u.oneCell' = true) (hown : w.ownsRow 0 60 1 sl n xs) (hvb : Blk w vb 60 #[v]) (hne : sl.ownBlock ≠ some vb) :
    Calls Tryz.prog 75 #[sl, .int .i64 i, .slice (some ⟨vb, 0, none⟩) 1 1] w fun e w' =>
      ∃ sl', e = .returned sl' ∧ w'.ownsRow 0 60 1 sl' (n + 1) (xs.take i ++ v :: xs.drop i) ∧ Keep (fun b => sl.ownBlock = some b) w w' ∧ (sl'.ownBlock = sl.ownBlock ∨ ∃ g, sl'.ownBlock = some g ∧ w.heap.size ≤ g) := by
  have hxl : xs.length = n := by have := hown.1; omega
  rcases Nat.lt_or_ge i n with hlt | hge
  · rcases hown.2 with ⟨rfl, rfl⟩ | ⟨g, cap, cur, rfl, _, hg, hnc, hcm, hcs, ht⟩
    · omega
    · simp only [Nat.mul_one] at hcs ht
      have h1' : ∀ u ∈ cur.toList.take n, u.oneCell' = true := by rw [ht]; exact h1
      by_cases hroom : n + 1 ≤ cap
      · refine (insert_shift g n cap i vb cur v w hlt hroom hcm hg hcs hv1 h1' hvb (fun e => hne (by rw [e]; rfl))).mono ?_
        rintro e w' ⟨rfl, ⟨R, hR, hRs, hRt⟩, hk⟩
        refine ⟨_, rfl, ⟨by simp; omega, .inr ⟨g, cap, R, rfl, Nat.zero_le _, hR, hroom, hcm, by omega, by rw [Nat.mul_one, hRt, ht]⟩⟩, hk.mono (fun b hb => by rw [hb]; rfl), .inl rfl⟩
      · refine (insert_grow g n cap i vb cur v w hlt hn hnc (by omega) hg hcs hv1 h1' hvb).mono ?_
        rintro e w' ⟨G, hG1, hG2, rfl, ⟨R, hR, hRs, hRt⟩, hb⟩
        refine ⟨_, rfl, ⟨by simp; omega, .inr ⟨w.heap.size, G, R, rfl, Nat.zero_le _, hR, hG1, hG2, by omega, by rw [Nat.mul_one, hRt, ht]⟩⟩, Keep.new hb, .inr ⟨w.heap.size, rfl, Nat.le_refl _⟩⟩
  · obtain rfl : i = n := by omega
    refine (insert_end sl i vb xs v w hn hv1 hown hvb).mono ?_
    rintro e w' ⟨sl', rfl, hown', hgr, hor⟩
    refine ⟨sl', rfl, ?_, (Keep.refl _ _).grown hgr (fun k h => h), hor⟩
    rw [List.take_of_length_le (by omega), List.drop_of_length_le (by omega)]; exact hown'
end Go.Proofs.YtepneihjhcakhaaGreatDoor
