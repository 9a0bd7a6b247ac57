import Derived.Test.YtphclnolomgjoaaGreatDoorC17
import Derived.Test.YtphclnolomgjoaaGreatDoorC05
import Derived.Deep.RegionLaw
import Derived.Lib.AppendZerosOnto
import Derived.Lib.Overlaps
import Derived.Laws.NewBlocks
import Derived.Test.YtphclnolomgjoaaGreatDoorC06
set_option linter.unusedVariables false
set_option linter.unusedSimpArgs false
namespace Go.Proofs.YtphclnolomgjoaaGreatDoor
open Go.RowKit
theorem qn2 : (Tryz.prog.info? 95).map (fun i => (i.zero, i.size, i.bytes)) = some (some (.pointer none), 1, 8) := by kernel_rfl
theorem qhk : (Tryz.prog.info? 95).map (·.size) = some 1 := by kernel_rfl
set_option maxRecDepth 100000 in
set_option maxHeartbeats 2000000 in
theorem qk6 (sl : Value) (n vb : Nat) (xs : List Value) (v : Value) (w : World) (hn : n <= 1000) (hv1 : v.oneCell' = true) (hown : w.ownsRow 0 95 1 sl n xs) (hvb : Blk w vb 95 #[v]) :
  Calls Tryz.prog 232 #[sl, .int .i64 n, .slice (some ⟨vb, 0, none⟩) 1 1] w fun e w' =>
   ∃ sl', e = .returned sl' /\ w'.ownsRow 0 95 1 sl' (n + 1) (xs ++ [v]) /\ w.grownBy w' sl.ownBlock /\ (sl'.ownBlock = sl.ownBlock \/ ∃ g, sl'.ownBlock = some g /\ w.heap.size <= g) := by
 obtain ⟨i0, hi, hz0, hz1, hz2⟩ := info_parts qn2
 have hvc := hvb.cell 0
 simp only [List.getElem?_toArray, List.getElem?_cons_zero] at hvc
 have hnews : ∀ j u, [v][j]? = some u -> w.cell? ((⟨vb, 0, none⟩ : Addr).add j) = some u := fun j u hj => by
  cases j with
  | zero => simp at hj; subst hj; exact hvc
  | succ j => simp at hj
 have key : ∃ v' w', (∀ ty, (Builtin.append_ #[98, 98] ty #[sl, .slice (some ⟨vb, 0, none⟩) 1 1]).run Tryz.prog w = .ok v' w') /\ w'.ownsRow 0 95 1 v' (n + 1) (xs ++ [v]) /\ w.grownBy w' sl.ownBlock /\ (v'.ownBlock = sl.ownBlock \/ ∃ g, v'.ownBlock = some g /\ w.heap.size <= g) := by
  have hnew : ∀ {v' : Value} {w' : World}, w'.ownsRow w.heap.size 95 1 v' (n + 1) (xs ++ [v]) -> w'.ownsRow 0 95 1 v' (n + 1) (xs ++ [v]) /\ ∃ g, v'.ownBlock = some g /\ w.heap.size <= g := fun {v' w'} h => by
   obtain ⟨h1, h2⟩ := h
   rcases h2 with ⟨_, h0⟩ | ⟨g, cap, cur, rfl, hb, rest⟩
   ·omega
   ·exact ⟨⟨h1, .inr ⟨g, cap, cur, rfl, Nat.zero_le _, rest⟩⟩, g, rfl, hb⟩
  rcases hown.2 with ⟨rfl, rfl⟩ | ⟨g, cap, cur, rfl, _, hg, hnc, hcm, hcs, ht⟩
  ·have hx : xs = [] := List.eq_nil_of_length_eq_zero (by simpa using hown.1)
   subst hx
   obtain ⟨v', w', hr, ho, hgr, _⟩ := run_append_own (P := Tryz.prog) w w.heap.size 98 0 95 i0 _ 1 8 Tryz.underlying98 hi hz0 hz1 hz2 rfl (by decide) (.slice none 0 0) 0 [] (World.ownsRow_nil w _ 95 1) ⟨vb, 0, none⟩ 1 1 [v] rfl hnews (by simp [hv1]) (by unfold maxLen; omega) (by omega) (Nat.le_refl _)
   have ho' := hnew (by simpa using ho)
   exact ⟨v', w', fun ty => hr, ho'.1, hgr, .inr ho'.2⟩
  ·by_cases hroom : n + 1 <= cap
   ·have hr := fun ty => run_append_room (P := Tryz.prog) w 98 ty 95 i0 Tryz.underlying98 hi g n cap cur hg ⟨vb, 0, none⟩ 1 1 [v] (by rw [hz1]; rfl) hnews (by simp [hv1]) hroom (by rw [hz1]; simp; omega)
    rw [hz1] at hr
    simp only [Nat.mul_one] at hr ht hcs
    refine ⟨_, _, hr, ⟨by simp [hown.1], .inr ⟨g, cap, _, rfl, Nat.zero_le _, setRow_heap w g cur _ 95 _ hg, hroom, hcm, ?_, ?_⟩⟩, ⟨rfl, rfl, rfl, by simp, fun k _ hk => setRow_other w g k _ (fun e => hk (by simp [Value.ownBlock, e]))⟩, .inl rfl⟩
    ·simp [hcs]; omega
    ·have : xs.length = n := by simpa using hown.1
     rw [Nat.mul_one, List.toList_toArray, ht, List.take_append_of_le_length (by simp; omega), List.take_of_length_le (by simp; omega)]
   ·obtain ⟨v', w', hr, ho, hgr⟩ := run_append_arg_grows (P := Tryz.prog) w 98 0 95 i0 _ 1 8 Tryz.underlying98 hi hz0 hz1 hz2 rfl (by decide) ⟨g, 0, none⟩ n cap xs hown.1 (hown.cells (g := g) rfl) ⟨vb, 0, none⟩ 1 1 [v] rfl hnews (by omega) (by unfold maxLen; omega) (by omega)
    have ho' := hnew ho
    exact ⟨v', w', fun ty => hr, ho'.1, ⟨hgr.os, hgr.tape, hgr.output, hgr.size, fun k hk _ => hgr.block k hk (by simp)⟩, .inr ho'.2⟩
 obtain ⟨v', w', hrun, ho, hgr, hor⟩ := key
 obtain ⟨ao, cap, hsl, hle⟩ : ∃ ao cap, sl = .slice ao n cap /\ n <= cap /\ cap <= maxLen := by
  rcases hown.2 with ⟨rfl, rfl⟩ | ⟨g, cap, cur, rfl, _, _, h1, h2, _⟩
  ·exact ⟨none, 0, rfl, Nat.le_refl _, Nat.zero_le _⟩
  ·exact ⟨_, _, rfl, h1, h2⟩
 obtain ⟨hle, hmax⟩ := hle
 unfold maxLen at hmax
 subst hsl
 have hnil : ao = none -> n = 0 /\ cap = 0 := fun e => by
  subst e
  rcases hown.2 with ⟨h, rfl⟩ | ⟨g, cap', cur, h, _⟩
  ·injection h with _ _ h3; exact ⟨rfl, h3⟩
  ·cases h
 clear hown hnews
 go_enter Tryz.func232, Tryz.ntmps232
 cases ao with
 | none =>
  obtain ⟨rfl, rfl⟩ := hnil rfl
  go_wp2_with (at_builtin; refine Lib.wpList_append_run _ rfl _ _ _ _ rfl _ _ rfl rfl _ _ (hrun _) ?_)
  all_goals (go_ret; exact ⟨_, rfl, ho, hgr, hor⟩)
 | some a =>
  go_wp2_with (at_builtin; refine Lib.wpList_append_run _ rfl _ _ _ _ rfl _ _ rfl rfl _ _ (hrun _) ?_)
  all_goals (go_ret; exact ⟨_, rfl, ho, hgr, hor⟩)
set_option maxRecDepth 100000 in
set_option maxHeartbeats 4000000 in
theorem qiq (g n c i vb : Nat) (cur : Array Value) (v : Value) (w : World) (hi : i < n) (hroom : n + 1 <= c) (hc : c <= maxLen) (hg : w.heap[g]? = some (.cells cur 95 (0, 0))) (hcs : cur.size = c)
  (hv1 : v.oneCell' = true) (h1 : ∀ u ∈ cur.toList.take n, u.oneCell' = true) (hvb : Blk w vb 95 #[v]) (hne : vb ≠ g) :
  Calls Tryz.prog 232 #[.slice (some ⟨g, 0, none⟩) n c, .int .i64 i, .slice (some ⟨vb, 0, none⟩) 1 1] w fun e w' =>
   e = .returned (.slice (some ⟨g, 0, none⟩) (n + 1) c) /\ (∃ R : Array Value, w'.heap[g]? = some (.cells R 95 (0, 0)) /\ R.size = c /\ R.toList.take (n + 1) = (cur.toList.take n).take i ++ v :: (cur.toList.take n).drop i) /\ Keep (fun b => b = g) w w' := by
 unfold maxLen at hc
 have hz2 : ¬ ((i : Int) = (n : Int)) := by omega
 have hsh : w.shape? vb = some (95, 1) := by unfold World.shape?; rw [show w.heap[vb]? = _ from hvb]; rfl
 have hshg : w.shape? g = some (95, c) := by unfold World.shape?; rw [hg]; simp [hcs]
 have hov : ∀ lb cb, (callFunc 241 #[.slice (some ⟨vb, 0, none⟩) 1 1, .slice (some ⟨g, i + 1, none⟩) lb cb]).run Tryz.prog w = .ok (.value (.bool false)) w := fun lb cb => by
  rw [run_callFunc_extern Tryz.func241 (by kernel_rfl) (by kernel_rfl) (by kernel_rfl) (e := Extern.SlicesOverlaps.overlaps #[98, 98] #[4]) (by kernel_rfl),
   Lib.run_overlaps_apart w 98 4 95 Tryz.underlying98 1 Tryz.sizeOf97 ⟨vb, 0, none⟩ ⟨g, i + 1, none⟩ 1 1 lb cb hne 95 95 1 c hsh hshg (by omega) (hvb.frozen 0) (hvb.frozen 1)]
  rfl
 have cell : ∀ j u, cur[j]? = some u -> w.cell? ⟨g, j, none⟩ = some u := fun j u h => by unfold World.cell?; simp only [hg]; simpa using h
 obtain ⟨cs, hcsd⟩ : ∃ cs, cs = (cur.toList.take n).drop i := ⟨_, rfl⟩
 have hcl : cs.length = n - i := by rw [hcsd]; simp; omega
 have hcp1 : ∀ ty dc sc, (Builtin.copy_ #[98, 98] ty #[.slice (some ⟨g, i + 1, none⟩) (n - i) dc, .slice (some ⟨g, i, none⟩) (n + 1 - i) sc]).run Tryz.prog w.drew = .ok (goInt cs.length) (w.drew.setRow g (cur.toList.take (i + 1) ++ cs ++ cur.toList.drop (i + 1 + cs.length)).toArray) := fun ty dc sc =>
  run_copy_row Tryz.prog w.drew 98 98 ty 95 g (i + 1) (n - i) dc ⟨g, i, none⟩ (n + 1 - i) sc cur 95 cs Tryz.underlying98 qhk hg (by rw [hcl]; simp only [Nat.min_def]; split <;> omega)
   (fun j u hj => by
    rw [Addr.add_lit]
    refine cell _ _ ?_
    rw [hcsd, List.getElem?_drop, List.getElem?_take] at hj
    split at hj
    ·simpa using hj
    ·cases hj) (by rw [hcl, hcs]; omega) (fun u hu => h1 u (by rw [hcsd] at hu; exact List.mem_of_mem_drop hu))
 obtain ⟨R1, hR1⟩ : ∃ R1, R1 = (cur.toList.take (i + 1) ++ cs ++ cur.toList.drop (i + 1 + cs.length)).toArray := ⟨_, rfl⟩
 rw [<- hR1] at hcp1
 have hR1s : R1.size = c := by rw [hR1]; simp [hcl, hcs]; omega
 have hg1 : (w.drew.setRow g R1).heap[g]? = some (.cells R1 95 (0, 0)) := setRow_heap w.drew g cur R1 95 (0, 0) hg
 have hvc : w.cell? ⟨vb, 0, none⟩ = some v := by have := hvb.cell 0; simpa using this
 have hcp2 : ∀ (W : World), W.heap[g]? = some (.cells R1 95 (0, 0)) -> W.cell? ⟨vb, 0, none⟩ = some v -> ∀ ty dc, (Builtin.copy_ #[98, 98] ty #[.slice (some ⟨g, i, none⟩) (n + 1 - i) dc, .slice (some ⟨vb, 0, none⟩) 1 1]).run Tryz.prog W = .ok (goInt 1) (W.setRow g (R1.toList.take i ++ [v] ++ R1.toList.drop (i + 1)).toArray) := fun W hWg hWv ty dc =>
  run_copy_row Tryz.prog W 98 98 ty 95 g i (n + 1 - i) dc ⟨vb, 0, none⟩ 1 1 R1 95 [v] Tryz.underlying98 qhk hWg (by simp only [Nat.min_def, List.length_singleton]; split <;> omega)
   (fun j u hj => by cases j with | zero => (simp at hj; subst hj; exact hWv) | succ j => simp at hj) (by rw [hR1s]; simp; omega) (by simp [hv1])
 have hE : ∀ j u, w.cell? ⟨vb, j, none⟩ = some u -> (w.drew.setRow g R1).cell? ⟨vb, j, none⟩ = some u := fun j u h => by rw [cell_setRow_other _ _ _ _ hne]; exact h
 have hw1 : IntKind.i64.wrap ((i : Int) + 1) = (i : Int) + 1 := by rw [IntKind.wrap_i64]; omega
 have hin : i <= n := by omega
 have htn : ((i : Int) + 1).toNat = i + 1 := by omega
 have hb1 : (0 : Int) <= (i : Int) + 1 := by omega
 have hb2 : ¬ (c = i + 1) := by omega
 have hb3 : (i : Int) <= (n : Int) + 1 := by omega
 have hb4 : ¬ (c = i) := by omega
 have HCS : Hid (cs = (cur.toList.take n).drop i) := hcsd
 have HR1 : Hid (R1 = (cur.toList.take (i + 1) ++ cs ++ cur.toList.drop (i + 1 + cs.length)).toArray) := hR1
 have HCL : Hid (cs.length = n - i) := hcl
 clear hcsd hR1 hcl
 go_enter Tryz.func232, Tryz.ntmps232
 go_wp2_with (simp only [hov])
 go_region_law (refine qg3 rfl _ _ 98 98 rfl _ _ (by simp [Act.eval, Act.put]) (by simp [Act.eval, Act.put]) (hcp1 _ _ _) ?_)
 go_wp2_with (at_builtin; refine qfm _ rfl _ _ 98 98 rfl _ _ rfl rfl (hcp2 _ hg1 (hE _ _ hvc) _ _) ?_)
 go_ret
 refine ⟨rfl, ⟨(R1.toList.take i ++ v :: R1.toList.drop (i + 1)).toArray, setRow_heap _ g R1 _ 95 (0, 0) hg1, by simp [hR1s]; omega, ?_⟩, ?_⟩
 ·have e1 : R1.toList = cur.toList.take (i + 1) ++ cs ++ cur.toList.drop (n + 1) := by rw [HR1.out, HCL.out, show i + 1 + (n - i) = n + 1 by omega]
  have e2 : R1.toList.take i = cur.toList.take i := by rw [e1, List.append_assoc, List.take_append_of_le_length (by simp; omega), List.take_take, Nat.min_eq_left (by omega)]
  have e3 : R1.toList.drop (i + 1) = cs ++ cur.toList.drop (n + 1) := by rw [e1, List.append_assoc, List.drop_append_of_le_length (by simp; omega), List.drop_of_length_le (by simp; omega)]; rfl
  have e4 : (cur.toList.take n).take i = cur.toList.take i := by rw [List.take_take, Nat.min_eq_left (by omega)]
  rw [List.toList_toArray, e2, e3, e4, <- HCS.out]
  have hlen : (cur.toList.take i).length = i := by simp; omega
  rw [show cur.toList.take i ++ v :: (cs ++ cur.toList.drop (n + 1)) = (cur.toList.take i ++ v :: cs) ++ cur.toList.drop (n + 1) by simp]
  rw [List.take_append_of_le_length (by simp [hlen, HCL.out]; omega), List.take_of_length_le (by simp [hlen, HCL.out]; omega)]
 ·exact ⟨rfl, rfl, rfl, by simp, fun k hk hn => by rw [setRow_other _ _ _ _ hn, setRow_other _ _ _ _ hn]; rfl⟩
set_option maxRecDepth 100000 in
set_option maxHeartbeats 4000000 in
theorem qku (g n c i vb : Nat) (cur : Array Value) (v : Value) (w : World) (hi : i < n) (hn1 : n <= 1000) (hnc : n <= c) (hroom : c < n + 1) (hg : w.heap[g]? = some (.cells cur 95 (0, 0))) (hcs : cur.size = c)
  (hv1 : v.oneCell' = true) (h1 : ∀ u ∈ cur.toList.take n, u.oneCell' = true) (hvb : Blk w vb 95 #[v]) :
  Calls Tryz.prog 232 #[.slice (some ⟨g, 0, none⟩) n c, .int .i64 i, .slice (some ⟨vb, 0, none⟩) 1 1] w fun e w' =>
   ∃ G, n + 1 <= G /\ G <= maxLen /\ e = .returned (.slice (some ⟨w.heap.size, 0, none⟩) (n + 1) G) /\ (∃ R : Array Value, w'.heap[w.heap.size]? = some (.cells R 95 (0, 0)) /\ R.size = G /\ R.toList.take (n + 1) = (cur.toList.take n).take i ++ v :: (cur.toList.take n).drop i) /\ Below w.heap.size w w' := by
 obtain ⟨i0, hi0, hz0, hzs, hzb⟩ := info_parts qn2
 obtain ⟨xs, hxs⟩ : ∃ xs, xs = cur.toList.take n := ⟨_, rfl⟩
 rw [<- hxs] at h1
 have hxl : xs.length = n := by rw [hxs]; simp; omega
 have hz2 : ¬ ((i : Int) = (n : Int)) := by omega
 have hz3 : (c : Int) < (n : Int) + 1 := by omega
 have hgw : g < w.heap.size := (Array.getElem?_eq_some_iff.1 hg).1
 have hvw : vb < w.heap.size := hvb.lt
 have cell : ∀ j u, xs[j]? = some u -> w.cell? ⟨g, j, none⟩ = some u := fun j u h => by
  unfold World.cell?; simp only [hg]
  rw [hxs, List.getElem?_take] at h
  split at h
  ·simpa using h
  ·cases h
 have hvc : w.cell? ⟨vb, 0, none⟩ = some v := by have := hvb.cell 0; simpa using this
 have hkk : (n : Int) + 1 - (i : Int) = ((n + 1 - i : Nat) : Int) := by omega
 have hik : i + (n + 1 - i) = n + 1 := by omega
 have hold : (Builtin.firstCells i0.size i (.slice (some ⟨g, 0, none⟩) i c)).run Tryz.prog w.drew = .ok (xs.take i).toArray w.drew := by
  rw [hzs]
  exact run_firstCells_some w.drew 1 i ⟨g, 0, none⟩ i c (xs.take i) (by rw [List.length_take]; omega) (fun j u hj => by
   rw [Addr.add_lit, Nat.zero_add]
   rw [List.getElem?_take] at hj
   split at hj
   ·exact cell j u hj
   ·cases hj)
 obtain ⟨G, hG⟩ : ∃ G, G = grownCap w (n + 1) c 95 := ⟨_, rfl⟩
 obtain ⟨ROW, hROW⟩ : ∃ ROW : Array Value, ROW = (xs.take i).toArray ++ Builtin.zeroCells (Value.pointer none).cells (n + 1 - i) ++ Builtin.zeroCells (Value.pointer none).cells (G - (n + 1)) := ⟨_, rfl⟩
 have hrz : ∀ ty, (Builtin.append_ #[98, 3] ty #[.slice (some ⟨g, 0, none⟩) i c, .int .i64 ((n : Int) + 1 - (i : Int))]).run Tryz.prog w =
   .ok (.slice (some ⟨w.heap.size, 0, none⟩) (n + 1) G) (w.drew.alloc (.cells ROW 95)) := fun ty => by
  have h := Lib.run_append_grow_zeros w 98 3 ty 95 i0 _ .i64 .i64 Tryz.underlying98 Tryz.underlying3 hi0 hz0 (some ⟨g, 0, none⟩) i c (xs.take i) hold (n + 1 - i) (by omega) (by omega) (by omega) (by omega) (by rw [hzb]; omega) (by rw [hzb, hik]; exact growslice_fits hroom (by omega))
  rw [hik, <- hG, <- hROW] at h
  rw [hkk]
  exact h
 have hGn : n + 1 <= G := by rw [hG]; exact grownCap_ge w _ _ _
 have hG63 : G <= maxLen := by rw [hG]; exact grownCap_le_maxLen w (n + 1) c 95 (by unfold maxLen; omega)
 have hRl : ROW.size = G := by
  rw [hROW]; simp [Builtin.zeroCells, Value.cells]; omega
 have hRt : ROW.toList.take i = xs.take i := by
  rw [hROW]
  simp only [Array.toList_append, List.append_assoc, List.toList_toArray]
  rw [List.take_append_of_le_length (by simp; omega), List.take_of_length_le (by simp; omega)]
 obtain ⟨W1, hW1⟩ : ∃ W1, W1 = w.drew.alloc (.cells ROW 95) := ⟨_, rfl⟩
 rw [<- hW1] at hrz
 have hsz1 : W1.heap.size = w.heap.size + 1 := by rw [hW1]; simp
 have hN : W1.heap[w.heap.size]? = some (.cells ROW 95 (0, 0)) := by rw [hW1]; exact heap_alloc_new w.drew _
 have hOld : ∀ k, k < w.heap.size -> W1.heap[k]? = w.heap[k]? := fun k hk => by rw [hW1]; exact Below.heap_alloc w.drew _ k hk
 have hbel1 : Below w.heap.size w W1 := by rw [hW1]; exact (Below.refl _ w).drew.alloc (Nat.le_refl _) _
 have hcp1 : ∀ (W : World), W.heap[w.heap.size]? = some (.cells ROW 95 (0, 0)) -> W.cell? ⟨vb, 0, none⟩ = some v -> ∀ ty dc, (Builtin.copy_ #[98, 98] ty #[.slice (some ⟨w.heap.size, i, none⟩) (n + 1 - i) dc, .slice (some ⟨vb, 0, none⟩) 1 1]).run Tryz.prog W = .ok (goInt 1) (W.setRow w.heap.size (ROW.toList.take i ++ [v] ++ ROW.toList.drop (i + 1)).toArray) := fun W hWg hWv ty dc =>
  run_copy_row Tryz.prog W 98 98 ty 95 w.heap.size i (n + 1 - i) dc ⟨vb, 0, none⟩ 1 1 ROW 95 [v] Tryz.underlying98 qhk hWg (by simp only [Nat.min_def, List.length_singleton]; split <;> omega)
   (fun j u hj => by cases j with | zero => (simp at hj; subst hj; exact hWv) | succ j => simp at hj) (by rw [hRl]; simp; omega) (by simp [hv1])
 obtain ⟨R2, hR2⟩ : ∃ R2, R2 = (ROW.toList.take i ++ [v] ++ ROW.toList.drop (i + 1)).toArray := ⟨_, rfl⟩
 rw [<- hR2] at hcp1
 have hR2s : R2.size = G := by rw [hR2]; simp [hRl]; omega
 obtain ⟨W2, hW2⟩ : ∃ W2, W2 = W1.setRow w.heap.size R2 := ⟨_, rfl⟩
 obtain ⟨cs, hcsd⟩ : ∃ cs, cs = xs.drop i := ⟨_, rfl⟩
 have hcl : cs.length = n - i := by rw [hcsd]; simp; omega
 have hcp2 : ∀ (W : World), W.heap[w.heap.size]? = some (.cells R2 95 (0, 0)) -> (∀ j, W.cell? ⟨g, j, none⟩ = w.cell? ⟨g, j, none⟩) -> ∀ ty dc sc, (Builtin.copy_ #[98, 98] ty #[.slice (some ⟨w.heap.size, i + 1, none⟩) (n - i) dc, .slice (some ⟨g, i, none⟩) (n - i) sc]).run Tryz.prog W = .ok (goInt cs.length) (W.setRow w.heap.size (R2.toList.take (i + 1) ++ cs ++ R2.toList.drop (i + 1 + cs.length)).toArray) := fun W hWg hWc ty dc sc =>
  run_copy_row Tryz.prog W 98 98 ty 95 w.heap.size (i + 1) (n - i) dc ⟨g, i, none⟩ (n - i) sc R2 95 cs Tryz.underlying98 qhk hWg (by rw [hcl]; simp)
   (fun j u hj => by
    rw [Addr.add_lit, hWc]
    rw [hcsd, List.getElem?_drop] at hj
    exact cell _ _ hj) (by rw [hcl, hR2s]; omega) (fun u hu => h1 u (by rw [hcsd] at hu; exact List.mem_of_mem_drop hu))
 obtain ⟨R3, hR3⟩ : ∃ R3, R3 = (R2.toList.take (i + 1) ++ cs ++ R2.toList.drop (i + 1 + cs.length)).toArray := ⟨_, rfl⟩
 rw [<- hR3] at hcp2
 have hg2 : (W1.setRow w.heap.size R2).heap[w.heap.size]? = some (.cells R2 95 (0, 0)) := setRow_heap W1 _ ROW R2 95 (0, 0) hN
 have hcg : ∀ j, W1.cell? ⟨g, j, none⟩ = w.cell? ⟨g, j, none⟩ := fun j => World.cell?_of_block (hOld g hgw)
 have hcg2 : ∀ j, (W1.setRow w.heap.size R2).cell? ⟨g, j, none⟩ = w.cell? ⟨g, j, none⟩ := fun j => by rw [cell_setRow_other _ _ _ _ (by simp; omega)]; exact hcg j
 have hcv : W1.cell? ⟨vb, 0, none⟩ = some v := (World.cell?_of_block (hOld vb hvw)).trans hvc
 have hfin : R3.size = G /\ R3.toList.take (n + 1) = xs.take i ++ v :: xs.drop i := by
  refine ⟨by rw [hR3]; simp [hcl, hR2s]; omega, ?_⟩
  have hil : (xs.take i).length = i := by simp; omega
  have e1 : R2.toList = xs.take i ++ v :: ROW.toList.drop (i + 1) := by rw [hR2, hRt]; simp
  have e2 : R2.toList.take (i + 1) = xs.take i ++ [v] := by
   rw [e1, List.take_append, hil, show i + 1 - i = 1 by omega, List.take_of_length_le (by omega)]; simp
  rw [hR3, List.toList_toArray, e2, hcsd]
  rw [show xs.take i ++ [v] ++ xs.drop i = xs.take i ++ v :: xs.drop i by simp]
  rw [List.take_append_of_le_length (by simp; omega), List.take_of_length_le (by simp; omega)]
 have hmax := hG63
 unfold maxLen at hmax
 have hGi : ¬ (G = i) := by omega
 have hGim : ¬ (G = i + 1) := by omega
 have hci : ¬ (c = i) := by omega
 have hw1 : IntKind.i64.wrap ((i : Int) + 1) = (i : Int) + 1 := by rw [IntKind.wrap_i64]; omega
 have hb1 : (0 : Int) <= (i : Int) + 1 := by omega
 have hin : i <= n := by omega
 have htn : ((i : Int) + 1).toNat = i + 1 := by omega
 have hb3 : (i : Int) <= (n : Int) := by omega
 have HXS : Hid (xs = cur.toList.take n) := hxs
 have HW1 : Hid (W1 = w.drew.alloc (.cells ROW 95)) := hW1
 have HFIN : Hid (R3.size = G /\ R3.toList.take (n + 1) = xs.take i ++ v :: xs.drop i) := hfin
 have HOLD : Hid (∀ k, k < w.heap.size -> W1.heap[k]? = w.heap[k]?) := hOld
 have hcpA := hcp1 W1 hN hcv
 have hcpB := hcp2 (W1.setRow w.heap.size R2).drew hg2 hcg2
 clear hkk hik hold hROW hG hRl hRt hR2 hR3 hW2 hcsd hcl hxs hxl hR2s hW1 hfin hcg hOld h1 cell
 go_enter Tryz.func232, Tryz.ntmps232
 go_wp2_with (at_builtin; refine Lib.wpList_append_run _ rfl _ _ _ _ rfl _ _ rfl rfl _ _ (hrz _) ?_)
 go_region
 go_wp2
 go_ret
 refine ⟨G, hGn, hG63, rfl, ⟨R3, setRow_heap (W1.setRow w.heap.size R2).drew _ R2 _ 95 (0, 0) hg2, HFIN.out.1, by rw [<- HXS.out]; exact HFIN.out.2⟩, ?_⟩
 refine hbel1.trans ⟨rfl, rfl, rfl, by simp, fun k hk => ?_⟩
 rw [setRow_other _ _ _ _ (by omega)]
 exact setRow_other _ _ _ _ (by omega)
theorem ql3 (sl : Value) (n i vb : Nat) (xs : List Value) (v : Value) (w : World) (hn : n <= 1000) (hi : i <= n) (hv1 : v.oneCell' = true) (h1 : ∀ u ∈ xs, u.oneCell' = true) (hown : w.ownsRow 0 95 1 sl n xs) (hvb : Blk w vb 95 #[v]) (hne : sl.ownBlock ≠ some vb) :
  Calls Tryz.prog 232 #[sl, .int .i64 i, .slice (some ⟨vb, 0, none⟩) 1 1] w fun e w' =>
   ∃ sl', e = .returned sl' /\ w'.ownsRow 0 95 1 sl' (n + 1) (xs.take i ++ v :: xs.drop i) /\ Keep (fun b => sl.ownBlock = some b) w w' /\ (sl'.ownBlock = sl.ownBlock \/ ∃ g, sl'.ownBlock = some g /\ w.heap.size <= g) := by
 have hxl : xs.length = n := by have := hown.1; omega
 rcases Nat.lt_or_ge i n with hlt | hge
 ·rcases hown.2 with ⟨rfl, rfl⟩ | ⟨g, cap, cur, rfl, _, hg, hnc, hcm, hcs, ht⟩
  ·omega
  ·simp only [Nat.mul_one] at hcs ht
   have h1' : ∀ u ∈ cur.toList.take n, u.oneCell' = true := by rw [ht]; exact h1
   by_cases hroom : n + 1 <= cap
   ·refine (qiq g n cap i vb cur v w hlt hroom hcm hg hcs hv1 h1' hvb (fun e => hne (by rw [e]; rfl))).mono ?_
    rintro e w' ⟨rfl, ⟨R, hR, hRs, hRt⟩, hk⟩
    refine ⟨_, rfl, ⟨by simp; omega, .inr ⟨g, cap, R, rfl, Nat.zero_le _, hR, hroom, hcm, by omega, by rw [Nat.mul_one, hRt, ht]⟩⟩, hk.mono (fun b hb => by rw [hb]; rfl), .inl rfl⟩
   ·refine (qku g n cap i vb cur v w hlt hn hnc (by omega) hg hcs hv1 h1' hvb).mono ?_
    rintro e w' ⟨G, hG1, hG2, rfl, ⟨R, hR, hRs, hRt⟩, hb⟩
    refine ⟨_, rfl, ⟨by simp; omega, .inr ⟨w.heap.size, G, R, rfl, Nat.zero_le _, hR, hG1, hG2, by omega, by rw [Nat.mul_one, hRt, ht]⟩⟩, Keep.new hb, .inr ⟨w.heap.size, rfl, Nat.le_refl _⟩⟩
 ·obtain rfl : i = n := by omega
  refine (qk6 sl i vb xs v w hn hv1 hown hvb).mono ?_
  rintro e w' ⟨sl', rfl, hown', hgr, hor⟩
  refine ⟨sl', rfl, ?_, (Keep.refl _ _).grown hgr (fun k h => h), hor⟩
  rw [List.take_of_length_le (by omega), List.drop_of_length_le (by omega)]; exact hown'
theorem qeb {α : Type} {l : List α} {i : Nat} {x : α} (hi : l[i]? = some x) : l = l.take i ++ x :: l.drop (i + 1) := by
 obtain ⟨hl, rfl⟩ := List.getElem?_eq_some_iff.1 hi
 simp
structure BkAt (W : World) (bt : Nat) (r lst vw va : Value) (ws as_ : List Pw) : Prop where
 at_ : Blk W bt 102 #[r, lst, vw, va]
 wrow : W.ownsRow 0 95 1 vw ws.length (qay ws)
 arow : W.ownsRow 0 95 1 va as_.length (qay as_)
 works : ∀ p ∈ ws ++ as_, Blk W p.blk 105 p.cells
 sep : ∀ b, vw.ownBlock = some b -> va.ownBlock ≠ some b
 nd : (ws ++ as_).Nodup
 inj : ∀ a ∈ ws ++ as_, ∀ b ∈ ws ++ as_, a.blk = b.blk -> a = b
 len : ws.length + as_.length <= 24
def BkT (bt : Nat) (vw va : Value) (y : Nat) : Prop := y = bt \/ vw.ownBlock = some y \/ va.ownBlock = some y
theorem qbb {α : Type} {l : List α} {i : Nat} {x : α} (h : x ∈ l.take i ++ l.drop (i + 1)) : x ∈ l := by
 rcases List.mem_append.1 h with h1 | h1
 ·exact List.mem_of_mem_take h1
 ·exact List.mem_of_mem_drop h1
theorem qb0 {α : Type} {l : List α} {i : Nat} {x : α} (hi : l[i]? = some x) : l.Perm (x :: (l.take i ++ l.drop (i + 1))) := by
 have h := qeb hi
 conv => lhs; rw [h]
 exact List.perm_middle
theorem qbe {W : World} {e : TypeId} {size n : Nat} {v : Value} {xs : List Value} (h : W.ownsRow 0 e size v n xs) : ∃ a cap, v = .slice a n cap /\ n <= cap /\ cap <= maxLen := by
 rcases h.2 with ⟨rfl, h0⟩ | ⟨g, cap, cur, rfl, _, _, h1, h2, _⟩
 ·exact ⟨none, 0, by rw [h0], by omega, Nat.zero_le _⟩
 ·exact ⟨_, cap, rfl, h1, h2⟩
theorem qsi {W : World} {bt : Nat} {r lst vw va : Value} {as_ : List Pw} {p : Pw} (hat : Blk W bt 102 #[r, lst, vw, va]) (har : W.ownsRow 0 95 1 va as_.length (qay as_)) (hl : as_.length <= 100) :
  ∃ v' w', (∀ ty, (Builtin.append_ #[98, 98] ty #[va, .slice (some ⟨W.heap.size, 0, none⟩) 1 1]).run Tryz.prog (W.alloc (.cells #[nptr p.blk] 95)) = .ok v' w') /\ ∃ g cap, v' = .slice (some ⟨g, 0, none⟩) (as_.length + 1) cap /\ as_.length + 1 <= cap /\ cap <= maxLen /\ w'.ownsRow 0 95 1 v' (as_.length + 1) (qay (as_ ++ [p])) /\ Blk w' bt 102 #[r, lst, vw, va] /\ Keep (fun b => va.ownBlock = some b) W w' /\ (va.ownBlock = some g \/ W.heap.size <= g) := by
 have hB0 : Below W.heap.size W (W.alloc (.cells #[nptr p.blk] 95)) := by exact bel2
 have hna : va.ownBlock ≠ some bt := qag har hat (by decide)
 have hK0 : Keep (fun b => va.ownBlock = some b) W (W.alloc (.cells #[nptr p.blk] 95)) := Keep.new hB0
 obtain ⟨v', w', hr, g, cap, rfl, R⟩ := qby un94 qvc (by omega) (W.alloc (.cells #[nptr p.blk] 95)) va as_.length (qay as_) (qab (T := fun _ => False) har (Keep.new hB0) (fun _ _ e => e)) W.heap.size 1 1 (by omega) [nptr p.blk] rfl (Blk.new W 95 _) (fun u hu => by simp at hu; subst hu; rfl) (by unfold maxLen; omega) (by omega)
 have hp : qay (as_ ++ [p]) = qay as_ ++ [nptr p.blk] := by simp [qay]
 refine ⟨_, w', hr, g, cap, rfl, R.le, R.mx, by rw [hp]; exact R.own, (hat.below hB0 hat.lt).keep R.keep hna, hK0.qbo R.keep (fun b _ e => e), R.new.imp id (fun e => by simp at e; omega)⟩
set_option maxRecDepth 100000 in
set_option maxHeartbeats 2000000 in
theorem qoo {w : World} {bt : Nat} {r lst vw va : Value} {ws as_ : List Pw} (h : BkAt w bt r lst vw va ws as_) {i : Nat} {p : Pw} (hi : ws[i]? = some p) :
  Calls Tryz.prog 213 #[.pointer (some ⟨bt, 1, none⟩), nptr p.blk] w fun e w' => e = .returned (.tuple #[]) /\ ∃ vw' va', BkAt w' bt r lst vw' va' (ws.take i ++ ws.drop (i + 1)) (as_ ++ [p]) /\ Keep (BkT bt vw va) w w' /\ (∀ b, vw'.ownBlock = some b \/ va'.ownBlock = some b -> vw.ownBlock = some b \/ va.ownBlock = some b \/ w.heap.size <= b) := by
 have hpm := List.mem_of_getElem? hi
 have hpB := h.works p (List.mem_append_left _ hpm)
 have hlt := h.at_.lt
 have hlen := h.len
 have hwsl : ws.length <= 100 := by omega
 have hwo := qb7 ⟨h.wrow, fun q hq => h.works q (List.mem_append_left _ hq)⟩ hwsl hpB (fun a ha e => h.inj a (List.mem_append_left _ ha) p (List.mem_append_left _ hpm) e) (List.nodup_append.1 h.nd).1
 have hnbw : vw.ownBlock ≠ some bt := qag h.wrow h.at_ (by decide)
 have hnba : va.ownBlock ≠ some bt := qag h.arow h.at_ (by decide)
 have c2 := h.at_.cell 2
 simp only [List.getElem?_toArray, List.getElem?_cons_zero, List.getElem?_cons_succ] at c2
 unfold nptr at hwo ⊢
 go_enter Tryz.func213, Tryz.ntmps213
 go_wp2_with fail
 refine hwo.mono ?_
 rintro e w1 (⟨hno, rfl, hB⟩ | ⟨i', v1, hi', rfl, hW1, hK1, hown1⟩)
 ·exact absurd hpm hno
 ·have hii : i' = i := (List.getElem?_inj (List.getElem?_eq_some_iff.1 hi').1 (List.nodup_append.1 h.nd).1).1 (hi'.trans hi.symm)
  subst hii
  have hat1 := h.at_.keep hK1 hnbw
  have f2 := hat1.frozen 2
  have k2 := hat1.cell 2
  have k3 := hat1.cell 3
  simp only [List.getElem?_toArray, List.getElem?_cons_zero, List.getElem?_cons_succ] at k2 k3
  have hat2 : Blk (w1.setCell ⟨bt, 2, none⟩ v1) bt 102 #[r, lst, v1, va] := by have := hat1.set 2 v1; simpa using this
  have har2 : (w1.setCell ⟨bt, 2, none⟩ v1).ownsRow 0 95 1 va as_.length (qay as_) := ownsRow_setCell_other (qab h.arow hK1 (fun g hg e => h.sep g e hg)) (fun e => hnba e) _
  have hwr2 : (w1.setCell ⟨bt, 2, none⟩ v1).ownsRow 0 95 1 v1 (ws.take i' ++ ws.drop (i' + 1)).length (qay (ws.take i' ++ ws.drop (i' + 1))) := ownsRow_setCell_other hW1.row (fun e => hnbw (by rw [<- hown1]; exact e)) _
  have hwk2 : ∀ q ∈ ws ++ as_, Blk (w1.setCell ⟨bt, 2, none⟩ v1) q.blk 105 q.cells := fun q hq => ((h.works q hq).keep hK1 (qag h.wrow (h.works q hq) (by decide))).other _ _ (fun e => by
   have h1 := h.works q hq
   rw [show q.blk = bt from e] at h1
   have := h1.symm.trans h.at_
   injection this with this
   injection this with _ h2 _
   exact absurd h2 (by decide))
  have hK2 : Keep (BkT bt vw va) w (w1.setCell ⟨bt, 2, none⟩ v1) := (hK1.mono (fun y e => .inr (.inl e))).setCell (p := ⟨bt, 2, none⟩) (.inl rfl) _
  have hap := qsi (p := p) hat2 har2 (by omega)
  obtain ⟨a1, c1, hv1, hc1, hm1⟩ := qbe hwr2
  rw [show (w1.setCell ⟨bt, 2, none⟩ v1).heap.size = w1.heap.size by simp] at hap
  have hpost : ∀ g' cap' w', w'.ownsRow 0 95 1 (.slice (some ⟨g', 0, none⟩) (as_.length + 1) cap') (as_.length + 1) (qay (as_ ++ [p])) -> Blk w' bt 102 #[r, lst, v1, va] -> Keep (fun b => va.ownBlock = some b) (w1.setCell ⟨bt, 2, none⟩ v1) w' -> (va.ownBlock = some g' \/ w1.heap.size <= g') -> ∃ vw' va', BkAt (w'.setCell ⟨bt, 3, none⟩ (.slice (some ⟨g', 0, none⟩) (as_.length + 1) cap')) bt r lst vw' va' (ws.take i' ++ ws.drop (i' + 1)) (as_ ++ [p]) /\ Keep (BkT bt vw va) w (w'.setCell ⟨bt, 3, none⟩ (.slice (some ⟨g', 0, none⟩) (as_.length + 1) cap')) /\ (∀ b, vw'.ownBlock = some b \/ va'.ownBlock = some b -> vw.ownBlock = some b \/ va.ownBlock = some b \/ w.heap.size <= b) := by
   intro g' cap' w' hrow hb' hK' hn'
   have hperm : ((ws.take i' ++ ws.drop (i' + 1)) ++ (as_ ++ [p])).Perm (ws ++ as_) := by
    have h1 := (qb0 hi).append_right as_
    refine List.Perm.trans ?_ h1.symm
    rw [<- List.append_assoc]
    exact List.perm_append_comm
   have hmem : ∀ q, q ∈ (ws.take i' ++ ws.drop (i' + 1)) ++ (as_ ++ [p]) -> q ∈ ws ++ as_ := fun q hq => hperm.mem_iff.1 hq
   have hg' : g' ≠ bt := fun e => by
    rcases hn' with e2 | e2
    ·rw [e] at e2; exact hnba e2
    ·have := hat1.lt; omega
   have hv1b : v1.ownBlock ≠ some bt := by rw [hown1]; exact hnbw
   have hz : (w1.setCell ⟨bt, 2, none⟩ v1).heap.size = w1.heap.size := by simp
   refine ⟨v1, .slice (some ⟨g', 0, none⟩) (as_.length + 1) cap', ⟨?_, ?_, ?_, ?_, ?_, ?_, ?_, ?_⟩, ?_, ?_⟩
   ·have := hb'.set 3 (.slice (some ⟨g', 0, none⟩) (as_.length + 1) cap')
    simpa using this
   ·exact ownsRow_setCell_other (qab hwr2 hK' (fun g hg e => h.sep g (by rw [<- hown1]; exact hg) e)) (fun e => hv1b e) _
   ·rw [show (as_ ++ [p]).length = as_.length + 1 by simp]
    exact ownsRow_setCell_other hrow (by simp [Value.ownBlock]; exact hg') _
   ·intro q hq
    have h1 := hwk2 q (hmem q hq)
    exact (h1.keep hK' (qag har2 h1 (by decide))).other _ _ (fun e => by
     have h2 := hwk2 q (hmem q hq)
     rw [show q.blk = bt from e] at h2
     have := h2.symm.trans hat2
     injection this with this
     injection this with _ h3 _
     exact absurd h3 (by decide))
   ·intro b hb1 e
    simp [Value.ownBlock] at e
    subst e
    rcases hn' with e2 | e2
    ·exact h.sep _ (by rw [<- hown1]; exact hb1) e2
    ·have := qal hwr2 hb1; omega
   ·exact hperm.nodup_iff.2 h.nd
   ·exact fun a ha b hb e => h.inj a (hmem a ha) b (hmem b hb) e
   ·have := hperm.length_eq
    simp only [List.length_append] at this ⊢
    omega
   ·exact ((hK2.qbo hK' (fun b _ e => .inr (.inr e)))).setCell (p := ⟨bt, 3, none⟩) (.inl rfl) _
   ·rintro b (e | e)
    ·left; rw [<- hown1]; exact e
    ·simp [Value.ownBlock] at e
     subst e
     rcases hn' with e2 | e2
     ·exact .inr (.inl e2)
     ·exact .inr (.inr (Nat.le_trans hK1.size e2))
  clear h hW1 hwr2 hwk2 hK2
  generalize as_.length = na at hap hpost
  generalize qay (as_ ++ [p]) = pp at hap hpost
  have hvF : ∃ n1, v1 = .slice a1 n1 c1 := ⟨_, hv1⟩
  clear hv1 hc1 hm1
  obtain ⟨n1, rfl⟩ := hvF
  clear hwo
  unfold nptr at hap
  go_wp2_with (at_builtin; refine qah (by rfl) _ _ _ _ rfl _ _ rfl (by rfl) hap ?_; rintro v2 w2 ⟨g2, q2, rfl, hl2, hm2, R2, hb2, hk2, hn2⟩; have f3 := hb2.frozen 3; have hcc := hb2.cell 3; simp only [List.getElem?_toArray, List.getElem?_cons_zero, List.getElem?_cons_succ] at hcc)
  go_end0
  exact ⟨rfl, hpost _ _ _ R2 hb2 hk2 hn2⟩
theorem qs6 {W : World} {bt : Nat} {r lst vw va : Value} {ws : List Pw} {p : Pw} (hat : Blk W bt 102 #[r, lst, vw, va]) (hwr : W.ownsRow 0 95 1 vw ws.length (qay ws)) (hl : ws.length <= 100) :
  Calls Tryz.prog 232 #[vw, .int .i64 0, .slice (some ⟨W.heap.size, 0, none⟩) 1 1] (W.alloc (.cells #[nptr p.blk] 95)) fun e w' => ∃ a n cap, e = .returned (.slice a n cap) /\ n = ws.length + 1 /\ w'.ownsRow 0 95 1 (.slice a n cap) n (qay (p :: ws)) /\ Blk w' bt 102 #[r, lst, vw, va] /\ Keep (fun b => vw.ownBlock = some b) W w' /\ (∀ b, (Value.slice a n cap).ownBlock = some b -> vw.ownBlock = some b \/ W.heap.size <= b) := by
 have hB0 : Below W.heap.size W (W.alloc (.cells #[nptr p.blk] 95)) := by exact bel2
 have hna : vw.ownBlock ≠ some bt := qag hwr hat (by decide)
 have hK0 : Keep (fun b => vw.ownBlock = some b) W (W.alloc (.cells #[nptr p.blk] 95)) := Keep.new hB0
 have hlt : vw.ownBlock ≠ some W.heap.size := fun e => by have := qal hwr e; omega
 have h := ql3 vw ws.length 0 W.heap.size (qay ws) (nptr p.blk) (W.alloc (.cells #[nptr p.blk] 95)) (by omega) (Nat.zero_le _) rfl (fun u hu => by unfold qay at hu; obtain ⟨q, _, rfl⟩ := List.mem_map.1 hu; rfl) (qab (T := fun _ => False) hwr (Keep.new hB0) (fun _ _ e => e)) (Blk.new W 95 _) hlt
 refine h.mono ?_
 rintro e w' ⟨sl', rfl, hr, hK, hn⟩
 obtain ⟨a, cap, rfl, h1, h2⟩ := qbe hr
 refine ⟨a, _, cap, rfl, rfl, by simpa [qay] using hr, (hat.below hB0 hat.lt).keep hK hna, hK0.qbo hK (fun b _ e => e), fun b hb => ?_⟩
 rcases hn with e | ⟨g, e, e2⟩
 ·left; rw [<- e]; exact hb
 ·rw [hb] at e; injection e with e; subst e; simp at e2; right; omega
set_option maxRecDepth 100000 in
set_option maxHeartbeats 2000000 in
theorem qor {w : World} {bt : Nat} {r lst vw va : Value} {ws as_ : List Pw} (h : BkAt w bt r lst vw va ws as_) {i : Nat} {p : Pw} (hi : as_[i]? = some p) :
  Calls Tryz.prog 211 #[.pointer (some ⟨bt, 1, none⟩), nptr p.blk] w fun e w' => e = .returned (.tuple #[]) /\ ∃ vw' va', BkAt w' bt r lst vw' va' (p :: ws) (as_.take i ++ as_.drop (i + 1)) /\ Keep (BkT bt vw va) w w' /\ (∀ b, vw'.ownBlock = some b \/ va'.ownBlock = some b -> vw.ownBlock = some b \/ va.ownBlock = some b \/ w.heap.size <= b) := by
 have hpm := List.mem_of_getElem? hi
 have hpB := h.works p (List.mem_append_right _ hpm)
 have hlt := h.at_.lt
 have hlen := h.len
 have hasl : as_.length <= 100 := by omega
 have hwo := qb7 ⟨h.arow, fun q hq => h.works q (List.mem_append_right _ hq)⟩ hasl hpB (fun a ha e => h.inj a (List.mem_append_right _ ha) p (List.mem_append_right _ hpm) e) (List.nodup_append.1 h.nd).2.1
 have hnbw : vw.ownBlock ≠ some bt := qag h.wrow h.at_ (by decide)
 have hnba : va.ownBlock ≠ some bt := qag h.arow h.at_ (by decide)
 have c3 := h.at_.cell 3
 simp only [List.getElem?_toArray, List.getElem?_cons_zero, List.getElem?_cons_succ] at c3
 unfold nptr at hwo ⊢
 go_enter Tryz.func211, Tryz.ntmps211
 go_wp2_with fail
 refine hwo.mono ?_
 rintro e w1 (⟨hno, rfl, hB⟩ | ⟨i', v1, hi', rfl, hW1, hK1, hown1⟩)
 ·exact absurd hpm hno
 ·have hii : i' = i := (List.getElem?_inj (List.getElem?_eq_some_iff.1 hi').1 (List.nodup_append.1 h.nd).2.1).1 (hi'.trans hi.symm)
  subst hii
  have hat1 := h.at_.keep hK1 hnba
  have f3 := hat1.frozen 3
  have k2 := hat1.cell 2
  have k3 := hat1.cell 3
  simp only [List.getElem?_toArray, List.getElem?_cons_zero, List.getElem?_cons_succ] at k2 k3
  have hat2 : Blk (w1.setCell ⟨bt, 3, none⟩ v1) bt 102 #[r, lst, vw, v1] := by have := hat1.set 3 v1; simpa using this
  have hwr2 : (w1.setCell ⟨bt, 3, none⟩ v1).ownsRow 0 95 1 vw ws.length (qay ws) := ownsRow_setCell_other (qab h.wrow hK1 (fun g hg e => h.sep g hg e)) (fun e => hnbw e) _
  have har2 : (w1.setCell ⟨bt, 3, none⟩ v1).ownsRow 0 95 1 v1 (as_.take i' ++ as_.drop (i' + 1)).length (qay (as_.take i' ++ as_.drop (i' + 1))) := ownsRow_setCell_other hW1.row (fun e => hnba (by rw [<- hown1]; exact e)) _
  have hwk2 : ∀ q ∈ ws ++ as_, Blk (w1.setCell ⟨bt, 3, none⟩ v1) q.blk 105 q.cells := fun q hq => ((h.works q hq).keep hK1 (qag h.arow (h.works q hq) (by decide))).other _ _ (fun e => by
   have h1 := h.works q hq
   rw [show q.blk = bt from e] at h1
   have := h1.symm.trans h.at_
   injection this with this
   injection this with _ h2 _
   exact absurd h2 (by decide))
  have hK2 : Keep (BkT bt vw va) w (w1.setCell ⟨bt, 3, none⟩ v1) := (hK1.mono (fun y e => .inr (.inr e))).setCell (p := ⟨bt, 3, none⟩) (.inl rfl) _
  have hap := qs6 (p := p) hat2 hwr2 (by omega)
  obtain ⟨a1, c1, hv1, hc1, hm1⟩ := qbe har2
  rw [show (w1.setCell ⟨bt, 3, none⟩ v1).heap.size = w1.heap.size by simp] at hap
  have hpost : ∀ a n cap w', n = ws.length + 1 -> w'.ownsRow 0 95 1 (.slice a n cap) n (qay (p :: ws)) -> Blk w' bt 102 #[r, lst, vw, v1] -> Keep (fun b => vw.ownBlock = some b) (w1.setCell ⟨bt, 3, none⟩ v1) w' -> (∀ b, (Value.slice a n cap).ownBlock = some b -> vw.ownBlock = some b \/ w1.heap.size <= b) -> ∃ vw' va', BkAt (w'.setCell ⟨bt, 2, none⟩ (.slice a n cap)) bt r lst vw' va' (p :: ws) (as_.take i' ++ as_.drop (i' + 1)) /\ Keep (BkT bt vw va) w (w'.setCell ⟨bt, 2, none⟩ (.slice a n cap)) /\ (∀ b, vw'.ownBlock = some b \/ va'.ownBlock = some b -> vw.ownBlock = some b \/ va.ownBlock = some b \/ w.heap.size <= b) := by
   intro a n cap w' hn0 hrow hb' hK' hn'
   subst hn0
   have hperm : ((p :: ws) ++ (as_.take i' ++ as_.drop (i' + 1))).Perm (ws ++ as_) := by
    have h1 := (qb0 hi).append_left ws
    refine List.Perm.trans ?_ h1.symm
    exact (List.perm_middle (a := p) (l₁ := ws)).symm
   have hmem : ∀ q, q ∈ (p :: ws) ++ (as_.take i' ++ as_.drop (i' + 1)) -> q ∈ ws ++ as_ := fun q hq => hperm.mem_iff.1 hq
   have hg' : (Value.slice a (ws.length + 1) cap).ownBlock ≠ some bt := fun e => by
    rcases hn' _ e with e2 | e2
    ·exact hnbw e2
    ·have := hat1.lt; omega
   have hv1b : v1.ownBlock ≠ some bt := by rw [hown1]; exact hnba
   have hz : (w1.setCell ⟨bt, 3, none⟩ v1).heap.size = w1.heap.size := by simp
   refine ⟨.slice a (ws.length + 1) cap, v1, ⟨?_, ?_, ?_, ?_, ?_, ?_, ?_, ?_⟩, ?_, ?_⟩
   ·have := hb'.set 2 (.slice a (ws.length + 1) cap)
    simpa using this
   ·exact ownsRow_setCell_other hrow hg' _
   ·exact ownsRow_setCell_other (qab har2 hK' (fun g hg e => h.sep g e (by rw [<- hown1]; exact hg))) (fun e => hv1b e) _
   ·intro q hq
    have h1 := hwk2 q (hmem q hq)
    exact (h1.keep hK' (qag hwr2 h1 (by decide))).other _ _ (fun e => by
     have h2 := hwk2 q (hmem q hq)
     rw [show q.blk = bt from e] at h2
     have := h2.symm.trans hat2
     injection this with this
     injection this with _ h3 _
     exact absurd h3 (by decide))
   ·intro b hb1 e
    rcases hn' _ hb1 with e2 | e2
    ·exact h.sep _ e2 (by rw [<- hown1]; exact e)
    ·have := qal har2 e; omega
   ·exact hperm.nodup_iff.2 h.nd
   ·exact fun a ha b hb e => h.inj a (hmem a ha) b (hmem b hb) e
   ·have := hperm.length_eq
    simp only [List.length_append] at this ⊢
    omega
   ·exact ((hK2.qbo hK' (fun b _ e => .inr (.inl e)))).setCell (p := ⟨bt, 2, none⟩) (.inl rfl) _
   ·rintro b (e | e)
    ·rcases hn' _ e with e2 | e2
     ·exact .inl e2
     ·exact .inr (.inr (Nat.le_trans hK1.size e2))
    ·exact .inr (.inl (by rw [<- hown1]; exact e))
  clear h hW1 har2 hwk2 hK2
  generalize qay (p :: ws) = pp at hap hpost
  have hvF : ∃ n1, v1 = .slice a1 n1 c1 := ⟨_, hv1⟩
  clear hv1 hc1 hm1
  obtain ⟨n1, rfl⟩ := hvF
  clear hwo
  unfold nptr at hap
  go_wp2_with fail
  refine hap.mono ?_
  rintro e w2 ⟨a2, n2, q2, rfl, hn2, R2, hb2, hk2, ho2⟩
  have f2 := hb2.frozen 2
  have hcc := hb2.cell 2
  simp only [List.getElem?_toArray, List.getElem?_cons_zero, List.getElem?_cons_succ] at hcc
  have hp := hpost _ _ _ _ hn2 R2 hb2 hk2 ho2
  clear hpost hn2
  go_wp2_with fail
  go_end0
  exact ⟨rfl, hp⟩
def qc3 (l : List Pw) (num : Int) : Option Pw := l.find? fun p => p.x.num == num
def optP : Option Pw -> Value
 | none => .pointer none
 | some p => nptr p.blk
theorem qt4 {l : List Pw} {num : Int} {k : Nat} {q : Pw} (hk : l[k]? = some q) (hq : (q.x.num == num) = true) (hno : ∀ j y, j < k -> l[j]? = some y -> (y.x.num == num) = false) : qc3 l num = some q := by
 unfold qc3
 rw [List.find?_eq_some_iff_getElem]
 obtain ⟨hlt, he⟩ := List.getElem?_eq_some_iff.1 hk
 refine ⟨hq, k, hlt, he, fun j hj => ?_⟩
 simpa using hno j _ hj (List.getElem?_eq_getElem (by omega))
theorem qpg {l : List Pw} {num : Int} (hno : ∀ j y, j < l.length -> l[j]? = some y -> (y.x.num == num) = false) : qc3 l num = none := by
 unfold qc3
 rw [List.find?_eq_none]
 intro y hy
 obtain ⟨j, hj⟩ := List.getElem?_of_mem hy
 have := hno j y (List.getElem?_eq_some_iff.1 hj).1 hj
 simpa using this
set_option maxRecDepth 100000 in
set_option maxHeartbeats 1000000 in
theorem qjq {w : World} {v : Value} {l : List Pw} (h : WRow w v l) (hl : l.length <= 100) (num : Int) :
  Calls Tryz.prog 77 #[v, .int .i64 num] w fun e w' => e = .returned (optP (qc3 l num)) /\ w' = w := by
 obtain ⟨a0, cap0, hv, hle, hmx⟩ := h.form
 have hat := fun i q (hi : l[i]? = some q) => h.at_ hi
 have hnum := fun q (hq : q ∈ l) => (h.works q hq).cell 0
 obtain ⟨n, hn⟩ : ∃ n, n = l.length := ⟨_, rfl⟩
 rw [<- hn] at hv hat hl hle
 have HN : Hid (n = l.length) := hn
 clear hn
 subst hv
 go_enter Tryz.func77, Tryz.ntmps77
 go_wp2
 go_loop [9] (fun i => ∃ k : Nat, k <= n /\ i = .int .i64 k /\ ∀ j q, j < k -> l[j]? = some q -> (q.x.num == num) = false) (fun i => n - (intOf i).toNat)
 case atStart => exact ⟨0, Nat.zero_le _, rfl, fun j q hj => by omega⟩
 case round =>
  obtain ⟨k, hk, rfl, hno⟩ := hrel
  have HNO : Hid (∀ j q, j < k -> l[j]? = some q -> (q.x.num == num) = false) := hno
  clear hno
  by_cases hlt : k < n
  ·obtain ⟨q, hq⟩ : ∃ q, l[k]? = some q := ⟨_, List.getElem?_eq_getElem (by rw [<- HN.out]; exact hlt)⟩
   obtain ⟨g, cap, he, hgl, hc1, hc2, hc⟩ := hat k q hq
   injection he with e1 _ e3
   subst e1 e3
   have hqm := List.mem_of_getElem? hq
   have hw := hnum q hqm
   unfold Pw.cells at hw
   simp only [List.getElem?_toArray, List.getElem?_cons_zero] at hw
   have HQ : Hid (l[k]? = some q) := hq
   have hki : (k : Int) < n := by omega
   have hki0 : (0 : Int) <= k := by omega
   unfold nptr at hc
   clear hq hat hnum
   by_cases hbq : q.x.num = num
   ·have HF : Hid (qc3 l num = some q) := qt4 HQ.out (by simp [hbq]) HNO.out
    go_wp2
    go_ret
    exact ⟨by rw [HF.out]; rfl, rfl⟩
   ·have HB : Hid ((q.x.num == num) = false) := by simp [Hid, hbq]
    go_wp2
    go_round
    case rel =>
     refine ⟨k + 1, by omega, by go_num, fun j y hj hy => ?_⟩
     rcases Nat.lt_or_ge j k with h1 | h1
     ·exact HNO.out j y h1 hy
     ·obtain rfl : j = k := by omega
      rw [HQ.out] at hy; cases hy
      exact HB.out
    case measure => simp [intOf]; omega
  ·have HF : Hid (qc3 l num = none) := qpg (fun j y hj hy => HNO.out j y (by have := HN.out; omega) hy)
   go_wp2
   go_ret
   exact ⟨by rw [HF.out]; rfl, rfl⟩
end Go.Proofs.YtphclnolomgjoaaGreatDoor
