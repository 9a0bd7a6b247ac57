import Derived.Test.YtphclnolomgjoaaGreatDoorC03
import Derived.Deep.RegionLaw
import Derived.Lib.AppendZerosOnto
import Derived.Lib.Overlaps
import Derived.Laws.NewBlocks
import Derived.Test.YtphclnolomgjoaaGreatDoorC01
import Derived.Test.YtphclnolomgjoaaGreatDoorC04
set_option linter.unusedVariables false
set_option linter.unusedSimpArgs false
namespace Go.Proofs.YtphclnolomgjoaaGreatDoor
open Go.RowKit
/-! copy, where its run is known -/
theorem qpx {P : Program} (w : World) {o : Oper} {a : Act} {K : Act -> World -> Prop} {Q : Exit -> Act -> World -> Prop} (d s : Operand) (t t' : TypeId)
  (ho : o.op = .call { callee := .builtin .copy, args := #[d, s], argTypes := #[t, t'] }) (v u : Value) (hd : a.eval d = v) (hs : a.eval s = u) {v' : Value} {w' : World}
  (hr : (Builtin.copy_ #[t, t'] o.type #[v, u]).run P w = .ok v' w') (h : K (a.put o.dst v') w') : o.wp P a w K Q := by
 unfold Oper.wp execOp
 simp only [ho, resolve, invoke, builtin, Sem.run_bind, Sem.run_pure, Result.andThen_ok, List.map_toArray, List.map_cons, List.map_nil, hd, hs, hr]
 exact h
theorem qfm {P : Program} (w : World) {ops : Array Oper} {rest : List Oper} {o : Oper} {a : Act} {Q : Exit -> Act -> World -> Prop} (hgd : o.guard = none) (d s : Operand) (t t' : TypeId)
  (ho : o.op = .call { callee := .builtin .copy, args := #[d, s], argTypes := #[t, t'] }) (v u : Value) (hd : a.eval d = v) (hs : a.eval s = u) {v' : Value} {w' : World}
  (hr : (Builtin.copy_ #[t, t'] o.type #[v, u]).run P w = .ok v' w') (h : wpList P ops Q rest (a.put o.dst v') w') : wpList P ops Q (o :: rest) a w :=
 wpList_plain hgd fun _ hK => qpx w d s t t' ho v u hd hs hr (hK _ _ h)
theorem qg3 {P : Program} {ops : Array Oper} {o : Oper} {a : Act} {w : World} {K : Act -> World -> Prop} {Q : Exit -> Act -> World -> Prop} {E : Prop}
  (hg : o.guard = none) (d x : Operand) (dT sT : TypeId) (hop : o.op = Op.call { callee := Callee.builtin Builtin.copy, args := #[d, x], argTypes := #[dT, sT] })
  (v u : Value) (hd : a.eval d = v) (hx : a.eval x = u) {v' : Value} {w' : World} (hr : (Builtin.copy_ #[dT, sT] o.type #[v, u]).run P w = .ok v' w') (hK : K (a.put o.dst v') w') :
  if Region.wanted o (yielded ops a.tmps) = true then Oper.wp P o a w K Q else E := by
 rw [if_pos (by simp [Region.wanted, hg])]
 unfold Oper.wp
 simp [execOp, hop, resolve, invoke, builtin, hd, hx, hr, Result.andThen]
 exact hK
theorem quw : (Tryz.prog.info? 97).map (fun i => (i.zero, i.size, i.bytes)) = some (some (.pointer none), 1, 8) := by kernel_rfl
theorem qog : (Tryz.prog.info? 97).map (·.size) = some 1 := by kernel_rfl
set_option maxRecDepth 100000 in
set_option maxHeartbeats 2000000 in
theorem qpm (sl : Value) (n vb : Nat) (xs : List Value) (v : Value) (w : World) (hn : n <= 1000) (hv1 : v.oneCell' = true) (hown : w.ownsRow 0 97 1 sl n xs) (hvb : Blk w vb 97 #[v]) :
  Calls Tryz.prog 137 #[sl, .int .i64 n, .slice (some ⟨vb, 0, none⟩) 1 1] w fun e w' =>
   ∃ sl', e = .returned sl' /\ w'.ownsRow 0 97 1 sl' (n + 1) (xs ++ [v]) /\ w.grownBy w' sl.ownBlock /\ (sl'.ownBlock = sl.ownBlock \/ ∃ g, sl'.ownBlock = some g /\ w.heap.size <= g) := by
 obtain ⟨i0, hi, hz0, hz1, hz2⟩ := info_parts quw
 have hvc := hvb.cell 0
 simp only [List.getElem?_toArray, List.getElem?_cons_zero] at hvc
 have hnews : ∀ j u, [v][j]? = some u -> w.cell? ((⟨vb, 0, none⟩ : Addr).add j) = some u := fun j u hj => by
  cases j with
  | zero => simp at hj; subst hj; exact hvc
  | succ j => simp at hj
 have key : ∃ v' w', (∀ ty, (Builtin.append_ #[134, 134] ty #[sl, .slice (some ⟨vb, 0, none⟩) 1 1]).run Tryz.prog w = .ok v' w') /\ w'.ownsRow 0 97 1 v' (n + 1) (xs ++ [v]) /\ w.grownBy w' sl.ownBlock /\ (v'.ownBlock = sl.ownBlock \/ ∃ g, v'.ownBlock = some g /\ w.heap.size <= g) := by
  have hnew : ∀ {v' : Value} {w' : World}, w'.ownsRow w.heap.size 97 1 v' (n + 1) (xs ++ [v]) -> w'.ownsRow 0 97 1 v' (n + 1) (xs ++ [v]) /\ ∃ g, v'.ownBlock = some g /\ w.heap.size <= g := fun {v' w'} h => by
   obtain ⟨h1, h2⟩ := h
   rcases h2 with ⟨_, h0⟩ | ⟨g, cap, cur, rfl, hb, rest⟩
   ·omega
   ·exact ⟨⟨h1, .inr ⟨g, cap, cur, rfl, Nat.zero_le _, rest⟩⟩, g, rfl, hb⟩
  rcases hown.2 with ⟨rfl, rfl⟩ | ⟨g, cap, cur, rfl, _, hg, hnc, hcm, hcs, ht⟩
  ·have hx : xs = [] := List.eq_nil_of_length_eq_zero (by simpa using hown.1)
   subst hx
   obtain ⟨v', w', hr, ho, hgr, _⟩ := run_append_own (P := Tryz.prog) w w.heap.size 134 0 97 i0 _ 1 8 Tryz.underlying134 hi hz0 hz1 hz2 rfl (by decide) (.slice none 0 0) 0 [] (World.ownsRow_nil w _ 97 1) ⟨vb, 0, none⟩ 1 1 [v] rfl hnews (by simp [hv1]) (by unfold maxLen; omega) (by omega) (Nat.le_refl _)
   have ho' := hnew (by simpa using ho)
   exact ⟨v', w', fun ty => hr, ho'.1, hgr, .inr ho'.2⟩
  ·by_cases hroom : n + 1 <= cap
   ·have hr := fun ty => run_append_room (P := Tryz.prog) w 134 ty 97 i0 Tryz.underlying134 hi g n cap cur hg ⟨vb, 0, none⟩ 1 1 [v] (by rw [hz1]; rfl) hnews (by simp [hv1]) hroom (by rw [hz1]; simp; omega)
    rw [hz1] at hr
    simp only [Nat.mul_one] at hr ht hcs
    refine ⟨_, _, hr, ⟨by simp [hown.1], .inr ⟨g, cap, _, rfl, Nat.zero_le _, setRow_heap w g cur _ 97 _ hg, hroom, hcm, ?_, ?_⟩⟩, ⟨rfl, rfl, rfl, by simp, fun k _ hk => setRow_other w g k _ (fun e => hk (by simp [Value.ownBlock, e]))⟩, .inl rfl⟩
    ·simp [hcs]; omega
    ·have : xs.length = n := by simpa using hown.1
     rw [Nat.mul_one, List.toList_toArray, ht, List.take_append_of_le_length (by simp; omega), List.take_of_length_le (by simp; omega)]
   ·obtain ⟨v', w', hr, ho, hgr⟩ := run_append_arg_grows (P := Tryz.prog) w 134 0 97 i0 _ 1 8 Tryz.underlying134 hi hz0 hz1 hz2 rfl (by decide) ⟨g, 0, none⟩ n cap xs hown.1 (hown.cells (g := g) rfl) ⟨vb, 0, none⟩ 1 1 [v] rfl hnews (by omega) (by unfold maxLen; omega) (by omega)
    have ho' := hnew ho
    exact ⟨v', w', fun ty => hr, ho'.1, ⟨hgr.os, hgr.tape, hgr.output, hgr.size, fun k hk _ => hgr.block k hk (by simp)⟩, .inr ho'.2⟩
 obtain ⟨v', w', hrun, ho, hgr, hor⟩ := key
 obtain ⟨ao, cap, hsl, hle⟩ : ∃ ao cap, sl = .slice ao n cap /\ n <= cap /\ cap <= maxLen := by
  rcases hown.2 with ⟨rfl, rfl⟩ | ⟨g, cap, cur, rfl, _, _, h1, h2, _⟩
  ·exact ⟨none, 0, rfl, Nat.le_refl _, Nat.zero_le _⟩
  ·exact ⟨_, _, rfl, h1, h2⟩
 obtain ⟨hle, hmax⟩ := hle
 unfold maxLen at hmax
 subst hsl
 have hnil : ao = none -> n = 0 /\ cap = 0 := fun e => by
  subst e
  rcases hown.2 with ⟨h, rfl⟩ | ⟨g, cap', cur, h, _⟩
  ·injection h with _ _ h3; exact ⟨rfl, h3⟩
  ·cases h
 clear hown hnews
 go_enter Tryz.func137, Tryz.ntmps137
 cases ao with
 | none =>
  obtain ⟨rfl, rfl⟩ := hnil rfl
  go_wp2_with (at_builtin; refine Lib.wpList_append_run _ rfl _ _ _ _ rfl _ _ rfl rfl _ _ (hrun _) ?_)
  all_goals (go_ret; exact ⟨_, rfl, ho, hgr, hor⟩)
 | some a =>
  go_wp2_with (at_builtin; refine Lib.wpList_append_run _ rfl _ _ _ _ rfl _ _ rfl rfl _ _ (hrun _) ?_)
  all_goals (go_ret; exact ⟨_, rfl, ho, hgr, hor⟩)
set_option maxRecDepth 100000 in
set_option maxHeartbeats 4000000 in
theorem qls (g n c i vb : Nat) (cur : Array Value) (v : Value) (w : World) (hi : i < n) (hroom : n + 1 <= c) (hc : c <= maxLen) (hg : w.heap[g]? = some (.cells cur 97 (0, 0))) (hcs : cur.size = c)
  (hv1 : v.oneCell' = true) (h1 : ∀ u ∈ cur.toList.take n, u.oneCell' = true) (hvb : Blk w vb 97 #[v]) (hne : vb ≠ g) :
  Calls Tryz.prog 137 #[.slice (some ⟨g, 0, none⟩) n c, .int .i64 i, .slice (some ⟨vb, 0, none⟩) 1 1] w fun e w' =>
   e = .returned (.slice (some ⟨g, 0, none⟩) (n + 1) c) /\ (∃ R : Array Value, w'.heap[g]? = some (.cells R 97 (0, 0)) /\ R.size = c /\ R.toList.take (n + 1) = (cur.toList.take n).take i ++ v :: (cur.toList.take n).drop i) /\ Keep (fun b => b = g) w w' := by
 unfold maxLen at hc
 have hz2 : ¬ ((i : Int) = (n : Int)) := by omega
 have hsh : w.shape? vb = some (97, 1) := by unfold World.shape?; rw [show w.heap[vb]? = _ from hvb]; rfl
 have hshg : w.shape? g = some (97, c) := by unfold World.shape?; rw [hg]; simp [hcs]
 have hov : ∀ lb cb, (callFunc 185 #[.slice (some ⟨vb, 0, none⟩) 1 1, .slice (some ⟨g, i + 1, none⟩) lb cb]).run Tryz.prog w = .ok (.value (.bool false)) w := fun lb cb => by
  rw [run_callFunc_extern Tryz.func185 (by kernel_rfl) (by kernel_rfl) (by kernel_rfl) (e := Extern.SlicesOverlaps.overlaps #[134, 134] #[4]) (by kernel_rfl),
   Lib.run_overlaps_apart w 134 4 97 Tryz.underlying134 1 Tryz.sizeOf97 ⟨vb, 0, none⟩ ⟨g, i + 1, none⟩ 1 1 lb cb hne 97 97 1 c hsh hshg (by omega) (hvb.frozen 0) (hvb.frozen 1)]
  rfl
 have cell : ∀ j u, cur[j]? = some u -> w.cell? ⟨g, j, none⟩ = some u := fun j u h => by unfold World.cell?; simp only [hg]; simpa using h
 obtain ⟨cs, hcsd⟩ : ∃ cs, cs = (cur.toList.take n).drop i := ⟨_, rfl⟩
 have hcl : cs.length = n - i := by rw [hcsd]; simp; omega
 have hcp1 : ∀ ty dc sc, (Builtin.copy_ #[134, 134] ty #[.slice (some ⟨g, i + 1, none⟩) (n - i) dc, .slice (some ⟨g, i, none⟩) (n + 1 - i) sc]).run Tryz.prog w.drew = .ok (goInt cs.length) (w.drew.setRow g (cur.toList.take (i + 1) ++ cs ++ cur.toList.drop (i + 1 + cs.length)).toArray) := fun ty dc sc =>
  run_copy_row Tryz.prog w.drew 134 134 ty 97 g (i + 1) (n - i) dc ⟨g, i, none⟩ (n + 1 - i) sc cur 97 cs Tryz.underlying134 qog hg (by rw [hcl]; simp only [Nat.min_def]; split <;> omega)
   (fun j u hj => by
    rw [Addr.add_lit]
    refine cell _ _ ?_
    rw [hcsd, List.getElem?_drop, List.getElem?_take] at hj
    split at hj
    ·simpa using hj
    ·cases hj) (by rw [hcl, hcs]; omega) (fun u hu => h1 u (by rw [hcsd] at hu; exact List.mem_of_mem_drop hu))
 obtain ⟨R1, hR1⟩ : ∃ R1, R1 = (cur.toList.take (i + 1) ++ cs ++ cur.toList.drop (i + 1 + cs.length)).toArray := ⟨_, rfl⟩
 rw [<- hR1] at hcp1
 have hR1s : R1.size = c := by rw [hR1]; simp [hcl, hcs]; omega
 have hg1 : (w.drew.setRow g R1).heap[g]? = some (.cells R1 97 (0, 0)) := setRow_heap w.drew g cur R1 97 (0, 0) hg
 have hvc : w.cell? ⟨vb, 0, none⟩ = some v := by have := hvb.cell 0; simpa using this
 have hcp2 : ∀ (W : World), W.heap[g]? = some (.cells R1 97 (0, 0)) -> W.cell? ⟨vb, 0, none⟩ = some v -> ∀ ty dc, (Builtin.copy_ #[134, 134] ty #[.slice (some ⟨g, i, none⟩) (n + 1 - i) dc, .slice (some ⟨vb, 0, none⟩) 1 1]).run Tryz.prog W = .ok (goInt 1) (W.setRow g (R1.toList.take i ++ [v] ++ R1.toList.drop (i + 1)).toArray) := fun W hWg hWv ty dc =>
  run_copy_row Tryz.prog W 134 134 ty 97 g i (n + 1 - i) dc ⟨vb, 0, none⟩ 1 1 R1 97 [v] Tryz.underlying134 qog hWg (by simp only [Nat.min_def, List.length_singleton]; split <;> omega)
   (fun j u hj => by cases j with | zero => (simp at hj; subst hj; exact hWv) | succ j => simp at hj) (by rw [hR1s]; simp; omega) (by simp [hv1])
 have hE : ∀ j u, w.cell? ⟨vb, j, none⟩ = some u -> (w.drew.setRow g R1).cell? ⟨vb, j, none⟩ = some u := fun j u h => by rw [cell_setRow_other _ _ _ _ hne]; exact h
 have hw1 : IntKind.i64.wrap ((i : Int) + 1) = (i : Int) + 1 := by rw [IntKind.wrap_i64]; omega
 have hin : i <= n := by omega
 have htn : ((i : Int) + 1).toNat = i + 1 := by omega
 have hb1 : (0 : Int) <= (i : Int) + 1 := by omega
 have hb2 : ¬ (c = i + 1) := by omega
 have hb3 : (i : Int) <= (n : Int) + 1 := by omega
 have hb4 : ¬ (c = i) := by omega
 have HCS : Hid (cs = (cur.toList.take n).drop i) := hcsd
 have HR1 : Hid (R1 = (cur.toList.take (i + 1) ++ cs ++ cur.toList.drop (i + 1 + cs.length)).toArray) := hR1
 have HCL : Hid (cs.length = n - i) := hcl
 clear hcsd hR1 hcl
 go_enter Tryz.func137, Tryz.ntmps137
 go_wp2_with (simp only [hov])
 go_region_law (refine qg3 rfl _ _ 134 134 rfl _ _ (by simp [Act.eval, Act.put]) (by simp [Act.eval, Act.put]) (hcp1 _ _ _) ?_)
 go_wp2_with (at_builtin; refine qfm _ rfl _ _ 134 134 rfl _ _ rfl rfl (hcp2 _ hg1 (hE _ _ hvc) _ _) ?_)
 go_ret
 refine ⟨rfl, ⟨(R1.toList.take i ++ v :: R1.toList.drop (i + 1)).toArray, setRow_heap _ g R1 _ 97 (0, 0) hg1, by simp [hR1s]; omega, ?_⟩, ?_⟩
 ·have e1 : R1.toList = cur.toList.take (i + 1) ++ cs ++ cur.toList.drop (n + 1) := by rw [HR1.out, HCL.out, show i + 1 + (n - i) = n + 1 by omega]
  have e2 : R1.toList.take i = cur.toList.take i := by rw [e1, List.append_assoc, List.take_append_of_le_length (by simp; omega), List.take_take, Nat.min_eq_left (by omega)]
  have e3 : R1.toList.drop (i + 1) = cs ++ cur.toList.drop (n + 1) := by rw [e1, List.append_assoc, List.drop_append_of_le_length (by simp; omega), List.drop_of_length_le (by simp; omega)]; rfl
  have e4 : (cur.toList.take n).take i = cur.toList.take i := by rw [List.take_take, Nat.min_eq_left (by omega)]
  rw [List.toList_toArray, e2, e3, e4, <- HCS.out]
  have hlen : (cur.toList.take i).length = i := by simp; omega
  rw [show cur.toList.take i ++ v :: (cs ++ cur.toList.drop (n + 1)) = (cur.toList.take i ++ v :: cs) ++ cur.toList.drop (n + 1) by simp]
  rw [List.take_append_of_le_length (by simp [hlen, HCL.out]; omega), List.take_of_length_le (by simp [hlen, HCL.out]; omega)]
 ·exact ⟨rfl, rfl, rfl, by simp, fun k hk hn => by rw [setRow_other _ _ _ _ hn, setRow_other _ _ _ _ hn]; rfl⟩
set_option maxRecDepth 100000 in
set_option maxHeartbeats 4000000 in
theorem qnb (g n c i vb : Nat) (cur : Array Value) (v : Value) (w : World) (hi : i < n) (hn1 : n <= 1000) (hnc : n <= c) (hroom : c < n + 1) (hg : w.heap[g]? = some (.cells cur 97 (0, 0))) (hcs : cur.size = c)
  (hv1 : v.oneCell' = true) (h1 : ∀ u ∈ cur.toList.take n, u.oneCell' = true) (hvb : Blk w vb 97 #[v]) :
  Calls Tryz.prog 137 #[.slice (some ⟨g, 0, none⟩) n c, .int .i64 i, .slice (some ⟨vb, 0, none⟩) 1 1] w fun e w' =>
   ∃ G, n + 1 <= G /\ G <= maxLen /\ e = .returned (.slice (some ⟨w.heap.size, 0, none⟩) (n + 1) G) /\ (∃ R : Array Value, w'.heap[w.heap.size]? = some (.cells R 97 (0, 0)) /\ R.size = G /\ R.toList.take (n + 1) = (cur.toList.take n).take i ++ v :: (cur.toList.take n).drop i) /\ Below w.heap.size w w' := by
 obtain ⟨i0, hi0, hz0, hzs, hzb⟩ := info_parts quw
 obtain ⟨xs, hxs⟩ : ∃ xs, xs = cur.toList.take n := ⟨_, rfl⟩
 rw [<- hxs] at h1
 have hxl : xs.length = n := by rw [hxs]; simp; omega
 have hz2 : ¬ ((i : Int) = (n : Int)) := by omega
 have hz3 : (c : Int) < (n : Int) + 1 := by omega
 have hgw : g < w.heap.size := (Array.getElem?_eq_some_iff.1 hg).1
 have hvw : vb < w.heap.size := hvb.lt
 have cell : ∀ j u, xs[j]? = some u -> w.cell? ⟨g, j, none⟩ = some u := fun j u h => by
  unfold World.cell?; simp only [hg]
  rw [hxs, List.getElem?_take] at h
  split at h
  ·simpa using h
  ·cases h
 have hvc : w.cell? ⟨vb, 0, none⟩ = some v := by have := hvb.cell 0; simpa using this
 have hkk : (n : Int) + 1 - (i : Int) = ((n + 1 - i : Nat) : Int) := by omega
 have hik : i + (n + 1 - i) = n + 1 := by omega
 have hold : (Builtin.firstCells i0.size i (.slice (some ⟨g, 0, none⟩) i c)).run Tryz.prog w.drew = .ok (xs.take i).toArray w.drew := by
  rw [hzs]
  exact run_firstCells_some w.drew 1 i ⟨g, 0, none⟩ i c (xs.take i) (by rw [List.length_take]; omega) (fun j u hj => by
   rw [Addr.add_lit, Nat.zero_add]
   rw [List.getElem?_take] at hj
   split at hj
   ·exact cell j u hj
   ·cases hj)
 obtain ⟨G, hG⟩ : ∃ G, G = grownCap w (n + 1) c 97 := ⟨_, rfl⟩
 obtain ⟨ROW, hROW⟩ : ∃ ROW : Array Value, ROW = (xs.take i).toArray ++ Builtin.zeroCells (Value.pointer none).cells (n + 1 - i) ++ Builtin.zeroCells (Value.pointer none).cells (G - (n + 1)) := ⟨_, rfl⟩
 have hrz : ∀ ty, (Builtin.append_ #[134, 3] ty #[.slice (some ⟨g, 0, none⟩) i c, .int .i64 ((n : Int) + 1 - (i : Int))]).run Tryz.prog w =
   .ok (.slice (some ⟨w.heap.size, 0, none⟩) (n + 1) G) (w.drew.alloc (.cells ROW 97)) := fun ty => by
  have h := Lib.run_append_grow_zeros w 134 3 ty 97 i0 _ .i64 .i64 Tryz.underlying134 Tryz.underlying3 hi0 hz0 (some ⟨g, 0, none⟩) i c (xs.take i) hold (n + 1 - i) (by omega) (by omega) (by omega) (by omega) (by rw [hzb]; omega) (by rw [hzb, hik]; exact growslice_fits hroom (by omega))
  rw [hik, <- hG, <- hROW] at h
  rw [hkk]
  exact h
 have hGn : n + 1 <= G := by rw [hG]; exact grownCap_ge w _ _ _
 have hG63 : G <= maxLen := by rw [hG]; exact grownCap_le_maxLen w (n + 1) c 97 (by unfold maxLen; omega)
 have hRl : ROW.size = G := by
  rw [hROW]; simp [Builtin.zeroCells, Value.cells]; omega
 have hRt : ROW.toList.take i = xs.take i := by
  rw [hROW]
  simp only [Array.toList_append, List.append_assoc, List.toList_toArray]
  rw [List.take_append_of_le_length (by simp; omega), List.take_of_length_le (by simp; omega)]
 obtain ⟨W1, hW1⟩ : ∃ W1, W1 = w.drew.alloc (.cells ROW 97) := ⟨_, rfl⟩
 rw [<- hW1] at hrz
 have hsz1 : W1.heap.size = w.heap.size + 1 := by rw [hW1]; simp
 have hN : W1.heap[w.heap.size]? = some (.cells ROW 97 (0, 0)) := by rw [hW1]; exact heap_alloc_new w.drew _
 have hOld : ∀ k, k < w.heap.size -> W1.heap[k]? = w.heap[k]? := fun k hk => by rw [hW1]; exact Below.heap_alloc w.drew _ k hk
 have hbel1 : Below w.heap.size w W1 := by rw [hW1]; exact (Below.refl _ w).drew.alloc (Nat.le_refl _) _
 have hcp1 : ∀ (W : World), W.heap[w.heap.size]? = some (.cells ROW 97 (0, 0)) -> W.cell? ⟨vb, 0, none⟩ = some v -> ∀ ty dc, (Builtin.copy_ #[134, 134] ty #[.slice (some ⟨w.heap.size, i, none⟩) (n + 1 - i) dc, .slice (some ⟨vb, 0, none⟩) 1 1]).run Tryz.prog W = .ok (goInt 1) (W.setRow w.heap.size (ROW.toList.take i ++ [v] ++ ROW.toList.drop (i + 1)).toArray) := fun W hWg hWv ty dc =>
  run_copy_row Tryz.prog W 134 134 ty 97 w.heap.size i (n + 1 - i) dc ⟨vb, 0, none⟩ 1 1 ROW 97 [v] Tryz.underlying134 qog hWg (by simp only [Nat.min_def, List.length_singleton]; split <;> omega)
   (fun j u hj => by cases j with | zero => (simp at hj; subst hj; exact hWv) | succ j => simp at hj) (by rw [hRl]; simp; omega) (by simp [hv1])
 obtain ⟨R2, hR2⟩ : ∃ R2, R2 = (ROW.toList.take i ++ [v] ++ ROW.toList.drop (i + 1)).toArray := ⟨_, rfl⟩
 rw [<- hR2] at hcp1
 have hR2s : R2.size = G := by rw [hR2]; simp [hRl]; omega
 obtain ⟨W2, hW2⟩ : ∃ W2, W2 = W1.setRow w.heap.size R2 := ⟨_, rfl⟩
 obtain ⟨cs, hcsd⟩ : ∃ cs, cs = xs.drop i := ⟨_, rfl⟩
 have hcl : cs.length = n - i := by rw [hcsd]; simp; omega
 have hcp2 : ∀ (W : World), W.heap[w.heap.size]? = some (.cells R2 97 (0, 0)) -> (∀ j, W.cell? ⟨g, j, none⟩ = w.cell? ⟨g, j, none⟩) -> ∀ ty dc sc, (Builtin.copy_ #[134, 134] ty #[.slice (some ⟨w.heap.size, i + 1, none⟩) (n - i) dc, .slice (some ⟨g, i, none⟩) (n - i) sc]).run Tryz.prog W = .ok (goInt cs.length) (W.setRow w.heap.size (R2.toList.take (i + 1) ++ cs ++ R2.toList.drop (i + 1 + cs.length)).toArray) := fun W hWg hWc ty dc sc =>
  run_copy_row Tryz.prog W 134 134 ty 97 w.heap.size (i + 1) (n - i) dc ⟨g, i, none⟩ (n - i) sc R2 97 cs Tryz.underlying134 qog hWg (by rw [hcl]; simp)
   (fun j u hj => by
    rw [Addr.add_lit, hWc]
    rw [hcsd, List.getElem?_drop] at hj
    exact cell _ _ hj) (by rw [hcl, hR2s]; omega) (fun u hu => h1 u (by rw [hcsd] at hu; exact List.mem_of_mem_drop hu))
 obtain ⟨R3, hR3⟩ : ∃ R3, R3 = (R2.toList.take (i + 1) ++ cs ++ R2.toList.drop (i + 1 + cs.length)).toArray := ⟨_, rfl⟩
 rw [<- hR3] at hcp2
 have hg2 : (W1.setRow w.heap.size R2).heap[w.heap.size]? = some (.cells R2 97 (0, 0)) := setRow_heap W1 _ ROW R2 97 (0, 0) hN
 have hcg : ∀ j, W1.cell? ⟨g, j, none⟩ = w.cell? ⟨g, j, none⟩ := fun j => World.cell?_of_block (hOld g hgw)
 have hcg2 : ∀ j, (W1.setRow w.heap.size R2).cell? ⟨g, j, none⟩ = w.cell? ⟨g, j, none⟩ := fun j => by rw [cell_setRow_other _ _ _ _ (by simp; omega)]; exact hcg j
 have hcv : W1.cell? ⟨vb, 0, none⟩ = some v := (World.cell?_of_block (hOld vb hvw)).trans hvc
 have hfin : R3.size = G /\ R3.toList.take (n + 1) = xs.take i ++ v :: xs.drop i := by
  refine ⟨by rw [hR3]; simp [hcl, hR2s]; omega, ?_⟩
  have hil : (xs.take i).length = i := by simp; omega
  have e1 : R2.toList = xs.take i ++ v :: ROW.toList.drop (i + 1) := by rw [hR2, hRt]; simp
  have e2 : R2.toList.take (i + 1) = xs.take i ++ [v] := by
   rw [e1, List.take_append, hil, show i + 1 - i = 1 by omega, List.take_of_length_le (by omega)]; simp
  rw [hR3, List.toList_toArray, e2, hcsd]
  rw [show xs.take i ++ [v] ++ xs.drop i = xs.take i ++ v :: xs.drop i by simp]
  rw [List.take_append_of_le_length (by simp; omega), List.take_of_length_le (by simp; omega)]
 have hmax := hG63
 unfold maxLen at hmax
 have hGi : ¬ (G = i) := by omega
 have hGim : ¬ (G = i + 1) := by omega
 have hci : ¬ (c = i) := by omega
 have hw1 : IntKind.i64.wrap ((i : Int) + 1) = (i : Int) + 1 := by rw [IntKind.wrap_i64]; omega
 have hb1 : (0 : Int) <= (i : Int) + 1 := by omega
 have hin : i <= n := by omega
 have htn : ((i : Int) + 1).toNat = i + 1 := by omega
 have hb3 : (i : Int) <= (n : Int) := by omega
 have HXS : Hid (xs = cur.toList.take n) := hxs
 have HW1 : Hid (W1 = w.drew.alloc (.cells ROW 97)) := hW1
 have HFIN : Hid (R3.size = G /\ R3.toList.take (n + 1) = xs.take i ++ v :: xs.drop i) := hfin
 have HOLD : Hid (∀ k, k < w.heap.size -> W1.heap[k]? = w.heap[k]?) := hOld
 have hcpA := hcp1 W1 hN hcv
 have hcpB := hcp2 (W1.setRow w.heap.size R2).drew hg2 hcg2
 clear hkk hik hold hROW hG hRl hRt hR2 hR3 hW2 hcsd hcl hxs hxl hR2s hW1 hfin hcg hOld h1 cell
 go_enter Tryz.func137, Tryz.ntmps137
 go_wp2_with (at_builtin; refine Lib.wpList_append_run _ rfl _ _ _ _ rfl _ _ rfl rfl _ _ (hrz _) ?_)
 go_region
 go_wp2
 go_ret
 refine ⟨G, hGn, hG63, rfl, ⟨R3, setRow_heap (W1.setRow w.heap.size R2).drew _ R2 _ 97 (0, 0) hg2, HFIN.out.1, by rw [<- HXS.out]; exact HFIN.out.2⟩, ?_⟩
 refine hbel1.trans ⟨rfl, rfl, rfl, by simp, fun k hk => ?_⟩
 rw [setRow_other _ _ _ _ (by omega)]
 exact setRow_other _ _ _ _ (by omega)
theorem qo0 (sl : Value) (n i vb : Nat) (xs : List Value) (v : Value) (w : World) (hn : n <= 1000) (hi : i <= n) (hv1 : v.oneCell' = true) (h1 : ∀ u ∈ xs, u.oneCell' = true) (hown : w.ownsRow 0 97 1 sl n xs) (hvb : Blk w vb 97 #[v]) (hne : sl.ownBlock ≠ some vb) :
  Calls Tryz.prog 137 #[sl, .int .i64 i, .slice (some ⟨vb, 0, none⟩) 1 1] w fun e w' =>
   ∃ sl', e = .returned sl' /\ w'.ownsRow 0 97 1 sl' (n + 1) (xs.take i ++ v :: xs.drop i) /\ Keep (fun b => sl.ownBlock = some b) w w' /\ (sl'.ownBlock = sl.ownBlock \/ ∃ g, sl'.ownBlock = some g /\ w.heap.size <= g) := by
 have hxl : xs.length = n := by have := hown.1; omega
 rcases Nat.lt_or_ge i n with hlt | hge
 ·rcases hown.2 with ⟨rfl, rfl⟩ | ⟨g, cap, cur, rfl, _, hg, hnc, hcm, hcs, ht⟩
  ·omega
  ·simp only [Nat.mul_one] at hcs ht
   have h1' : ∀ u ∈ cur.toList.take n, u.oneCell' = true := by rw [ht]; exact h1
   by_cases hroom : n + 1 <= cap
   ·refine (qls g n cap i vb cur v w hlt hroom hcm hg hcs hv1 h1' hvb (fun e => hne (by rw [e]; rfl))).mono ?_
    rintro e w' ⟨rfl, ⟨R, hR, hRs, hRt⟩, hk⟩
    refine ⟨_, rfl, ⟨by simp; omega, .inr ⟨g, cap, R, rfl, Nat.zero_le _, hR, hroom, hcm, by omega, by rw [Nat.mul_one, hRt, ht]⟩⟩, hk.mono (fun b hb => by rw [hb]; rfl), .inl rfl⟩
   ·refine (qnb g n cap i vb cur v w hlt hn hnc (by omega) hg hcs hv1 h1' hvb).mono ?_
    rintro e w' ⟨G, hG1, hG2, rfl, ⟨R, hR, hRs, hRt⟩, hb⟩
    refine ⟨_, rfl, ⟨by simp; omega, .inr ⟨w.heap.size, G, R, rfl, Nat.zero_le _, hR, hG1, hG2, by omega, by rw [Nat.mul_one, hRt, ht]⟩⟩, Keep.new hb, .inr ⟨w.heap.size, rfl, Nat.le_refl _⟩⟩
 ·obtain rfl : i = n := by omega
  refine (qpm sl i vb xs v w hn hv1 hown hvb).mono ?_
  rintro e w' ⟨sl', rfl, hown', hgr, hor⟩
  refine ⟨sl', rfl, ?_, (Keep.refl _ _).grown hgr (fun k h => h), hor⟩
  rw [List.take_of_length_le (by omega), List.drop_of_length_le (by omega)]; exact hown'
def Node.qif (p : Node) (at_ q : Nat) (sl : Value) : Node := { p with sl := sl, kids := p.kids.take at_ ++ q :: p.kids.drop at_ }
structure qf7 (nodes : List Node) (p : Node) (q : Nat) (nm : Bs) (leaf : Bool) (a b c d : Int) (w w' : World) (ks : List Node) (at_ : Nat) (sl : Value) : Prop where
 kids : p.kids = ks.map (·.blk)
 mem : ∀ k, k ∈ ks ↔ (k ∈ nodes /\ ∃ x, k.key = p.key ++ [x])
 sort : (ks.map fun k => qbv k.key).Pairwise fun a b => cmpB a b < 0
 found : Found (ks.map fun k => qbv k.key) nm at_ false
 par : qan w' (p.qif at_ q sl)
 new : qan w' { blk := q, key := p.key ++ [nm], leaf := leaf, n0 := a, n1 := b, b0 := c, b1 := d, up := some p.blk, sl := .slice none 0 0, kids := [] }
 keep : Keep (fun x => x = p.blk \/ x = q \/ p.sl.ownBlock = some x) w w'
 own : sl.ownBlock = p.sl.ownBlock \/ ∃ g, sl.ownBlock = some g /\ w.heap.size <= g
set_option maxRecDepth 100000 in
set_option maxHeartbeats 2000000 in
theorem qsj {nodes : List Node} (T : Tree nodes) (w : World) (hN : ∀ n ∈ nodes, qan w n) {p : Node} (hp : p ∈ nodes) (q : Nat) (nm : Bs) (hnm : qbd nm = true) (hno : ∀ n ∈ nodes, n.key ≠ p.key ++ [nm])
  (leaf : Bool) (a b c d : Int) (hq : Blk w q 136 #[.string ⟨#[]⟩, .bool leaf, .int .i64 a, .int .i64 b, .int .i64 c, .int .i64 d, .pointer none, .slice none 0 0])
  (hqp : q ≠ p.blk) (hqs : p.sl.ownBlock ≠ some q) (hps : p.sl.ownBlock ≠ some p.blk) :
  Calls Tryz.prog 82 #[nptr p.blk, .string (sb nm), nptr q] w fun e w' => e = .returned (.tuple #[]) /\ ∃ ks at_ sl, qf7 nodes p q nm leaf a b c d w w' ks at_ sl := by
 have hplace := (qja T hN hp (sb nm)).mono (R' := fun e w' => (∃ (ks : List Node) (at_ : Nat), e = .returned (.tuple #[.int .i64 at_, .bool false]) /\ p.kids = ks.map (·.blk) /\ (∀ k, k ∈ ks ↔ (k ∈ nodes /\ ∃ x, k.key = p.key ++ [x])) /\ (ks.map fun k => qbv k.key).Pairwise (fun a b => cmpB a b < 0) /\ Found (ks.map fun k => qbv k.key) nm at_ false) /\ w = w') (by
  rintro e w' ⟨⟨ks, hk, hm, hs, at_, th, rfl, hF⟩, rfl⟩
  rw [qbi] at hF
  cases th with
  | false => exact ⟨⟨ks, at_, rfl, hk, hm, hs, hF⟩, rfl⟩
  | true =>
   exfalso
   have h1 := hF.2.2.2.1 rfl
   simp only [List.getElem?_map, Option.map_eq_some_iff] at h1
   obtain ⟨k, hk1, hk2⟩ := h1
   obtain ⟨hkn, y, hy⟩ := (hm k).1 (List.mem_of_getElem? hk1)
   rw [hy, qdc] at hk2
   subst hk2
   exact hno k hkn hy)
 have hcl := fun W => qjx (sb nm) W (by rw [qd3]; have := (qea hnm).2; omega)
 have hP := hN p hp
 have hpl := hP.lt
 have hql := hq.lt
 unfold nptr at hplace ⊢
 go_enter Tryz.func82, Tryz.ntmps82
 go_wp2_with (first
  | (go_at_call 104; refine hplace.mono ?_; rintro e w1 ⟨⟨ks, at_, rfl, hk, hm, hs, hF⟩, hw1⟩; subst hw1)
  | (go_at_call 129; refine (hcl _).mono ?_; rintro e w1 ⟨rfl, hb1⟩; have hq1 := hq.below hb1 hql; have q0 := hq1.cell 0; have q6 := hq1.cell 6; have r0 := hq1.frozen 0; have r6 := hq1.frozen 6; have hP1 := hP.below hb1; have p7 : w1.cell? ⟨p.blk, 7, none⟩ = some p.sl := hP1.cell rfl; have p7f := hP1.frozen 7))
 have hkl : p.kids.length = ks.length := by rw [hk]; simp
 have hks20 : ks.length <= 1000 := by
  have hsub : (ks.map (·.key)).Nodup := by
   have : (ks.map fun k => qbv k.key).Nodup := hs.imp (fun {a b} h e => by subst e; rw [show cmpB a a = 0 from qei a] at h; omega)
   rw [show (ks.map fun k => qbv k.key) = (ks.map (·.key)).map qbv by simp] at this
   exact qcc this
  have h1 : ∀ x ∈ ks.map (·.key), x ∈ nodes.map (·.key) := by
   intro k hk'; obtain ⟨n, hn', rfl⟩ := List.mem_map.1 hk'
   exact List.mem_map.2 ⟨n, ((hm n).1 hn').1, rfl⟩
  have h2 := qdg hsub h1
  have h3 := T.len
  simp at h2; omega
 obtain ⟨W2, hW2⟩ : ∃ W2, W2 = (w1.setCell ⟨q, 0, none⟩ (.string (sb nm))).setCell ⟨q, 6, none⟩ (.pointer (some ⟨p.blk, 0, none⟩)) := ⟨_, rfl⟩
 have hk2 : Keep (fun x => x = q) w1 W2 := by rw [hW2]; exact ((Keep.refl (fun x => x = q) _).setCell (p := ⟨q, 0, none⟩) rfl _).setCell (p := ⟨q, 6, none⟩) rfl _
 have hsz2 : W2.heap.size = w1.heap.size := by rw [hW2]; simp [World.setCell]
 have hq2 : Blk W2 q 136 #[.string (sb nm), .bool leaf, .int .i64 a, .int .i64 b, .int .i64 c, .int .i64 d, .pointer (some ⟨p.blk, 0, none⟩), .slice none 0 0] := by
  rw [hW2]; simpa using (hq1.set 0 (.string (sb nm))).set 6 (.pointer (some ⟨p.blk, 0, none⟩))
 have hP2 := hP1.keep hk2 (fun e => hqp e.symm) (fun g hg e => hqs (by rw [hg, e]))
 rw [<- hW2, <- hsz2]
 have hvb : Blk (W2.alloc (.cells #[.pointer (some ⟨q, 0, none⟩)] 97)) W2.heap.size 97 #[nptr q] := Blk.new W2 97 _
 have hP3 := hP2.below (W' := W2.alloc (.cells #[.pointer (some ⟨q, 0, none⟩)] 97)) ((Below.refl _ _).alloc (Nat.le_refl _) _)
 have hq3 := hq2.alloc (.cells #[.pointer (some ⟨q, 0, none⟩)] 97)
 have hk3 : Keep (fun x => x = q) w1 (W2.alloc (.cells #[.pointer (some ⟨q, 0, none⟩)] 97)) := hk2.alloc _
 have hsz3 : w1.heap.size <= (W2.alloc (.cells #[.pointer (some ⟨q, 0, none⟩)] 97)).heap.size := by simp; omega
 obtain ⟨W3, hW3⟩ : ∃ W3, W3 = W2.alloc (.cells #[.pointer (some ⟨q, 0, none⟩)] 97) := ⟨_, rfl⟩
 rw [<- hW3] at hvb hP3 hq3 hk3 hsz3 ⊢
 clear hW2 hW3
 have hrow := hP3.row
 refine (qo0 p.sl p.kids.length at_ W2.heap.size (p.kids.map nptr) (nptr q) W3 (by omega) (by have := hF.1; simp at this; omega) rfl (fun u hu => by obtain ⟨x, _, rfl⟩ := List.mem_map.1 hu; rfl) hrow hvb (fun e => by have := (hP2.row.lt _ e).2; omega)).mono ?_
 rintro e w4 ⟨sl', rfl, hown', hk4, hor⟩
 obtain ⟨g, cap, hsl'⟩ : ∃ g cap, sl' = .slice (some ⟨g, 0, none⟩) (p.kids.length + 1) cap := by
  rcases hown'.2 with ⟨_, h0⟩ | ⟨g, cap, cur, h, _⟩
  ·omega
  ·exact ⟨g, cap, h⟩
 have p7' : w4.cell? ⟨p.blk, 7, none⟩ = some p.sl := (hk4.cell (p := ⟨p.blk, 7, none⟩) hP3.lt hps).trans (hP3.cell rfl)
 have p7f' : w4.frozen? ⟨p.blk, 7, none⟩ = false := (hk4.frozen (p := ⟨p.blk, 7, none⟩) hP3.lt hps).trans (hP3.frozen 7)
 have HSL : Hid (sl' = .slice (some ⟨g, 0, none⟩) (p.kids.length + 1) cap) := hsl'
 rw [hsl']
 have HK : Hid (p.kids = ks.map (·.blk)) := hk
 have HKL : Hid (p.kids.length = ks.length) := hkl
 clear hsl' hk hkl
 go_wp2
 go_end0
 have hk := HK.out
 have hkl := HKL.out
 have hPat : Blk w4 p.blk 136 p.cells := (hk4.block p.blk hP3.lt hps).trans hP3.at_
 refine ⟨rfl, ks, at_, sl', ⟨hk, hm, hs, hF, ?_, ?_, ?_, ?_⟩⟩
 ·refine ⟨?_, ?_⟩
  ·have := hPat.set 7 sl'
   rw [<- HSL.out]
   refine this.trans ?_
   simp [Node.cells, Node.qif]
  ·have hne : sl'.ownBlock ≠ some p.blk := by
    rcases hor with h | ⟨g', h, hg'⟩
    ·rw [h]; exact hps
    ·rw [h]; intro e; injection e with e; have := hP3.lt; omega
   have h1 := hown'.kept (row := some p.blk) (w' := w4.setCell ⟨p.blk, 7, none⟩ (.slice (some ⟨g, 0, none⟩) (p.kids.length + 1) cap)) ⟨rfl, rfl, rfl, by simp [World.setCell], fun k hk' hne' => Below.heap_setCell _ _ _ _ (fun e => hne' (by rw [e]))⟩ (.inr hne)
   have e1 : (p.qif at_ q sl').kids.length = p.kids.length + 1 := by
    have := hF.1; simp [Node.qif] at this ⊢; omega
   have e2 : (p.qif at_ q sl').kids.map nptr = (p.kids.map nptr).take at_ ++ nptr q :: (p.kids.map nptr).drop at_ := by
    simp [Node.qif]
   rw [e1, e2]; exact h1
 ·have hqb : ¬ (p.sl.ownBlock = some q) := hqs
  have h4 : Blk w4 q 136 _ := hq3.keep hk4 hqb
  have h5 := h4.other ⟨p.blk, 7, none⟩ (.slice (some ⟨g, 0, none⟩) (p.kids.length + 1) cap) hqp
  refine ⟨?_, World.ownsRow_nil _ _ _ _⟩
  refine h5.trans ?_
  simp [Node.cells, qdc, uptr]
 ·have k1 : Keep (fun x => x = p.blk \/ x = q \/ p.sl.ownBlock = some x) w w1 := Keep.new hb1
  have k2 := k1.trans (hk3.mono (fun x h => .inr (.inl h)))
  have k3 := k2.trans (hk4.mono (fun x h => .inr (.inr h)))
  exact k3.setCell (p := ⟨p.blk, 7, none⟩) (.inl rfl) _
 ·rcases hor with h | ⟨g', h, hg'⟩
  ·exact .inl h
  ·exact .inr ⟨g', h, by have := hb1.size; omega⟩
def findKey (nodes : List Node) (k : List Bs) : Option Node := nodes.find? fun n => n.key == k
theorem qdp {nodes : List Node} (T : Tree nodes) {n : Node} (hn : n ∈ nodes) {k : List Bs} (hk : n.key = k) : findKey nodes k = some n := by
 unfold findKey
 cases h : nodes.find? fun n => n.key == k with
 | none => have := List.find?_eq_none.1 h n hn; simp [hk] at this
 | some m =>
  have h1 := List.mem_of_find?_eq_some h
  have h2 := List.find?_some h
  simp at h2
  rw [T.inj m h1 n hn (by rw [h2, hk])]
theorem qkz {nodes : List Node} {k : List Bs} (h : ∀ n ∈ nodes, n.key ≠ k) : findKey nodes k = none := by
 unfold findKey; rw [List.find?_eq_none]; intro n hn; simpa using h n hn
theorem qbw {nodes : List Node} {k : List Bs} {n : Node} (h : findKey nodes k = some n) : n ∈ nodes /\ n.key = k := by
 unfold findKey at h
 exact ⟨List.mem_of_find?_eq_some h, by have := List.find?_some h; simpa using this⟩
def errIn (nodes : List Node) (k : List Bs) : Int := match findKey nodes k with
 | none => 3
 | some p => if p.leaf then 5 else if 20 <= nodes.length then 7 else 0
def qbc (nodes : List Node) (s : Bs) (ok : Bool) : Int :=
 if qar s = false then 1 else if s = [] then 2 else if ok = false then 6 else if 4 < qdm s then 8
 else if (findKey nodes (qaa s)).isSome then 4 else errIn nodes (qaa s).dropLast
theorem qpf (s a b : Bs) (hv : qar s = true) (hs : s ≠ []) (h : (¬ qhd s /\ a = [] /\ b = s) \/ (s = a ++ 47 :: b /\ ¬ qhd b)) :
  qaa s = qaa a ++ [b] /\ a.length <= s.length := by
 rcases h with ⟨h1, rfl, rfl⟩ | ⟨h1, h2⟩
 ·exact ⟨by simp only [qaa, hs, if_false, if_true]; rw [qcp _ h1]; rfl, by simp⟩
 ·have h3 : splitB s = splitB a ++ [b] := by rw [h1, qca, qcp _ h2]
  have ha : a ≠ [] := fun e => by
   subst e
   have : qaa s = splitB s := by simp [qaa, hs]
   rw [qba, this, h3] at hv
   have := qbz hv (n := []) (by simp [splitB])
   simp [qbd] at this
  exact ⟨by simp only [qaa, hs, ha, if_false]; exact h3, by rw [h1]; simp⟩
def qrg (s : ByteArray) (e : Ending) : Prop := ∃ a b : ByteArray, e = .returned (.tuple #[.string a, .string b]) /\ qaa (bl s) = qaa (bl a) ++ [bl b] /\ a.size <= s.size
theorem qih (s : ByteArray) (hs : s.size <= 2000000) (hv : qar (bl s) = true) (hne : bl s ≠ []) (w : World) :
  Calls Tryz.prog 81 #[.string s] w fun e w' => qrg s e /\ Below w.heap.size w w' := by
 refine (qqy s w hs).mono ?_
 rintro e w' ⟨⟨a, b, rfl, h⟩, n, rfl⟩
 have := qpf (bl s) (bl a) (bl b) hv hne h
 exact ⟨⟨a, b, rfl, this.1, by have h2 := this.2; rw [qb4, qb4] at h2; exact h2⟩, below_drewN (Below.refl _ _) n⟩
/-! amounts that are handed in -/
def qb3 (l : List (Int × Int)) : Bool := l.all fun x => qao x.1 x.2
set_option maxRecDepth 100000 in
set_option maxHeartbeats 1000000 in
theorem qi1 (vb c : Nat) (l : List (Int × Int)) (hl : l.length <= 100) (w : World) (hb : vb < w.heap.size)
  (hc : ∀ (j : Nat) (x : Int × Int), l[j]? = some x -> w.cell? ⟨vb, j * 2, none⟩ = some (.int .i64 x.1) /\ w.cell? ⟨vb, j * 2 + 1, none⟩ = some (.int .i64 x.2)) :
  Calls Tryz.prog 133 #[.slice (some ⟨vb, 0, none⟩) l.length c] w fun e w' => e = .returned (.bool (qb3 l)) /\ Below w.heap.size w w' := by
 obtain ⟨L, hL⟩ : ∃ L, L = l.length := ⟨_, rfl⟩
 rw [<- hL]
 rw [<- hL] at hl
 have HL : Hid (L = l.length) := hL
 clear hL
 go_enter Tryz.func133, Tryz.ntmps133
 go_wp2
 go_loopw [7] (fun i wr => ∃ k : Nat, k <= L /\ i = .int .i64 k /\ qb3 (l.take k) = true /\ Below w.heap.size w wr) (fun i _ => L - (intOf i).toNat)
 case atStart => exact ⟨0, Nat.zero_le _, rfl, rfl, Below.refl _ _⟩
 case round =>
  obtain ⟨k, hk, rfl, hf, hbel⟩ := hrel
  have HF : Hid (qb3 (l.take k) = true) := hf
  clear hf
  by_cases hlt : k < L
  ·have hlt' : k < l.length := by rw [<- HL.out]; exact hlt
   obtain ⟨x, hx⟩ : ∃ x, l[k]? = some x := ⟨_, List.getElem?_eq_getElem hlt'⟩
   have HX : Hid (l.take (k + 1) = l.take k ++ [x]) := by
    rw [List.take_succ_eq_append_getElem hlt']; rw [List.getElem?_eq_getElem hlt'] at hx; cases hx; rfl
   have HM : Hid (x ∈ l) := List.mem_of_getElem? hx
   obtain ⟨c0, c1⟩ := hc k x hx
   replace c0 := (hbel.cell (p := ⟨vb, k * 2, none⟩) hb).trans c0
   replace c1 := (hbel.cell (p := ⟨vb, k * 2 + 1, none⟩) hb).trans c1
   clear hx hc
   have hal := fun W => qin x.1 x.2 W
   cases hfx : qao x.1 x.2
   ·rw [hfx] at hal
    go_wp2_with (go_at_call 147; refine (hal _).mono ?_; rintro e w1 ⟨rfl, hb1⟩)
    go_ret
    refine ⟨qa9 ?_, qac (hbel.alloc hbel.size _) hb1⟩
    symm; unfold qb3; rw [List.all_eq_false]; exact ⟨x, HM.out, by simp [hfx]⟩
   ·rw [hfx] at hal
    go_wp2_with (go_at_call 147; refine (hal _).mono ?_; rintro e w1 ⟨rfl, hb1⟩)
    go_roundw
    case rel => exact ⟨k + 1, by omega, by go_num, by rw [HX.out]; have := HF.out; unfold qb3 at this ⊢; rw [List.all_append, this]; simp [hfx], qac (hbel.alloc hbel.size _) hb1⟩
    case measure => simp [intOf]; omega
  ·go_wp2
   go_ret
   have := HF.out
   rw [List.take_of_length_le (by rw [<- HL.out]; omega)] at this
   exact ⟨qa9 this.symm, hbel⟩
set_option maxHeartbeats 1000000 in
theorem qmi {nodes : List Node} (T : Tree nodes) (w : World) (hN : ∀ n ∈ nodes, qan w n) {r : Node} (hr : r ∈ nodes) (hrk : r.key = []) (bt : Nat) (ht : w.cell? ⟨bt, 0, none⟩ = some (nptr r.blk)) (k : List Bs) :
  Calls Tryz.prog 135 #[.pointer (some ⟨bt, 0, none⟩), match findKey nodes k with | none => .pointer none | some p => nptr p.blk] w fun e w' => e = .returned (.int .i64 (errIn nodes k)) /\ Below w.heap.size w w' := by
 unfold errIn
 cases hf : findKey nodes k with
 | none =>
  go_enter Tryz.func135, Tryz.ntmps135
  go_wp2
  go_ret
  exact ⟨rfl, Below.refl _ _⟩
 | some p =>
  obtain ⟨hp, _⟩ := qbw hf
  obtain ⟨ch, K⟩ := T.ch
  have hfull := qun T K hr (by have := qoe T K hr; omega) bt w hN ht
  rw [qt5 T K hr hrk] at hfull
  have c1 : w.cell? ⟨p.blk, 1, none⟩ = some (.bool p.leaf) := (hN p hp).cell rfl
  have hleaf := qko p.blk p.leaf w c1
  unfold nptr
  clear hf
  cases hl : p.leaf
  ·rw [hl] at hleaf
   by_cases h20 : 20 <= nodes.length
   ·simp only [h20, decide_true] at hfull
    simp only [hl, Bool.false_eq_true, if_false, h20, if_true]
    go_enter Tryz.func135, Tryz.ntmps135
    go_wp2_with (first | (go_at_call 105; refine hleaf.mono ?_; rintro e w1 ⟨rfl, hw1⟩; subst hw1) | (go_at_call 182; refine hfull.mono ?_; rintro e w1 ⟨rfl, hb1⟩))
    go_ret
    exact ⟨rfl, hb1⟩
   ·simp only [h20, decide_false] at hfull
    simp only [hl, Bool.false_eq_true, if_false, h20]
    go_enter Tryz.func135, Tryz.ntmps135
    go_wp2_with (first | (go_at_call 105; refine hleaf.mono ?_; rintro e w1 ⟨rfl, hw1⟩; subst hw1) | (go_at_call 182; refine hfull.mono ?_; rintro e w1 ⟨rfl, hb1⟩))
    go_ret
    exact ⟨rfl, hb1⟩
  ·rw [hl] at hleaf
   simp only [hl, if_true]
   go_enter Tryz.func135, Tryz.ntmps135
   go_wp2_with (go_at_call 105; refine hleaf.mono ?_; rintro e w1 ⟨rfl, hw1⟩; subst hw1)
   go_ret
   exact ⟨rfl, Below.refl _ _⟩
theorem qfh {nodes : List Node} (T : Tree nodes) {r : Node} (hr : r ∈ nodes) (hrk : r.key = []) (s : ByteArray) (hs : s.size <= 2000000) (w : World) (hN : ∀ n ∈ nodes, qan w n) (v : Value)
  (hv : v = match findKey nodes (qaa (bl s)) with | none => .pointer none | some p => nptr p.blk) :
  Calls Tryz.prog 63 #[nptr r.blk, .string s] w fun e w' => e = .returned v /\ Below w.heap.size w w' := by
 refine (quc T hr hrk s hs w hN).mono ?_
 rintro e w' ⟨(⟨n, hn, hnk, rfl⟩ | ⟨hno, rfl⟩), hb⟩
 ·rw [qdp T hn hnk] at hv; exact ⟨by rw [hv], hb⟩
 ·rw [qkz hno] at hv; exact ⟨by rw [hv], hb⟩
structure Ent where
 key : List Bs
 leaf : Bool
 n0 : Int
 n1 : Int
 b0 : Int
 b1 : Int
def Node.ent (n : Node) : Ent := ⟨n.key, n.leaf, n.n0, n.n1, n.b0, n.b1⟩
def qcv (L : List Ent) (k : List Bs) : Option Ent := L.find? fun n => n.key == k
def errInE (L : List Ent) (k : List Bs) : Int := match qcv L k with
 | none => 3
 | some p => if p.leaf then 5 else if 20 <= L.length then 7 else 0
def errE (L : List Ent) (s : Bs) (ok : Bool) : Int :=
 if qar s = false then 1 else if s = [] then 2 else if ok = false then 6 else if 4 < qdm s then 8
 else if (qcv L (qaa s)).isSome then 4 else errInE L (qaa s).dropLast
theorem qft (nodes : List Node) (k : List Bs) : qcv (nodes.map Node.ent) k = (findKey nodes k).map Node.ent := by
 unfold qcv findKey
 induction nodes with
 | nil => rfl
 | cons n l ih =>
  simp only [List.map_cons, List.find?_cons]
  have : (Node.ent n).key = n.key := rfl
  rw [this]
  cases n.key == k <;> simp [ih]
theorem qok (nodes : List Node) (s : Bs) (ok : Bool) : errE (nodes.map Node.ent) s ok = qbc nodes s ok := by
 unfold errE qbc errInE errIn
 rw [qft, qft]
 cases findKey nodes (qaa s) <;> cases findKey nodes (qaa s).dropLast <;> simp [Node.ent]
end Go.Proofs.YtphclnolomgjoaaGreatDoor
