import Derived.Test.YtphclnolomgjoaaGreatDoorB37
import Derived.Test.YtphclnolomgjoaaGreatDoorZ01
import Derived.Test.YtphclnolomgjoaaGreatDoorB32
import Derived.Test.YtphclnolomgjoaaGreatDoorZ09
import Derived.Carry
import Derived.Lay
set_option linter.unusedVariables false
set_option linter.unusedSimpArgs false
namespace Go.Proofs.YtphclnolomgjoaaGreatDoor
open Go.ChangeShapes Go.WideShapes Go.ChangeAt Go.RowKit
theorem qk4 : Tryz.prog.cellsOf 32 = 4 := by kernel_rfl
section
variable {H : Type} {enc : TypeId × Value → H} {w : World} {base : Nat} {spare : Nat → Bool} {held : Bool}
theorem wf64 {n : Int} (h : Lit.wf (.int .i64 n) = true) : I64 n := by
  simp only [Lit.wf, Bool.and_eq_true, decide_eq_true_eq] at h
  rw [show IntKind.i64.min = -9223372036854775808 by decide, show IntKind.i64.max = 9223372036854775807 by decide] at h
  exact h
theorem open_int {fuel : Nat} {cs : List Value} {x : DataW H × List MemPlace} (h : DataW.trod enc Tryz.prog w base spare held fuel 3 cs = some x) : ∃ n, cs = [.int .i64 n] ∧ I64 n := by
  obtain ⟨n, e, _, wt⟩ := DataW.trod_int Tryz.underlying3 h
  exact ⟨n, e, wf64 wt⟩
theorem open_ints {fuel : Nat} {v : Value} {d : DataW H} {ps : List MemPlace} (h : DataW.trod enc Tryz.prog w 0 spare held fuel 25 v.cells.toList = some (d, ps)) (hv : v.cells.toList = [v]) :
    ∃ ao len cap q, v = .slice ao len cap ∧ len ≤ cap ∧ cap ≤ maxLen ∧ QIn w ao len q := by
  rw [hv] at h
  rcases Deep.open_slice Tryz.underlying25 h with ⟨hc, hx⟩ | ⟨a, len, cap, m, n, D, Pl, hc, _, hl, hm, hmm, hx, hel⟩
  · simp at hc hx
    exact ⟨none, 0, 0, fun _ => 0, hc, Nat.le_refl _, Nat.zero_le _, fun i hi => by omega⟩
  · have hlm : len ≤ m := by rw [hmm]; split <;> omega
    obtain ⟨q, hq⟩ := Deep.choose_lt (α := Int) (n := len) (p := fun i o => w.cell? (a.add (i * 1 + 0)) = some (.int .i64 o) ∧ I64 o) (fun i hi => by
      obtain ⟨cs', h1, h2⟩ := hel i (by omega)
      rw [qo4] at h1
      obtain ⟨_, hlen, hcell⟩ := World.cells?_some h1
      obtain ⟨o, rfl, ho⟩ := open_int h2
      refine ⟨o, ?_, ho⟩
      have := hcell 0 (by omega)
      rw [Deep.add_add] at this
      rw [this]; rfl)
    refine ⟨some a, len, cap, q, by simpa using hc, hl, hm, fun i hi => ?_⟩
    have h0 := (hq 0 (by omega)).1
    have hsp := World.cell?_spot h0
    have hal : a.block < w.heap.size := by
      rcases Nat.lt_or_ge a.block w.heap.size with h | h
      · exact h
      · rw [World.cell?] at h0; simp [Addr.add, Array.getElem?_eq_none h] at h0
    obtain ⟨b, off, sp⟩ := a
    simp [Addr.add] at hsp
    subst hsp
    have hh := (hq i hi).1
    rw [Addr.add_lit] at hh
    refine ⟨b, off, rfl, hal, ?_, (hq i hi).2⟩
    simpa using hh
theorem qtj {P : Program} {fs : Array Field} (u32 : P.underlying 32 = some (.struct fs)) (hfs : (fs.map fun f => (f.type, f.offset)) = #[(3, 0), (3, 1), (3, 2), (3, 3)]) (u3 : P.underlying 3 = some (.int .i64)) (qk4 : P.cellsOf 32 = 4) (qo4 : P.cellsOf 3 = 1) {fuel : Nat} {cs : List Value} {x : DataW H × List MemPlace} (h : DataW.trod enc P w base spare held fuel 32 cs = some x) :
    ∃ o : Stp, cs = [.int .i64 o.k, .int .i64 o.a, .int .i64 o.b, .int .i64 o.c] ∧ I64 o.k ∧ I64 o.a ∧ I64 o.b ∧ I64 o.c := by
  obtain ⟨xs, k, rfl, rfl, hl, hx, hf⟩ := DataW.trod_struct u32 h
  rw [qk4] at hl
  have hsz : fs.size = 4 := by have := congrArg Array.size hfs; simpa using this
  rw [hsz] at hx
  have hf' : ∀ (i : Nat) (t off : Nat), (#[(3, 0), (3, 1), (3, 2), (3, 3)] : Array (Nat × Nat))[i]? = some (t, off) → DataW.trod enc P w base spare held k t ((cs.drop off).take (P.cellsOf t)) = xs[i]? := fun i t off hi => by
    rw [← hfs, Array.getElem?_map] at hi
    obtain ⟨f, h1, h2⟩ := Option.map_eq_some_iff.1 hi
    simp only [Prod.mk.injEq] at h2
    rw [← h2.1, ← h2.2]
    exact hf i f h1
  match cs, hl, xs, hx with
  | [v0, v1, v2, v3], _, [y0, y1, y2, y3], _ =>
    have g0 := hf' 0 _ _ rfl
    have g1 := hf' 1 _ _ rfl
    have g2 := hf' 2 _ _ rfl
    have g3 := hf' 3 _ _ rfl
    simp [qo4] at g0 g1 g2 g3
    obtain ⟨k0, e0, _, w0⟩ := DataW.trod_int u3 g0
    obtain ⟨k1, e1, _, w1⟩ := DataW.trod_int u3 g1
    obtain ⟨k2, e2, _, w2⟩ := DataW.trod_int u3 g2
    obtain ⟨k3, e3, _, w3⟩ := DataW.trod_int u3 g3
    simp at e0 e1 e2 e3
    subst e0 e1 e2 e3
    exact ⟨⟨k0, k1, k2, k3⟩, rfl, wf64 w0, wf64 w1, wf64 w2, wf64 w3⟩
theorem qq9 {fuel : Nat} {v : Value} {d : DataW H} {ps : List MemPlace} (h : DataW.trod enc Tryz.prog w 0 spare held fuel 26 v.cells.toList = some (d, ps)) (hv : v.cells.toList = [v]) :
    ∃ ao len cap S, v = .slice ao len cap ∧ len ≤ cap ∧ cap ≤ maxLen ∧ StIn w ao len S := by
  rw [hv] at h
  rcases Deep.open_slice Tryz.underlying26 h with ⟨hc, hx⟩ | ⟨a, len, cap, m, n, D, Pl, hc, _, hl, hm, hmm, hx, hel⟩
  · simp at hc hx
    exact ⟨none, 0, 0, fun _ => ⟨0, 0, 0, 0⟩, hc, Nat.le_refl _, Nat.zero_le _, fun i hi => by omega⟩
  · have hlm : len ≤ m := by rw [hmm]; split <;> omega
    have : Inhabited Stp := ⟨⟨0, 0, 0, 0⟩⟩
    obtain ⟨S, hS⟩ := Deep.choose_lt (α := Stp) (n := len) (p := fun i o => (w.cell? (a.add (i * 4 + 0)) = some (.int .i64 o.k) ∧ w.cell? (a.add (i * 4 + 1)) = some (.int .i64 o.a) ∧ w.cell? (a.add (i * 4 + 2)) = some (.int .i64 o.b) ∧ w.cell? (a.add (i * 4 + 3)) = some (.int .i64 o.c)) ∧ I64 o.k ∧ I64 o.a ∧ I64 o.b ∧ I64 o.c) (fun i hi => by
      obtain ⟨cs', h1, h2⟩ := hel i (by omega)
      rw [qk4] at h1
      obtain ⟨_, hlen, hcell⟩ := World.cells?_some h1
      obtain ⟨o, rfl, ho⟩ := qtj Tryz.underlying32 (by kernel_rfl) Tryz.underlying3 qk4 qo4 h2
      have hc : ∀ j, j < 4 → w.cell? (a.add (i * 4 + j)) = [Value.int .i64 o.k, .int .i64 o.a, .int .i64 o.b, .int .i64 o.c][j]? := fun j hj => by
        have := hcell j hj
        rw [Deep.add_add] at this
        exact this
      exact ⟨o, ⟨hc 0 (by omega), hc 1 (by omega), hc 2 (by omega), hc 3 (by omega)⟩, ho⟩)
    refine ⟨some a, len, cap, S, by simpa using hc, hl, hm, fun i hi => ?_⟩
    have h0 := (hS 0 (by omega)).1.1
    have hsp := World.cell?_spot h0
    have hal : a.block < w.heap.size := by
      rcases Nat.lt_or_ge a.block w.heap.size with h | h
      · exact h
      · rw [World.cell?] at h0; simp [Addr.add, Array.getElem?_eq_none h] at h0
    obtain ⟨b, off, sp⟩ := a
    simp [Addr.add] at hsp
    subst hsp
    have hh := (hS i hi).1
    simp only [Addr.add_lit] at hh
    exact ⟨b, off, rfl, hal, by simpa using hh.1, hh.2.1, hh.2.2.1, hh.2.2.2, (hS i hi).2⟩
end
end Go.Proofs.YtphclnolomgjoaaGreatDoor
namespace Go.Proofs.YtphclnolomgjoaaGreatDoor
open Go.ChangeShapes Go.WideShapes Go.ChangeAt Go.RowKit
set_option maxRecDepth 100000 in
theorem contractGone (H : Type) (enc : TypeId × Value → H) (W : World) (base : Nat) (args : Array Value) (ds gs : List (DataW H)) (before : List MemPlace)
    (hval : ∀ (j : Nat) t v, Tryz.f12.params[j]? = some t → args[j]? = some v → Value.okWide Tryz.prog W .any base t v)
    (hW : DataW.Whole enc Tryz.prog Tryz.f12.params.toList Rows.goneSpec.vars false W args.toList ds gs before) :
    Calls Tryz.prog 12 args W fun e W' => ∃ v, e = .returned v ∧ Rows.goneSpec.post enc Tryz.prog Tryz.f12 false true false false W args v W' := by
  have hW' := hW
  obtain ⟨p, q, hA0, hV, rfl, hfz, hnd⟩ := hW
  have hA : DataW.TrodAll enc Tryz.prog W 0 (fun _ => true) true Tryz.f12.params.toList args.toList ds p := hA0
  rw [Tryz.params12] at hA hval
  obtain ⟨v0, vs0, d0, ds0, p0, q0, hargs, rfl, rfl, h0, r0⟩ := trodAll_cons hA
  obtain ⟨v1, vs1, d1, ds1, p1, q1, hargs1, rfl, rfl, h1, r1⟩ := trodAll_cons r0
  obtain ⟨v2, vs2, d2, ds2, p2, q2, hargs2, rfl, rfl, h2, r2⟩ := trodAll_cons r1
  obtain ⟨rfl, rfl, rfl⟩ := trodAll_nil r2
  subst hargs2 hargs1
  obtain rfl : args = #[v0, v1, v2] := by cases args; simp_all
  obtain ⟨rfl, rfl⟩ := trodVars_none hV
  obtain ⟨fu0, hf0⟩ := id h0
  obtain ⟨fu1, hf1⟩ := id h1
  obtain ⟨fu2, hf2⟩ := id h2
  have c0 : v0.cells.toList = [v0] := by
    obtain ⟨a, l, c, e⟩ := okWide_slice Tryz.underlying25 (hval 0 25 v0 rfl rfl)
    rw [e]; rfl
  have c1 : v1.cells.toList = [v1] := by
    obtain ⟨a, l, c, e⟩ := okWide_slice Tryz.underlying26 (hval 1 26 v1 rfl rfl)
    rw [e]; rfl
  obtain ⟨aq, lq, cq, q, rfl, hq1, hq2, hq⟩ := open_ints hf0 c0
  obtain ⟨as_, ls, cs, S, rfl, hs1, hs2, hS⟩ := qq9 hf1 c1
  have hint : ∀ (j : Nat) (v : Value) (f : Nat) (y : DataW H × List MemPlace), Value.okWide Tryz.prog W .any base 3 v → DataW.trod enc Tryz.prog W 0 (fun _ => true) true f 3 v.cells.toList = some y → ∃ n, v = .int .i64 n ∧ I64 n := fun j v f y hv hf => by
    obtain ⟨n, e⟩ := okWide_int Tryz.underlying3 hv
    obtain ⟨n', e', hn⟩ := open_int hf
    rw [e] at e'
    have e2 : [Value.int .i64 n] = [Value.int .i64 n'] := e'
    injection e2 with e2
    injection e2 with _ e2
    exact ⟨n, e, e2 ▸ hn⟩
  obtain ⟨n2, rfl, i2⟩ := hint 2 v2 fu2 _ (hval 2 3 v2 rfl rfl) hf2
  refine (gone_walk hq hq1 hq2 hS hs1 hs2 i2).mono fun e W' ⟨he, hbel⟩ => ?_
  subst he
  have hlt : ∀ x ∈ p0 ++ (p1 ++ (p2 ++ [])), x.block < W.heap.size := fun x hx => hW'.lt x (by simpa using hx)
  exact ⟨_, rfl, _, _, _, [], p0 ++ (p1 ++ (p2 ++ [])), [], hW', trodAll_cons_mk (shut_bool Tryz.underlying4 _) trodAll_mk0,
    trodAll_cons_mk (Below.trod laidOut (by kernel_rfl) (of_decide_eq_true (by kernel_rfl)) h0 hbel (fun x hx => hlt x (by simp [hx]))) (trodAll_cons_mk (Below.trod laidOut (by kernel_rfl) (of_decide_eq_true (by kernel_rfl)) h1 hbel (fun x hx => hlt x (by simp [hx]))) (trodAll_cons_mk (Below.trod laidOut (by kernel_rfl) (of_decide_eq_true (by kernel_rfl)) h2 hbel (fun x hx => hlt x (by simp [hx]))) trodAll_mk0)), rfl, hbel.frame _, fun h => by cases h⟩
def argsGone : Array Value := #[.slice none 0 0, .slice none 0 0, .int .i64 0]
theorem laid_metGone (os : Os) : laidMetH Tryz.prog Rows.goneRow.laid ((World.laidAll Tryz.prog os Rows.goneRow.laid).forCall (fun _ _ => 0) ⟨#[], argsGone, []⟩).memory := by
  rw [MakeChecks.laidMetH_plain _ _ _ (by kernel_rfl)]
  exact laidMet_laidAll _ (by kernel_rfl) (by kernel_rfl)
theorem readsGone (os : Os) {H : Type} (enc : TypeId × Value → H) : ∃ places, DataW.whole enc Tryz.prog ((World.laidAll Tryz.prog os Rows.goneRow.laid).forCall (fun _ _ => 0) ⟨#[], argsGone, []⟩).memory Tryz.f12.params.toList Rows.goneSpec.vars false argsGone.toList 8 = some ([.nil, .nil, .lit (.int .i64 0)], [], places) :=
  ⟨[], by kernel_rfl⟩
set_option maxRecDepth 100000 in
theorem liftedGone (os : Os) (started : os.Started) (H : Type) (enc : TypeId × Value → H) (F : Stop.Interp) :
    ReturnsInHanded {} Tryz.checked os 12 .any ((OpenSpec.ofChange Rows.goneSpec).preRow enc Tryz.prog Tryz.f12 Rows.goneRow.domain false Rows.goneRow.laid) (((OpenSpec.ofChange Rows.goneSpec).at F).post enc Tryz.prog Tryz.f12 false true false false) := by
  obtain ⟨places, hx⟩ := readsGone os enc
  refine returnsInHanded_of_row (C := Tryz.checked) (s := OpenSpec.ofChange Rows.goneSpec) own started (by kernel_rfl) Tryz.func12
    (qhb (enc := enc) (C := Tryz.checked) (World.laidAll Tryz.prog os Rows.goneRow.laid) argsGone (World.laidAll_os _ _ _) (World.shaped_of_ZipB (by kernel_rfl) (by kernel_rfl)) (by kernel_rfl)
      (OpenSpec.preRow_of_cond 8 hx (by kernel_rfl) (fun k hk => by cases hk) (by kernel_rfl) (laid_metGone os))) ?_
  intro W base args ds gs before hval hW _ hcond _ hL _ _
  exact contractGone H enc W base args ds gs before hval hW
theorem saidGone : Rows.GoneSaid :=
  OpenClaim.holds_of_cond 12 Tryz.f12 rfl rfl rfl rfl rfl rfl rfl ⟨rfl, rfl, rfl, rfl, rfl⟩ rfl rfl rfl rfl rfl (by kernel_rfl) Tryz.func12 (by kernel_rfl)
    (of_decide_eq_true (by kernel_rfl)) (by unfold Func.isWrapper; first | (rw [if_pos (by decide +kernel)]; kernel_rfl) | (rw [if_neg (by decide +kernel)]; exact ⟨rfl, rfl⟩))
    (fun os started H enc _ F => by rw [OpenClaim.pre_eq_preRow]; exact liftedGone os started H enc F)
theorem plainGone (f : FuncId) (fn : Func) (hf : Tryz.pinned.checked.prog.funcNamed "borrow/borrowkeep.Gone" = some f) (hfn : Tryz.pinned.checked.prog.funcs[f]? = some fn) :
    false = Tryz.pinned.checked.prog.looks [] ∧ ∀ (j : Nat) t, fn.params[j]? = some t → Tryz.pinned.checked.prog.wantsStandIn t = false := by
  obtain rfl : f = 12 := Option.some.inj ((show Tryz.prog.funcNamed "borrow/borrowkeep.Gone" = some 12 by kernel_rfl).symm.trans hf) |>.symm
  obtain rfl : fn = Tryz.f12 := (Option.some.inj (Tryz.func12.symm.trans hfn)).symm
  refine ⟨by kernel_rfl, fun j t ht => ?_⟩
  rw [Tryz.params12] at ht
  have hm := Array.mem_of_getElem? ht
  simp only [List.mem_toArray, List.mem_cons, List.mem_nil_iff, or_false] at hm
  rcases hm with rfl | rfl | rfl
  · exact (show Tryz.prog.wantsStandIn 25 = false by kernel_rfl)
  · exact (show Tryz.prog.wantsStandIn 26 = false by kernel_rfl)
  all_goals exact (show Tryz.prog.wantsStandIn 3 = false by kernel_rfl)
theorem goneCard : Rows.GoneCardSaid :=
  Claim7.holds_tied_plain_at .later [] _ _ _ _ saidGone (fun _ h => by cases h) (by kernel_rfl) (fun _ h => by cases h) gone_row_tie rfl ⟨rfl, rfl⟩ (by kernel_rfl) rfl plainGone (by kernel_rfl)
end Go.Proofs.YtphclnolomgjoaaGreatDoor
