import Derived.Test.YtphclnolomgjoaaGreatDoorY02
import Derived.Test.YtphclnolomgjoaaGreatDoorY12
import Derived.Test.YtphclnolomgjoaaGreatDoorB37
import Derived.Test.YtphclnolomgjoaaGreatDoorY01
import Derived.Test.YtphclnolomgjoaaGreatDoorB32
import Derived.Carry
import Derived.Lay
set_option linter.unusedVariables false
set_option linter.unusedSimpArgs false
namespace Go.Proofs.YtphclnolomgjoaaGreatDoor
open Go.ChangeShapes Go.WideShapes Go.ChangeAt Go.RowKit
set_option maxRecDepth 100000 in
theorem contractKept (H : Type) (enc : TypeId × Value → H) (W : World) (base : Nat) (args : Array Value) (ds gs : List (DataW H)) (before : List MemPlace)
    (hval : ∀ (j : Nat) t v, Tryz.f11.params[j]? = some t → args[j]? = some v → Value.okWide Tryz.prog W .any base t v)
    (hW : DataW.Whole enc Tryz.prog Tryz.f11.params.toList Rows.keptSpec.vars false W args.toList ds gs before) (hk : Rows.uptoSmall H (ds ++ gs) = true) :
    Calls Tryz.prog 11 args W fun e W' => ∃ v, e = .returned v ∧ Rows.keptSpec.post enc Tryz.prog Tryz.f11 false true false false W args v W' := by
  have hW' := hW
  obtain ⟨p, q, hA0, hV, rfl, hfz, hnd⟩ := hW
  have hA : DataW.TrodAll enc Tryz.prog W 0 (fun _ => true) true Tryz.f11.params.toList args.toList ds p := hA0
  rw [Tryz.params11] at hA hval
  obtain ⟨v0, vs0, d0, ds0, p0, q0, hargs, rfl, rfl, h0, r0⟩ := trodAll_cons hA
  obtain ⟨v1, vs1, d1, ds1, p1, q1, hargs1, rfl, rfl, h1, r1⟩ := trodAll_cons r0
  obtain ⟨v2, vs2, d2, ds2, p2, q2, hargs2, rfl, rfl, h2, r2⟩ := trodAll_cons r1
  obtain ⟨v3, vs3, d3, ds3, p3, q3, hargs3, rfl, rfl, h3, r3⟩ := trodAll_cons r2
  obtain ⟨rfl, rfl, rfl⟩ := trodAll_nil r3
  subst hargs3 hargs2 hargs1
  obtain rfl : args = #[v0, v1, v2, v3] := by cases args; simp_all
  obtain ⟨rfl, rfl⟩ := trodVars_none hV
  have hb : Rows.uptoBulk d3 ≤ 1048576 := by
    have := of_decide_eq_true hk
    simp only [List.append_nil, Rows.uptoBulkAll] at this
    omega
  obtain ⟨fu0, hf0⟩ := id h0
  obtain ⟨fu1, hf1⟩ := id h1
  obtain ⟨fu2, hf2⟩ := id h2
  obtain ⟨fu3, hf3⟩ := id h3
  have c0 : v0.cells.toList = [v0] := by
    obtain ⟨a, l, c, e⟩ := okWide_slice Tryz.underlying25 (hval 0 25 v0 rfl rfl)
    rw [e]; rfl
  have c1 : v1.cells.toList = [v1] := by
    obtain ⟨a, l, c, e⟩ := okWide_slice Tryz.underlying26 (hval 1 26 v1 rfl rfl)
    rw [e]; rfl
  have c2 : v2.cells.toList = [v2] := by
    obtain ⟨a, l, c, e⟩ := okWide_slice Tryz.underlying26 (hval 2 26 v2 rfl rfl)
    rw [e]; rfl
  obtain ⟨aq, lq, cq, q, rfl, hq1, hq2, hq⟩ := open_ints hf0 c0
  obtain ⟨as_, ls, cs, S, rfl, hs1, hs2, hS⟩ := qq9 hf1 c1
  obtain ⟨am, lm, cm, M, rfl, hm1, hm2, hM⟩ := qq9 hf2 c2
  obtain ⟨wrong, rfl⟩ := okWide_string Tryz.underlying9 (hval 3 9 v3 rfl rfl)
  have hws : wrong.size ≤ 1500000 := by
    obtain ⟨s, e2, es, _⟩ := DataW.trod_string Tryz.underlying9 hf3
    have e3 : [Value.string wrong] = [Value.string s] := e2
    injection e3 with e3
    injection e3 with e3
    subst e3
    have h9 : Rows.uptoBulk (DataW.lit (H := H) (.string wrong.data.toList)) = wrong.data.toList.length + 1 := by simp only [Rows.uptoBulk]
    have h8 : wrong.data.toList.length = wrong.size := by rw [Array.length_toList]; rfl
    injection es with es1 es2
    rw [es1] at hb
    omega
  refine (kept_walk hq hq1 hq2 hS hs1 hs2 hM hm1 hm2 wrong hws).mono fun e W' ⟨he, hbel⟩ => ?_
  subst he
  have hlt : ∀ x ∈ p0 ++ (p1 ++ (p2 ++ (p3 ++ []))), x.block < W.heap.size := fun x hx => hW'.lt x (by simpa using hx)
  exact ⟨_, rfl, _, _, _, [], p0 ++ (p1 ++ (p2 ++ (p3 ++ []))), [], hW', trodAll_cons_mk (shut_bool Tryz.underlying4 _) trodAll_mk0,
    trodAll_cons_mk (Below.trod laidOut (by kernel_rfl) (of_decide_eq_true (by kernel_rfl)) h0 hbel (fun x hx => hlt x (by simp [hx]))) (trodAll_cons_mk (Below.trod laidOut (by kernel_rfl) (of_decide_eq_true (by kernel_rfl)) h1 hbel (fun x hx => hlt x (by simp [hx]))) (trodAll_cons_mk (Below.trod laidOut (by kernel_rfl) (of_decide_eq_true (by kernel_rfl)) h2 hbel (fun x hx => hlt x (by simp [hx]))) (trodAll_cons_mk (Below.trod laidOut (by kernel_rfl) (of_decide_eq_true (by kernel_rfl)) h3 hbel (fun x hx => hlt x (by simp [hx]))) trodAll_mk0))), rfl, hbel.frame _, fun h => by cases h⟩
def argsKept : Array Value := #[.slice none 0 0, .slice none 0 0, .slice none 0 0, .string ⟨#[]⟩]
theorem laid_metKept (os : Os) : laidMetH Tryz.prog Rows.keptUptoRow.laid ((World.laidAll Tryz.prog os Rows.keptUptoRow.laid).forCall (fun _ _ => 0) ⟨#[], argsKept, []⟩).memory := by
  rw [MakeChecks.laidMetH_plain _ _ _ (by kernel_rfl)]
  exact laidMet_laidAll _ (by kernel_rfl) (by kernel_rfl)
theorem readsKept (os : Os) {H : Type} (enc : TypeId × Value → H) : ∃ places, DataW.whole enc Tryz.prog ((World.laidAll Tryz.prog os Rows.keptUptoRow.laid).forCall (fun _ _ => 0) ⟨#[], argsKept, []⟩).memory Tryz.f11.params.toList Rows.keptSpec.vars false argsKept.toList 8 = some ([.nil, .nil, .nil, .lit (.string [])], [], places) :=
  ⟨[], by kernel_rfl⟩
set_option maxRecDepth 100000 in
theorem liftedUptoKept (os : Os) (started : os.Started) (H : Type) (enc : TypeId × Value → H) (F : Stop.Interp) :
    ReturnsInHanded {} Tryz.checked os 11 .any ((Rows.OpenSpec.upto Rows.keptSpec).preRow enc Tryz.prog Tryz.f11 Rows.keptUptoRow.domain false Rows.keptUptoRow.laid) (((Rows.OpenSpec.upto Rows.keptSpec).at F).post enc Tryz.prog Tryz.f11 false true false false) := by
  obtain ⟨places, hx⟩ := readsKept os enc
  refine returnsInHanded_of_row (C := Tryz.checked) (s := Rows.OpenSpec.upto Rows.keptSpec) own started (by kernel_rfl) Tryz.func11
    (qhb (enc := enc) (C := Tryz.checked) (World.laidAll Tryz.prog os Rows.keptUptoRow.laid) argsKept (World.laidAll_os _ _ _) (World.shaped_of_ZipB (by kernel_rfl) (by kernel_rfl)) (by kernel_rfl)
      (OpenSpec.preRow_of_cond 8 hx (by kernel_rfl) (fun k hk => by cases hk; kernel_rfl) (by kernel_rfl) (laid_metKept os))) ?_
  intro W base args ds gs before hval hW _ hcond _ hL _ _
  exact contractKept H enc W base args ds gs before hval hW (hcond _ rfl)
theorem saidUptoKept : Rows.KeptUptoSaid :=
  OpenClaim.holds_of_cond 11 Tryz.f11 rfl rfl rfl rfl rfl rfl rfl ⟨rfl, rfl, rfl, rfl, rfl⟩ rfl rfl rfl rfl rfl (by kernel_rfl) Tryz.func11 (by kernel_rfl)
    (of_decide_eq_true (by kernel_rfl)) (by unfold Func.isWrapper; first | (rw [if_pos (by decide +kernel)]; kernel_rfl) | (rw [if_neg (by decide +kernel)]; exact ⟨rfl, rfl⟩))
    (fun os started H enc _ F => by rw [OpenClaim.pre_eq_preRow]; exact liftedUptoKept os started H enc F)
theorem plainKept (f : FuncId) (fn : Func) (hf : Tryz.pinned.checked.prog.funcNamed "borrow/borrowkeep.Kept" = some f) (hfn : Tryz.pinned.checked.prog.funcs[f]? = some fn) :
    false = Tryz.pinned.checked.prog.looks [] ∧ ∀ (j : Nat) t, fn.params[j]? = some t → Tryz.pinned.checked.prog.wantsStandIn t = false := by
  obtain rfl : f = 11 := Option.some.inj ((show Tryz.prog.funcNamed "borrow/borrowkeep.Kept" = some 11 by kernel_rfl).symm.trans hf) |>.symm
  obtain rfl : fn = Tryz.f11 := (Option.some.inj (Tryz.func11.symm.trans hfn)).symm
  refine ⟨by kernel_rfl, fun j t ht => ?_⟩
  rw [Tryz.params11] at ht
  have hm := Array.mem_of_getElem? ht
  simp only [List.mem_toArray, List.mem_cons, List.mem_nil_iff, or_false] at hm
  rcases hm with rfl | rfl | rfl | rfl
  · exact (show Tryz.prog.wantsStandIn 25 = false by kernel_rfl)
  · exact (show Tryz.prog.wantsStandIn 26 = false by kernel_rfl)
  · exact (show Tryz.prog.wantsStandIn 26 = false by kernel_rfl)
  · exact (show Tryz.prog.wantsStandIn 9 = false by kernel_rfl)
theorem keptUptoCard : Rows.KeptUptoCardSaid :=
  Claim7.holds_tied_plain_at .later [] _ _ _ _ saidUptoKept (fun _ h => by cases h) (by kernel_rfl) (fun _ h => by cases h) keptUpto_row_tie rfl ⟨rfl, rfl⟩ (by kernel_rfl) rfl plainKept (by kernel_rfl)
end Go.Proofs.YtphclnolomgjoaaGreatDoor
