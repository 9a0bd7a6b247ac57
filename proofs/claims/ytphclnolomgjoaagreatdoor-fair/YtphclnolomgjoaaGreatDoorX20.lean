import Derived.Test.YtphclnolomgjoaaGreatDoorX02
import Derived.Test.YtphclnolomgjoaaGreatDoorX19
import Derived.Test.YtphclnolomgjoaaGreatDoorB37
import Derived.Test.YtphclnolomgjoaaGreatDoorX01
import Derived.Test.YtphclnolomgjoaaGreatDoorB32
import Derived.Carry
import Derived.Lay
set_option linter.unusedVariables false
set_option linter.unusedSimpArgs false
namespace Go.Proofs.YtphclnolomgjoaaGreatDoor
open Go.ChangeShapes Go.WideShapes Go.ChangeAt Go.RowKit
set_option maxRecDepth 100000 in
theorem contractFair (H : Type) (enc : TypeId × Value → H) (W : World) (base : Nat) (args : Array Value) (ds gs : List (DataW H)) (before : List MemPlace)
    (hval : ∀ (j : Nat) t v, Tryz.f9.params[j]? = some t → args[j]? = some v → Value.okWide Tryz.prog W .any base t v)
    (hW : DataW.Whole enc Tryz.prog Tryz.f9.params.toList Rows.fairSpec.vars false W args.toList ds gs before) :
    Calls Tryz.prog 9 args W fun e W' => ∃ v, e = .returned v ∧ Rows.fairSpec.post enc Tryz.prog Tryz.f9 false true false false W args v W' := by
  have hW' := hW
  obtain ⟨p, q, hA0, hV, rfl, hfz, hnd⟩ := hW
  have hA : DataW.TrodAll enc Tryz.prog W 0 (fun _ => true) true Tryz.f9.params.toList args.toList ds p := hA0
  rw [Tryz.params9] at hA hval
  obtain ⟨v0, vs0, d0, ds0, p0, q0, hargs, rfl, rfl, h0, r0⟩ := trodAll_cons hA
  obtain ⟨v1, vs1, d1, ds1, p1, q1, hargs1, rfl, rfl, h1, r1⟩ := trodAll_cons r0
  obtain ⟨rfl, rfl, rfl⟩ := trodAll_nil r1
  subst hargs1
  obtain rfl : args = #[v0, v1] := by cases args; simp_all
  obtain ⟨rfl, rfl⟩ := trodVars_none hV
  obtain ⟨fu0, hf0⟩ := id h0
  obtain ⟨fu1, hf1⟩ := id h1
  have c0 : v0.cells.toList = [v0] := by
    obtain ⟨a, l, c, e⟩ := okWide_slice Tryz.underlying25 (hval 0 25 v0 rfl rfl)
    rw [e]; rfl
  have c1 : v1.cells.toList = [v1] := by
    obtain ⟨a, l, c, e⟩ := okWide_slice Tryz.underlying26 (hval 1 26 v1 rfl rfl)
    rw [e]; rfl
  obtain ⟨aq, lq, cq, q, rfl, hq1, hq2, hq⟩ := open_ints hf0 c0
  obtain ⟨as_, ls, cs, S, rfl, hs1, hs2, hS⟩ := qq9 hf1 c1
  refine (fair_walk hq hq1 hq2 hS hs1 hs2).mono fun e W' ⟨he, hbel⟩ => ?_
  subst he
  have hlt : ∀ x ∈ p0 ++ (p1 ++ []), x.block < W.heap.size := fun x hx => hW'.lt x (by simpa using hx)
  exact ⟨_, rfl, _, _, _, [], p0 ++ (p1 ++ []), [], hW', trodAll_cons_mk (shut_bool Tryz.underlying4 _) trodAll_mk0,
    trodAll_cons_mk (Below.trod laidOut (by kernel_rfl) (of_decide_eq_true (by kernel_rfl)) h0 hbel (fun x hx => hlt x (by simp [hx]))) (trodAll_cons_mk (Below.trod laidOut (by kernel_rfl) (of_decide_eq_true (by kernel_rfl)) h1 hbel (fun x hx => hlt x (by simp [hx]))) trodAll_mk0), rfl, hbel.frame _, fun h => by cases h⟩
def argsFair : Array Value := #[.slice none 0 0, .slice none 0 0]
theorem laid_metFair (os : Os) : laidMetH Tryz.prog Rows.fairRow.laid ((World.laidAll Tryz.prog os Rows.fairRow.laid).forCall (fun _ _ => 0) ⟨#[], argsFair, []⟩).memory := by
  rw [MakeChecks.laidMetH_plain _ _ _ (by kernel_rfl)]
  exact laidMet_laidAll _ (by kernel_rfl) (by kernel_rfl)
theorem readsFair (os : Os) {H : Type} (enc : TypeId × Value → H) : ∃ places, DataW.whole enc Tryz.prog ((World.laidAll Tryz.prog os Rows.fairRow.laid).forCall (fun _ _ => 0) ⟨#[], argsFair, []⟩).memory Tryz.f9.params.toList Rows.fairSpec.vars false argsFair.toList 8 = some ([.nil, .nil], [], places) :=
  ⟨[], by kernel_rfl⟩
set_option maxRecDepth 100000 in
theorem liftedFair (os : Os) (started : os.Started) (H : Type) (enc : TypeId × Value → H) (F : Stop.Interp) :
    ReturnsInHanded {} Tryz.checked os 9 .any ((OpenSpec.ofChange Rows.fairSpec).preRow enc Tryz.prog Tryz.f9 Rows.fairRow.domain false Rows.fairRow.laid) (((OpenSpec.ofChange Rows.fairSpec).at F).post enc Tryz.prog Tryz.f9 false true false false) := by
  obtain ⟨places, hx⟩ := readsFair os enc
  refine returnsInHanded_of_row (C := Tryz.checked) (s := OpenSpec.ofChange Rows.fairSpec) own started (by kernel_rfl) Tryz.func9
    (qhb (enc := enc) (C := Tryz.checked) (World.laidAll Tryz.prog os Rows.fairRow.laid) argsFair (World.laidAll_os _ _ _) (World.shaped_of_ZipB (by kernel_rfl) (by kernel_rfl)) (by kernel_rfl)
      (OpenSpec.preRow_of_cond 8 hx (by kernel_rfl) (fun k hk => by cases hk) (by kernel_rfl) (laid_metFair os))) ?_
  intro W base args ds gs before hval hW _ hcond _ hL _ _
  exact contractFair H enc W base args ds gs before hval hW
theorem saidFair : Rows.FairSaid :=
  OpenClaim.holds_of_cond 9 Tryz.f9 rfl rfl rfl rfl rfl rfl rfl ⟨rfl, rfl, rfl, rfl, rfl⟩ rfl rfl rfl rfl rfl (by kernel_rfl) Tryz.func9 (by kernel_rfl)
    (of_decide_eq_true (by kernel_rfl)) (by unfold Func.isWrapper; first | (rw [if_pos (by decide +kernel)]; kernel_rfl) | (rw [if_neg (by decide +kernel)]; exact ⟨rfl, rfl⟩))
    (fun os started H enc _ F => by rw [OpenClaim.pre_eq_preRow]; exact liftedFair os started H enc F)
theorem plainFair (f : FuncId) (fn : Func) (hf : Tryz.pinned.checked.prog.funcNamed "borrow/borrowkeep.Fair" = some f) (hfn : Tryz.pinned.checked.prog.funcs[f]? = some fn) :
    false = Tryz.pinned.checked.prog.looks [] ∧ ∀ (j : Nat) t, fn.params[j]? = some t → Tryz.pinned.checked.prog.wantsStandIn t = false := by
  obtain rfl : f = 9 := Option.some.inj ((show Tryz.prog.funcNamed "borrow/borrowkeep.Fair" = some 9 by kernel_rfl).symm.trans hf) |>.symm
  obtain rfl : fn = Tryz.f9 := (Option.some.inj (Tryz.func9.symm.trans hfn)).symm
  refine ⟨by kernel_rfl, fun j t ht => ?_⟩
  rw [Tryz.params9] at ht
  have hm := Array.mem_of_getElem? ht
  simp only [List.mem_toArray, List.mem_cons, List.mem_nil_iff, or_false] at hm
  rcases hm with rfl | rfl
  · exact (show Tryz.prog.wantsStandIn 25 = false by kernel_rfl)
  · exact (show Tryz.prog.wantsStandIn 26 = false by kernel_rfl)
theorem fairCard : Rows.FairCardSaid :=
  Claim7.holds_tied_plain_at .later [] _ _ _ _ saidFair (fun _ h => by cases h) (by kernel_rfl) (fun _ h => by cases h) fair_row_tie rfl ⟨rfl, rfl⟩ (by kernel_rfl) rfl plainFair (by kernel_rfl)
end Go.Proofs.YtphclnolomgjoaaGreatDoor
