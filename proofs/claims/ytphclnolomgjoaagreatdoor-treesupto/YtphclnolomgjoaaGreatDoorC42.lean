import Derived.Test.YtphclnolomgjoaaGreatDoorC41
import Derived.Carry
import Derived.Lay
import Derived.Test.YtphclnolomgjoaaGreatDoorC39
import Derived.Test.YtphclnolomgjoaaGreatDoorC40
set_option linter.unusedVariables false
set_option linter.unusedSimpArgs false
namespace Go.Proofs.YtphclnolomgjoaaGreatDoor
open Go.ChangeShapes Go.WideShapes Go.ChangeAt Go.RowKit
set_option maxRecDepth 100000 in
theorem qxh (runs : qkn 3) (H : Type) (enc : TypeId × Value -> H) (W : World) (base : Nat) (args : Array Value) (ds gs : List (DataW H)) (before : List MemPlace)
  (hval : ∀ (j : Nat) t v, Tryz.f3.params[j]? = some t -> args[j]? = some v -> Value.okWide Tryz.prog W .any base t v)
  (hW : DataW.Whole enc Tryz.prog Tryz.f3.params.toList Rows.treesSpec.vars false W args.toList ds gs before) (hk : Rows.uptoSmall H (ds ++ gs) = true) :
  Calls Tryz.prog 3 args W fun e W' => ∃ v, e = .returned v /\ Rows.treesSpec.post enc Tryz.prog Tryz.f3 false true false false W args v W' := by
 have hW' := hW
 obtain ⟨p, q, hA0, hV, rfl, hfz, hnd⟩ := hW
 have hA : DataW.TrodAll enc Tryz.prog W 0 (fun _ => true) true Tryz.f3.params.toList args.toList ds p := hA0
 rw [Tryz.params3] at hA hval
 obtain ⟨v0, vs0, d0, ds0, p0, q0, hargs, rfl, rfl, h0, r0⟩ := trodAll_cons hA
 obtain ⟨rfl, rfl, rfl⟩ := trodAll_nil r0
 obtain rfl : args = #[v0] := by cases args; simp_all
 obtain ⟨rfl, rfl⟩ := trodVars_none hV
 have hb : Rows.uptoBulk d0 <= 1048576 := by
  have := of_decide_eq_true hk
  simp only [List.append_nil, Rows.uptoBulkAll] at this
  omega
 obtain ⟨fuel, hf⟩ := id h0
 have hv1 : v0.cells.toList = [v0] := by
  have hc := hval 0 22 v0 rfl rfl
  obtain ⟨a, l, c, e⟩ := okWide_slice Tryz.underlying22 hc
  rw [e]; rfl
 obtain ⟨ao, len, cap, O, rfl, hl, hm, hS, hlen, hO⟩ := qm1 hf hv1
 refine (runs W ao len cap O hl hm hS (by omega) (fun i hi => ⟨⟨Nat.le_trans (hO i hi).1.1 hb, Nat.le_trans (hO i hi).1.2.1 hb, (hO i hi).1.2.2⟩, (hO i hi).2⟩)).mono fun e W' ⟨he, hbel⟩ => ?_
 subst he
 have hlt : ∀ x ∈ p0, x.block < W.heap.size := fun x hx => hW'.lt x (by simpa using hx)
 exact ⟨_, rfl, _, _, _, [], p0, [], hW', trodAll_cons_mk (shut_bool Tryz.underlying4 _) trodAll_mk0, by
  have := trodAll_cons_mk (Below.trod laidOut (by kernel_rfl) (of_decide_eq_true (by kernel_rfl)) h0 hbel hlt) trodAll_mk0
  rw [List.append_nil] at this
  exact this, rfl, hbel.frame _, fun h => by cases h⟩
theorem qxi (os : Os) : laidMetH Tryz.prog Rows.treesUptoRow.laid ((World.laidAll Tryz.prog os Rows.treesUptoRow.laid).forCall (fun _ _ => 0) ⟨#[], #[.slice none 0 0], []⟩).memory := by
 rw [MakeChecks.laidMetH_plain _ _ _ (by kernel_rfl)]
 exact laidMet_laidAll _ (by kernel_rfl) (by kernel_rfl)
theorem qxl (os : Os) {H : Type} (enc : TypeId × Value -> H) : ∃ places, DataW.whole enc Tryz.prog ((World.laidAll Tryz.prog os Rows.treesUptoRow.laid).forCall (fun _ _ => 0) ⟨#[], #[.slice none 0 0], []⟩).memory Tryz.f3.params.toList Rows.treesSpec.vars false #[Value.slice none 0 0].toList 8 = some ([.nil], [], places) :=
 ⟨[], by kernel_rfl⟩
set_option maxRecDepth 100000 in
theorem qxf (runs : qkn 3) (os : Os) (started : os.Started) (H : Type) (enc : TypeId × Value -> H) (F : Stop.Interp) :
  ReturnsInHanded {} Tryz.checked os 3 .any ((Rows.OpenSpec.upto Rows.treesSpec).preRow enc Tryz.prog Tryz.f3 Rows.treesUptoRow.domain false Rows.treesUptoRow.laid) (((Rows.OpenSpec.upto Rows.treesSpec).at F).post enc Tryz.prog Tryz.f3 false true false false) := by
 obtain ⟨places, hx⟩ := qxl os enc
 refine returnsInHanded_of_row (C := Tryz.checked) (s := Rows.OpenSpec.upto Rows.treesSpec) own started (by kernel_rfl) Tryz.func3
  (qgf (enc := enc) (C := Tryz.checked) (World.laidAll Tryz.prog os Rows.treesUptoRow.laid) #[.slice none 0 0] (World.laidAll_os _ _ _) (World.shaped_of_ZipB (by kernel_rfl) (by kernel_rfl)) (by kernel_rfl)
   (OpenSpec.preRow_of_cond 8 hx (by kernel_rfl) (fun k hk => by cases hk; kernel_rfl) (by kernel_rfl) (qxi os))) ?_
 intro W base args ds gs before hval hW _ hcond _ hL _ _
 exact qxh runs H enc W base args ds gs before hval hW (hcond _ rfl)
theorem qxj (runs : qkn 3) : Rows.TreesUptoSaid :=
 OpenClaim.holds_of_cond 3 Tryz.f3 rfl rfl rfl rfl rfl rfl rfl ⟨rfl, rfl, rfl, rfl, rfl⟩ rfl rfl rfl rfl rfl (by kernel_rfl) Tryz.func3 (by kernel_rfl)
  (of_decide_eq_true (by kernel_rfl)) (by unfold Func.isWrapper; first | (rw [if_pos (by decide +kernel)]; kernel_rfl) | (rw [if_neg (by decide +kernel)]; exact ⟨rfl, rfl⟩))
  (fun os started H enc _ F => by rw [OpenClaim.pre_eq_preRow]; exact qxf runs os started H enc F)
theorem qxk (f : FuncId) (fn : Func) (hf : Tryz.pinned.checked.prog.funcNamed "borrow/borrowlaw.Trees" = some f) (hfn : Tryz.pinned.checked.prog.funcs[f]? = some fn) :
  false = Tryz.pinned.checked.prog.looks [] /\ ∀ (j : Nat) t, fn.params[j]? = some t -> Tryz.pinned.checked.prog.wantsStandIn t = false := by
 obtain rfl : f = 3 := Option.some.inj ((show Tryz.prog.funcNamed "borrow/borrowlaw.Trees" = some 3 by kernel_rfl).symm.trans hf) |>.symm
 obtain rfl : fn = Tryz.f3 := (Option.some.inj (Tryz.func3.symm.trans hfn)).symm
 refine ⟨by kernel_rfl, fun j t ht => ?_⟩
 rw [Tryz.params3] at ht
 obtain rfl : t = 22 := by simpa using Array.mem_of_getElem? ht
 exact (show Tryz.prog.wantsStandIn 22 = false by kernel_rfl)
theorem qxg (runs : qkn 3) : Rows.TreesUptoCardSaid :=
 Claim7.holds_tied_plain_at .later [] _ _ _ _ (qxj runs) (fun _ h => by cases h) (by kernel_rfl) (fun _ h => by cases h) treesUpto_row_tie rfl ⟨rfl, rfl⟩ (by kernel_rfl) rfl qxk (by kernel_rfl)
end Go.Proofs.YtphclnolomgjoaaGreatDoor
namespace Go.Proofs.YtphclnolomgjoaaGreatDoor
open Go.RowKit
theorem qxn : qur 4 := by
 intro W0 w k hk h z T s s2 a0 a1 c0 c1 nm ho hs hs2 hT1 hT2 hn1 hn2
 obtain ⟨τ, tws, h1, h2, h3, h4, h5⟩ := h
 have hh : z <= 0 \/ z = 1 \/ z = 2 \/ z = 3 \/ z = 4 := by omega
 rcases hh with hz | rfl | rfl | rfl | rfl
 ·exact (qp6 (by omega) h1 h2 h3 (by omega) s s2 hs hs2 z T a0 a1 c0 c1 nm hT1 hT2 (.inl hz)).mono fun e w' hR => At.next h1 h3 h4 h5 hR
 ·exact (qn7 h1 h2 (by omega) s s2 T a0 a1 c0 c1 nm).mono fun e w' hR => At.next h1 h3 h4 h5 hR.1
 ·exact (qno (by omega) h1 h2 h3 (by omega) s s2 hs hs2 T a0 a1 c0 c1 nm hT1 hT2).mono fun e w' hR => At.next h1 h3 h4 h5 hR
 ·exact (qq9 (by omega) h1 h2 h3 (by omega) s s2 hs hs2 T a0 a1 c0 c1 nm hT1 hT2).mono fun e w' hR => At.next h1 h3 h4 h5 hR
 ·exact (qps (by omega) h1 h2 h3 (by omega) s s2 hs hs2 T a0 a1 c0 c1 nm hT1 hT2).mono fun e w' hR => At.next h1 h3 h4 h5 hR
set_option maxRecDepth 100000 in
theorem qxm {W : World} {ao : Option Addr} {len cap : Nat} (hl : len <= cap) (hm : cap <= maxLen) {O : Nat -> OpC} (hS : qfd W ao len O) (hlen : len <= 1048576) (hO : ∀ i, i < len -> OpOK (O i)) :
  Calls Tryz.prog 3 #[.slice ao len cap] W fun e w' => e = .returned (.bool true) /\ Below W.heap.size W w' := by
 have h4 := qqh 4 qxn (by omega) hl hm hS hlen hO
 clear hS hO
 go_enter Tryz.func3, Tryz.ntmps3
 go_wp2_with (go_at_call 14; refine h4.mono ?_; rintro e w1 ⟨rfl, hb⟩)
 go_ret
 exact ⟨rfl, hb⟩
theorem treesUptoCard : Rows.TreesUptoCardSaid := qxg fun _ _ _ _ _ hl hm hS hlen hO => qxm hl hm hS hlen hO
#print axioms treesUptoCard
end Go.Proofs.YtphclnolomgjoaaGreatDoor
