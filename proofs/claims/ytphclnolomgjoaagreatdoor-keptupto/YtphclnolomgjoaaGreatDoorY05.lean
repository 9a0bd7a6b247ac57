import Derived.Test.YtphclnolomgjoaaGreatDoorY03
import Derived.Test.YtphclnolomgjoaaGreatDoorY04
import Derived.Test.YtphclnolomgjoaaGreatDoorB37
import Derived.Test.YtphclnolomgjoaaGreatDoorY01
set_option linter.unusedVariables false
set_option linter.unusedSimpArgs false
namespace Go.Proofs.YtphclnolomgjoaaGreatDoor
open Go.RowKit
def Same (F : Nat → Prop) (rb : Nat) (R : KR) (bt : Nat) (vp vw vl : Value) (W w' : World) : Prop := (∃ P, RunM F w' rb R P bt vp vw vl) ∧ Keep (fun b => ¬ F b) W w'
def RefK (F : Nat → Prop) (rb : Nat) (R : KR) (bt : Nat) (vp vw vl : Value) (er : Int) (W : World) (e : Ending) (w' : World) : Prop := ∃ ev, e = .returned (.tuple #[ev, .int .i64 er]) ∧ Same F rb R bt vp vw vl W w'
section
variable {F : Nat → Prop} {W w' : World} {rb : Nat} {R : KR} {P : Nat → Prop} {bt : Nat} {vp vw vl : Value} {n : Nat} {nodes : List Node}
theorem same_of (h : RunM F W rb R P bt vp vw vl) {er : Int} {ev : Value} (ho : KOut P W bt (R.k.same er) ev w') : Same F rb R bt vp vw vl W w' := by
  obtain ⟨P', g1, g2, g3, g4⟩ := h.called ho
  exact ⟨⟨P', g1⟩, g4⟩
theorem kp_leafC (h : RunM F W rb R P bt vp vw vl) (I : RunI n R) (K : KInv nodes R.k) {i : Nat} {p : List Bs} (hp : R.paths[i]? = some p) : Calls Tryz.prog 26 #[.pointer (some ⟨bt, 0, none⟩), .string (sb (qaa p)), .agg #[.int .i64 1, .int .i64 1], .agg #[.int .i64 0, .int .i64 0]] W (RefK F rb R bt vp vw vl 4 W) := by
  refine (qwx h.tw (sb (qaa p)) (I.small K hp) 1 1 0 0).mono ?_
  rintro e w' ⟨ev, rfl, ho⟩
  rw [qbs, kp_leaf I K hp true (by decide)] at ho ⊢
  exact ⟨ev, rfl, same_of h ho⟩
theorem kp_cohortC (h : RunM F W rb R P bt vp vw vl) (I : RunI n R) (K : KInv nodes R.k) {i : Nat} {p : List Bs} (hp : R.paths[i]? = some p) : Calls Tryz.prog 27 #[.pointer (some ⟨bt, 0, none⟩), .string (sb (qaa p)), .agg #[.int .i64 0, .int .i64 0]] W (RefK F rb R bt vp vw vl 4 W) := by
  refine (qpf h.tw (sb (qaa p)) (I.small K hp) 0 0).mono ?_
  rintro e w' ⟨ev, rfl, ho⟩
  rw [qbs, kp_leaf I K hp false (by decide)] at ho ⊢
  exact ⟨ev, rfl, same_of h ho⟩
theorem kp_finishC (h : RunM F W rb R P bt vp vw vl) (K : KInv nodes R.k) {m : Int} (hm : m ≤ 0) : Calls Tryz.prog 28 #[.pointer (some ⟨bt, 0, none⟩), .int .i64 m] W (RefK F rb R bt vp vw vl 12 W) := by
  refine (qpg h.tw m).mono ?_
  rintro e w' ⟨ev, rfl, ho⟩
  rw [kp_finish K hm] at ho ⊢
  exact ⟨ev, rfl, same_of h ho⟩
theorem kp_quotaC (h : RunM F W rb R P bt vp vw vl) (I : RunI n R) (K : KInv nodes R.k) {i : Nat} {p : List Bs} (hp : R.paths[i]? = some p) : Calls Tryz.prog 29 #[.pointer (some ⟨bt, 0, none⟩), .string (sb (qaa p)), .agg #[.int .i64 (-1), .int .i64 0], .agg #[.int .i64 0, .int .i64 0]] W (RefK F rb R bt vp vw vl 6 W) := by
  refine (qs3 h.tw (sb (qaa p)) (I.small K hp) (-1) 0 0 0).mono ?_
  rintro e w' ⟨ev, rfl, ho⟩
  rw [qbs, kp_quota I K hp] at ho ⊢
  exact ⟨ev, rfl, same_of h ho⟩
theorem kp_moveC (h : RunM F W rb R P bt vp vw vl) (I : RunI n R) (K : KInv nodes R.k) {i : Nat} {p : List Bs} (hp : R.paths[i]? = some p) : ∃ er : Int, (er = 5 ∨ er = 10) ∧ ∀ {W : World} {P : Nat → Prop}, RunM F W rb R P bt vp vw vl → Calls Tryz.prog 30 #[.pointer (some ⟨bt, 0, none⟩), .string (sb (qaa p)), .string (sb (qaa p))] W (RefK F rb R bt vp vw vl er W) := by
  obtain ⟨er, h1, h2⟩ := kp_move I K hp
  refine ⟨er, h1, fun {W P} h => ?_⟩
  refine (qs2 h.tw (sb (qaa p)) (sb (qaa p)) (I.small K hp) (I.small K hp)).mono ?_
  rintro e w' ⟨ev, rfl, ho⟩
  rw [qbs, h2] at ho ⊢
  exact ⟨ev, rfl, same_of h ho⟩
theorem kp_removeC (h : RunM F W rb R P bt vp vw vl) : Calls Tryz.prog 31 #[.pointer (some ⟨bt, 0, none⟩), .string ⟨#[]⟩] W (RefK F rb R bt vp vw vl 2 W) := by
  refine (qvi h.tw ⟨#[]⟩ (by decide)).mono ?_
  rintro e w' ⟨ev, rfl, ho⟩
  have hb : bl ⟨#[]⟩ = [] := rfl
  rw [hb, kp_remove] at ho ⊢
  exact ⟨ev, rfl, same_of h ho⟩
theorem kp_submitC (h : RunM F W rb R P bt vp vw vl) (I : RunI n R) (hn : n ≤ 100) (hN : NmI R) : Calls Tryz.prog 32 #[.pointer (some ⟨bt, 0, none⟩), .string ⟨#[120, 47, 110, 111, 110, 101]⟩, .agg #[.int .i64 0, .int .i64 0]] W fun e w' => ∃ ev, e = .returned (.tuple #[.int .i64 0, ev, .int .i64 3]) ∧ Same F rb R bt vp vw vl W w' := by
  refine (qlh h.tw (by have := I.cnt; omega) ⟨#[120, 47, 110, 111, 110, 101]⟩ (by decide) 0 0).mono ?_
  rintro e w' ⟨ev, rfl, ho⟩
  have hb : bl ⟨#[120, 47, 110, 111, 110, 101]⟩ = noneP := by rfl
  obtain ⟨h1, h2⟩ := kp_submit I hN
  rw [hb, h2] at ho
  rw [hb, h1]
  exact ⟨ev, by simp, same_of h ho⟩
end
end Go.Proofs.YtphclnolomgjoaaGreatDoor
