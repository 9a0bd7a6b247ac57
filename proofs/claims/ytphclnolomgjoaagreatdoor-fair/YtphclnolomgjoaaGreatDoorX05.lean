import Derived.Test.YtphclnolomgjoaaGreatDoorX04
import Derived.Test.YtphclnolomgjoaaGreatDoorB37
import Derived.Test.YtphclnolomgjoaaGreatDoorX01
set_option linter.unusedVariables false
set_option linter.unusedSimpArgs false
namespace Go.Proofs.YtphclnolomgjoaaGreatDoor
open Go.RowKit
section
variable {F : Nat → Prop} {W : World} {rb : Nat} {R : KR} {n : Nat} {nodes : List Node}
theorem nodup_inj {α : Type} {l : List α} (h : l.Nodup) {i j : Nat} (hi : i < l.length) (hj : j < l.length) (e : l[i] = l[j]) : i = j := by
  rcases Nat.lt_trichotomy i j with c | c | c
  · exact absurd e ((List.pairwise_iff_getElem.1 h) i j hi hj c)
  · exact c
  · exact absurd e.symm ((List.pairwise_iff_getElem.1 h) j i hj hi c)
theorem RunI.pnodup (I : RunI n R) (K : KInv nodes R.k) : R.paths.Nodup := by
  have hnd : ([] :: R.paths).Nodup := I.keys.nodup_iff.1 (by rw [← K.L]; exact qjk K.tree)
  exact (List.nodup_cons.1 hnd).2
theorem RunI.wnodup (I : RunI n R) (K : KInv nodes R.k) : (R.works.map (·.num)).Nodup := by
  have := (I.perm.map (·.num)).nodup_iff.2 K.inv.wks.nums
  rw [qou] at this
  exact this
theorem wk_waits (I : RunI n R) (K : KInv nodes R.k) {w : KW} (hw : w ∈ R.works) {k : Nat} {p : List Bs} (hp : R.paths[k]? = some p) : (decide ((KW.wk R.paths w).key = p) && ((KW.wk R.paths w).st == 0)) = (decide (w.leaf = k) && !w.inn) := by
  have hl := I.idx w hw
  have hlt := (List.getElem?_eq_some_iff.1 hp).1
  have hwl : w.leaf < R.paths.length := by rw [I.len]; omega
  have h1 : (KW.wk R.paths w).key = R.paths[w.leaf] := by simp [KW.wk, List.getD, List.getElem?_eq_getElem hwl]
  have h2 : decide ((KW.wk R.paths w).key = p) = decide (w.leaf = k) := by
    rw [h1]
    have hp' : R.paths[k] = p := (List.getElem?_eq_some_iff.1 hp).2
    rw [← hp']
    refine decide_eq_decide.2 ⟨fun e => ?_, fun e => by subst e; rfl⟩
    exact nodup_inj (I.pnodup K) _ _ e
  have h3 : ((KW.wk R.paths w).st == 0) = !w.inn := by
    unfold KW.wk
    cases hi : w.inn
    · simp
    · have := I.pos w hw hi
      simp; omega
  rw [h2, h3]
theorem waits_eq (R : KR) (x : Ent) : R.k.waits x = R.k.Ws.filter fun y => decide (y.key = x.key) && (y.st == 0) := by
  unfold KS.waits qjo
  rw [List.take_length]
def waitK (R : KR) (k : Nat) : Nat := (R.works.filter fun w => decide (w.leaf < k) && !w.inn).length
theorem waitK_succ (I : RunI n R) (K : KInv nodes R.k) {k : Nat} {x : Ent} (hp : R.paths[k]? = some x.key) : waitK R (k + 1) = waitK R k + (R.k.waits x).length := by
  rw [waits_eq, ← (I.perm.filter _).length_eq, List.filter_map, List.length_map]
  have : (R.works.filter ((fun y => decide (y.key = x.key) && (y.st == 0)) ∘ KW.wk R.paths)) = R.works.filter fun w => decide (w.leaf = k) && !w.inn := by
    refine List.filter_congr fun w hw => ?_
    exact wk_waits I K hw hp
  rw [this]
  unfold waitK
  generalize R.works = l
  clear this
  induction l with
  | nil => rfl
  | cons w l ih =>
    simp only [List.filter_cons]
    rcases Nat.lt_trichotomy w.leaf k with e | e | e
    · cases hi : w.inn
      · simp [e, show w.leaf < k + 1 by omega, show ¬ (w.leaf = k) by omega] at ih ⊢; omega
      · simp at ih ⊢; exact ih
    · cases hi : w.inn
      · simp [e] at ih ⊢; omega
      · simp at ih ⊢; exact ih
    · cases hi : w.inn
      · simp [show ¬ (w.leaf < k) by omega, show ¬ (w.leaf < k + 1) by omega, show ¬ (w.leaf = k) by omega] at ih ⊢; exact ih
      · simp at ih ⊢; exact ih
theorem waitK_all (I : RunI n R) : waitK R 5 = (R.works.filter fun w => !w.inn).length := by
  unfold waitK
  refine congrArg List.length (List.filter_congr fun w hw => ?_)
  simp [I.idx w hw]
def outK (R : KR) (k : Nat) : Nat := ((R.works.take k).filter fun w => !w.inn).length
theorem outK_succ {k : Nat} {w : KW} (hw : R.works[k]? = some w) : outK R (k + 1) = outK R k + (if w.inn then 0 else 1) := by
  have hlt := (List.getElem?_eq_some_iff.1 hw).1
  have ht : R.works.take (k + 1) = R.works.take k ++ [w] := by
    rw [List.take_succ_eq_append_getElem hlt]; rw [List.getElem?_eq_getElem hlt] at hw; cases hw; rfl
  unfold outK
  rw [ht, List.filter_append, List.length_append]
  cases h : w.inn <;> simp [h]
theorem outK_le (R : KR) (k : Nat) : outK R k ≤ R.works.length := by
  unfold outK
  refine Nat.le_trans (List.length_filter_le _ _) ?_
  simp; omega
theorem outK_all (R : KR) : outK R R.works.length = (R.works.filter fun w => !w.inn).length := by
  unfold outK; rw [List.take_length]
theorem wait_at (I : RunI n R) (K : KInv nodes R.k) {k : Nat} {x : Ent} (hp : R.paths[k]? = some x.key) {j : Nat} {y : Wk} (hy : (R.k.waits x)[j]? = some y) :
    ∃ (q : Nat) (w : KW), R.works[q]? = some w ∧ w.num = y.num ∧ (∀ (i : Nat) (z : KW), i < q → R.works[i]? = some z → z.num ≠ w.num) ∧ w.inn = false ∧ w.leaf = k ∧ y = KW.wk R.paths w ∧ (j = 0 → qbv R.k.L R.k.Ws y = false) := by
  have hym := List.mem_of_getElem? hy
  rw [waits_eq] at hym hy
  obtain ⟨h1, h2⟩ := List.mem_filter.1 hym
  obtain ⟨w, hw, rfl⟩ := List.mem_map.1 (I.perm.mem_iff.2 h1)
  rw [wk_waits I K hw hp] at h2
  simp only [Bool.and_eq_true, decide_eq_true_eq, Bool.not_eq_true'] at h2
  obtain ⟨q, hq, hqf⟩ := qo9 (I.wnodup K) hw
  refine ⟨q, w, hq, rfl, fun i z hi hz e => ?_, h2.2, h2.1, rfl, fun hj => ?_⟩
  · have hnd := I.wnodup K
    have h3 := (List.getElem?_eq_some_iff.1 hq).1
    have h4 := (List.getElem?_eq_some_iff.1 hz).1
    have e1 : (R.works.map (·.num))[i]'(by simpa using h4) = (R.works.map (·.num))[q]'(by simpa using h3) := by
      simp only [List.getElem_map]
      rw [(List.getElem?_eq_some_iff.1 hz).2, (List.getElem?_eq_some_iff.1 hq).2]
      exact e
    have := nodup_inj hnd _ _ e1
    omega
  · subst hj
    refine I.fit _ ?_
    unfold qaz
    have hkey : (KW.wk R.paths w).key = x.key := by
      have := (List.mem_filter.1 hym).2
      simp only [Bool.and_eq_true, decide_eq_true_eq] at this
      exact this.1
    rw [hkey]
    rw [← List.head?_eq_getElem?, List.head?_filter] at hy
    rw [← hy]
    congr 1
    funext z
    rw [Bool.and_comm]
end
end Go.Proofs.YtphclnolomgjoaaGreatDoor
