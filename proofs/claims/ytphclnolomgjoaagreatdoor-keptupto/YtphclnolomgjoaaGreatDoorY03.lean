import Derived.Test.YtphclnolomgjoaaGreatDoorY01
import Derived.Test.YtphclnolomgjoaaGreatDoorB37
set_option linter.unusedVariables false
set_option linter.unusedSimpArgs false
namespace Go.Proofs.YtphclnolomgjoaaGreatDoor
open Go.RowKit
section
variable {nodes nodes' : List Node} {R R' : KR} {n : Nat}
def noneB : Bs := [110, 111, 110, 101]
def NmI (R : KR) : Prop := ∀ p ∈ R.paths, p.getLast? ≠ some noneB
theorem mvK_last {f : List Bs} {t : List Bs} {key : List Bs} (hf : f ≠ []) (h1 : f.getLast? ≠ some noneB) (h2 : key.getLast? ≠ some noneB) : (mvK f (t ++ [qad f]) key).getLast? ≠ some noneB := by
  unfold mvK
  split
  · rename_i hp
    rw [List.isPrefixOf_iff_prefix] at hp
    obtain ⟨r, rfl⟩ := hp
    rw [List.drop_left]
    cases r with
    | nil =>
      rw [List.append_nil, List.getLast?_append]
      simp only [List.getLast?_singleton, Option.or_some]
      intro e
      refine h1 ?_
      have e2 : qad f = noneB := by simpa using e
      unfold qad at e2
      rw [List.getLastD_eq_getLast?] at e2
      cases hl : f.getLast? with
      | none => exact absurd (List.getLast?_eq_none_iff.1 hl) hf
      | some z => rw [hl] at e2; simpa using e2
    | cons a r =>
      rw [List.getLast?_append] at h2 ⊢
      have : (a :: r).getLast? ≠ none := by simp
      cases hl : (a :: r).getLast? with
      | none => exact absurd hl this
      | some z => rw [hl] at h2; simpa using h2
  · exact h2
theorem NmI.step (h : NmI R) (I : RunI n R) (K : KInv nodes R.k) {k a b c : Int} (hs : qyi R k a b c R') : NmI R' := by
  rcases hs with ⟨_, hl, p, ws', hp, _, rfl⟩ | ⟨_, i, x, ws', hx, _, rfl⟩ | ⟨_, i, p, x0, x1, x2, x3, ws', st', hp, _, rfl⟩ | ⟨_, i, p, tk, ws', hp, htk, he, _, rfl⟩ | ⟨rfl, _⟩
  · exact h
  · exact h
  · exact h
  · intro q hq
    obtain ⟨q0, hq0, rfl⟩ := List.mem_map.1 hq
    exact mvK_last (I.path K hp).2.1 (h p (List.mem_of_getElem? hp)) (h q0 hq0)
  · exact h
theorem nm_fresh (len : Nat) (q : Nat → Int) : NmI (frR len q 8) := by
  have h : ∀ p ∈ qb9, p.getLast? ≠ some noneB := by decide
  exact fun p hp => h p hp
theorem kp_leaf (I : RunI n R) (K : KInv nodes R.k) {i : Nat} {p : List Bs} (hp : R.paths[i]? = some p) (lf : Bool) {a b c d : Int} (hf : (qao a b && qao c d) = true) : R.k.make (qaa p) lf a b c d = R.k.same 4 := by
  obtain ⟨hk, hp0, hp4, m, hm, hfe, hmk, hml⟩ := I.path K hp
  have hnm := qbi hk
  have hv : qar (qaa p) = true := by rw [qcd, hnm]; exact hk
  have hE : errE R.k.L (qaa p) (qao a b && qao c d) = 4 := by
    unfold errE
    rw [hv, hf, hnm, hfe]
    have hj := qvg hk hp0
    have hd : ¬ (4 < qep (qaa p)) := by
      unfold qep; rw [hnm]; omega
    simp [hj, hd]
  unfold KS.make
  rw [hE]
  simp
theorem kp_finish (K : KInv nodes R.k) {m : Int} (hm : m ≤ 0) : R.k.finish m = R.k.same 12 := by
  unfold KS.finish
  have : R.k.Ws.findIdx? (fun y => y.num == m) = none := by
    rw [List.findIdx?_eq_none_iff]
    intro x hx
    have := (K.wkl.num x hx).1
    simp
    omega
  rw [this]
theorem kp_quota (I : RunI n R) (K : KInv nodes R.k) {i : Nat} {p : List Bs} (hp : R.paths[i]? = some p) : R.k.qbb (qaa p) (-1) 0 0 0 = R.k.same 6 := by
  obtain ⟨hk, hp0, hp4, m, hm, hfe, hmk, hml⟩ := I.path K hp
  have hnm := qbi hk
  have hv : qar (qaa p) = true := by rw [qcd, hnm]; exact hk
  have hF : errF R.k.L (qaa p) = 0 := by
    unfold errF; rw [hv, hnm, hfe]; simp [qvg hk hp0]
  have hQ : qnt R.k.L (qaa p) (qao (-1) 0 && qao 0 0) (-1) 0 = 6 := by
    unfold qnt
    rw [hF, hnm, hfe]
    simp [qao]
  unfold KS.qbb
  rw [hQ]
  simp
theorem kp_move (I : RunI n R) (K : KInv nodes R.k) {i : Nat} {p : List Bs} (hp : R.paths[i]? = some p) : ∃ e, (e = 5 ∨ e = 10) ∧ R.k.move (qaa p) (qaa p) = R.k.same e := by
  obtain ⟨hk, hp0, hp4, m, hm, hfe, hmk, hml⟩ := I.path K hp
  have hnm := qbi hk
  have hv : qar (qaa p) = true := by rw [qcd, hnm]; exact hk
  have hF : errF R.k.L (qaa p) = 0 := by
    unfold errF; rw [hv, hnm, hfe]; simp [qvg hk hp0]
  have hin : inB (qaa p) (qaa p) = true := by unfold inB; simp
  cases hl : m.ent.leaf
  · refine ⟨10, .inr rfl, ?_⟩
    have hM : qqc R.k.L (qaa p) (qaa p) = 10 := by
      unfold qqc
      rw [hF, hnm, hfe, hv, hin]
      simp [hl]
    unfold KS.move
    rw [hM]
    simp
  · refine ⟨5, .inl rfl, ?_⟩
    have hM : qqc R.k.L (qaa p) (qaa p) = 5 := by
      unfold qqc
      rw [hF, hnm, hfe, hv]
      simp [hl]
    unfold KS.move
    rw [hM]
    simp
theorem kp_remove (R : KR) : R.k.remove [] = R.k.same 2 := by
  have hF : errF R.k.L [] = 2 := by
    unfold errF
    rw [show qar [] = true from rfl]
    simp
  unfold KS.remove
  rw [hF]
  simp
def noneP : Bs := [120, 47, 110, 111, 110, 101]
theorem kp_submit (I : RunI n R) (h : NmI R) : errS R.k.L R.k.Ws noneP (qao 0 0) = 3 ∧ R.k.qbk noneP 0 0 = R.k.same 3 := by
  have hv : qar noneP = true := by decide
  have hn : qac noneP = [[120], noneB] := by decide
  have hf : qeq R.k.L (qac noneP) = none := by
    rw [hn]
    cases hf : qeq R.k.L [[120], noneB] with
    | none => rfl
    | some e =>
      exfalso
      unfold qeq at hf
      have h1 := List.mem_of_find?_eq_some hf
      have h2 := List.find?_some hf
      simp at h2
      have h3 : e.key ∈ [] :: R.paths := I.keys.mem_iff.1 (List.mem_map_of_mem h1)
      rw [h2] at h3
      rcases List.mem_cons.1 h3 with h3 | h3
      · cases h3
      · exact h _ h3 rfl
  have hE : errS R.k.L R.k.Ws noneP (qao 0 0) = 3 := by
    unfold errS
    rw [hv, hf]
    rfl
  refine ⟨hE, ?_⟩
  unfold KS.qbk
  rw [hE]
  simp
end
end Go.Proofs.YtphclnolomgjoaaGreatDoor
