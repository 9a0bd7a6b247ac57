import Derived.Test.YtphclnolomgjoaaGreatDoorX13
import Derived.Test.YtphclnolomgjoaaGreatDoorB37
import Derived.Test.YtphclnolomgjoaaGreatDoorX01
set_option linter.unusedVariables false
set_option linter.unusedSimpArgs false
namespace Go.Proofs.YtphclnolomgjoaaGreatDoor
open Go.RowKit
theorem tkOne_fix {s s' : List KW × Int} {e : Int × Int} (h : qng s e = some s') : s'.1.map KW.fix = s.1.map KW.fix := by
  obtain ⟨k, x, hk, _, _, h | h⟩ := qrp h
  · rw [h.2.2, List.map_set]
    exact qih (by rw [List.getElem?_map, hk]; rfl)
  · rw [h.2.2, List.map_set]
    exact qih (by rw [List.getElem?_map, hk]; rfl)
theorem tkAll_fix : ∀ {es : List (Int × Int)} {s s' : List KW × Int}, qdj s es = some s' → s'.1.map KW.fix = s.1.map KW.fix
  | [], s, s', h => by simp only [qdj, Option.some.injEq] at h; subst h; rfl
  | e :: es, s, s', h => by
    unfold qdj at h
    cases h1 : qng s e with
    | none => rw [h1] at h; cases h
    | some s1 =>
      rw [h1] at h
      exact (tkAll_fix (s := s1) h).trans (tkOne_fix h1)
section
variable {R R' : KR} {n : Nat} {nodes nodes' : List Node}
theorem fair_step (I : RunI n R) (K : KInv nodes R.k) {k a b c : Int} (hs : qyi R k a b c R') (hk : pkN k 8 < 4) (hw : R'.works.length ≠ R.works.length) :
    ∃ (w : KW) (A B : List Wk) (t' : Int), R'.works[R.works.length]? = some w ∧ Rpl R'.k.L R'.paths (R.works ++ [⟨w.num, w.leaf, w.d0, w.d1, false, 0⟩]) A R'.qav ∧ Ev R'.k.L false A R'.qav R'.last B t' ∧ R'.last.length ≤ 1000 ∧ R'.works.length = R.works.length + 1 := by
  rcases hs with ⟨_, hl, p, ws', hp, htk, rfl⟩ | ⟨h4, _⟩ | ⟨h4, _⟩ | ⟨h4, _⟩ | ⟨rfl, _⟩
  · have ha5 := qef a (n := 5) (by omega)
    have hb16 := qef b (n := 16) (by omega)
    have hc16 := qef c (n := 16) (by omega)
    have hf : qao (pkN b 16) (pkN c 16) = true := qla (by omega) (by omega)
    have hfix := tkAll_fix htk
    have hlen := tkAll_len htk
    simp only at hfix hlen hw ⊢
    obtain ⟨hk', hp0, hp4, m, hm, hfe, hmk, hml⟩ := I.path K hp
    have hnm := qbi hk'
    have hlf : m.leaf = true := by rw [hml]; simp [ha5]
    have hmk2 : m.key = qac (qaa p) := by rw [hnm]; exact hmk
    have he := (I.qbk K ha5 hp hf hl).1
    have ho : R.k.qbk (qaa p) (pkN b 16) (pkN c 16) = KS.done R.k.L (R.k.Ws ++ [qe4 R.k.cnt (qaa p) (pkN b 16) (pkN c 16)]) (R.k.cnt + 1) R.k.st := by
      unfold KS.qbk; rw [he]; simp
    have I2 := SInv.append K.tree K.inv K.wkl K.cnt0 hm hlf hmk2 hf (by rw [← I.wlen]; exact hl)
    have hwk : KW.wk R.paths ⟨R.k.cnt + 1, pkN a 5, pkN b 16, pkN c 16, false, 0⟩ = qe4 R.k.cnt (qaa p) (pkN b 16) (pkN c 16) := by
      unfold KW.wk qe4
      rw [hnm, List.getD_eq_getElem?_getD, hp]
      rfl
    have hE := qt2 R.k.L I2
    obtain ⟨w, hw'⟩ : ∃ w, ws'[R.works.length]? = some w := ⟨_, List.getElem?_eq_getElem (by rw [hlen.1]; simp)⟩
    have hwf : KW.fix w = (R.k.cnt + 1, pkN a 5, (pkN b 16 : Int), (pkN c 16 : Int)) := by
      have e := congrArg (fun t : List (Int × Nat × Int × Int) => t[R.works.length]?) hfix
      simp only [List.getElem?_map, hw'] at e
      rw [List.getElem?_append_right (Nat.le_refl _)] at e
      simpa [KW.fix] using e
    simp only [KW.fix, Prod.mk.injEq] at hwf
    obtain ⟨f1, f2, f3, f4⟩ := hwf
    rw [ho] at hlen ⊢
    obtain ⟨B', t', hE'⟩ := hE.later (fun x hx => (I2.wks.st x hx).2) K.inv.st0 (t := (KS.done R.k.L (R.k.Ws ++ [qe4 R.k.cnt (qaa p) (pkN b 16) (pkN c 16)]) (R.k.cnt + 1) R.k.st).st) (by have h2 := hlen.2.1; have h3 := I.qav; omega)
    refine ⟨w, _, B', t', hw', ?_, hE', ?_, by simpa using hlen.1⟩
    rotate_left
    · have h9 := qre R.k.L I2 rfl
      show (qal R.k.L ⟨R.k.Ws ++ [qe4 R.k.cnt (qaa p) (pkN b 16) (pkN c 16)], R.k.st, []⟩).evs.length ≤ 1000
      omega
    rw [f1, f2, f3, f4]
    have hmem : ∀ w ∈ R.works ++ [⟨R.k.cnt + 1, pkN a 5, (pkN b 16 : Int), (pkN c 16 : Int), false, 0⟩], w ∈ R.works ∨ w = ⟨R.k.cnt + 1, pkN a 5, (pkN b 16 : Int), (pkN c 16 : Int), false, 0⟩ := fun w hw => by
      rcases List.mem_append.1 hw with e | e
      · exact .inl e
      · exact .inr (List.mem_singleton.1 e)
    have hperm : ((R.works ++ [(⟨R.k.cnt + 1, pkN a 5, (pkN b 16 : Int), (pkN c 16 : Int), false, 0⟩ : KW)]).map (KW.wk R.paths)).Perm (R.k.Ws ++ [qe4 R.k.cnt (qaa p) (pkN b 16) (pkN c 16)]) := by
      rw [List.map_append, List.map_cons, List.map_nil, hwk]
      exact I.perm.append_right _
    refine ⟨hperm, ?_, fun y hy hi => ?_, fun y hy => ?_, I2.anti, I.len, I.pnodup K, ?_, fun y hy => ?_, fun y hy => ?_, by simp; omega⟩
    · have := (hperm.map (·.num)).nodup_iff.2 I2.wks.nums
      rw [qou] at this
      exact this
    · rcases hmem y hy with e | rfl
      · exact I.pos y e hi
      · cases hi
    · rcases hmem y hy with e | rfl
      · exact I.idx y e
      · exact ha5
    · have := K.inv.st0
      have h2 := hlen.2.1
      rw [I.qav] at h2
      exact Int.le_trans this h2
    · rcases hmem y hy with e | rfl
      · exact (K.inv.wks.wks.num _ (I.perm.mem_iff.1 (List.mem_map_of_mem e))).1
      · simp only; omega
    · rcases hmem y hy with e | rfl
      · exact (K.inv.wks.wks.num _ (I.perm.mem_iff.1 (List.mem_map_of_mem e))).2
      · simp only; omega
  · omega
  · omega
  · omega
  · exact absurd rfl hw
end
end Go.Proofs.YtphclnolomgjoaaGreatDoor
