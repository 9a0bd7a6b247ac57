import Derived.Test.YtepneihjhcakhaaGreatDoorLawN
set_option linter.unusedVariables false
set_option linter.unusedSimpArgs false
namespace Go.Proofs.YtepneihjhcakhaaGreatDoor
open Go.RowKit

theorem step_new {n₀ : Nat} {τ : Nat → Tag} {W : World} {bw : Nat} {tws : List Tw} {N : Nat} (h : St n₀ τ W bw tws N) (hA : Agree tws) (hmax : tws.length ≤ 100000000) (s s2 : ByteArray) (T a0 a1 c0 c1 nm : Int) :
    Calls Tryz.prog 5 #[.pointer (some ⟨bw, 0, none⟩), .agg #[.int .i64 1, .int .i64 T, .string s, .string s2, .int .i64 a0, .int .i64 a1, .int .i64 c0, .int .i64 c1, .int .i64 nm]] W (fun e w' => StepR n₀ τ W bw tws.length (N + 4) e w' ∧ ∃ τ' tws', St n₀ τ' w' bw tws' (N + 4) ∧ Agree tws' ∧ Moved τ W τ' w' ∧ tws'.length = tws.length + 1) := by
  obtain ⟨slT, slN, slE, slA, slB, ns, es, ms, me, h⟩ := h
  have hne : slT.ownBlock ≠ some bw := fun e => by have := h.tT _ e; rw [h.law.tag] at this; cases this
  refine (new_walk h.law.blk h.row hmax hne s s2 T a0 a1 c0 c1 nm).mono ?_
  rintro e w' ⟨rfl, U, nd, bt, rr, br, gT, cT, hu, bnd, bbt, brr, bbr, ⟨o1, o2, o3, o4⟩, wA, RA, hend⟩
  suffices hh : ∃ τ' tws', Moved τ W τ' w' ∧ St n₀ τ' w' bw tws' (N + 4) ∧ Agree tws' ∧ tws'.length = tws.length + 1 by
    obtain ⟨τ', tws', m1, m2, m3, m4⟩ := hh
    exact ⟨⟨rfl, τ', tws', m1, m2, m3, by omega, by omega⟩, τ', tws', m2, m3, m1, m4⟩
  have hbw := h.law.blk.lt
  have hus := hu.size
  have hbrl := bbr.lt
  obtain ⟨TT, hTT⟩ : ∃ TT : Nat → Prop, TT = fun b => b = bw ∨ slT.ownBlock = some b := ⟨_, rfl⟩
  have kA : Keep TT wA w' := by rw [hend]; exact (Keep.refl _ _).setCell (p := ⟨bw, 0, none⟩) (by rw [hTT]; exact Or.inl rfl) _
  have kU : Keep TT U w' := (RA.keep.mono (fun b hb => by rw [hTT]; exact Or.inr hb)).trans kA
  have kW : Keep TT W w' := (Keep.new hu : Keep TT W U).trans kU
  have hTlt : ∀ b, TT b → b < W.heap.size := fun b hb => by
    rw [hTT] at hb
    rcases hb with rfl | e
    · exact hbw
    · exact row_lt h.row e
  have hTtag : ∀ b, TT b → τ b = .law ∨ τ b = .lawT := fun b hb => by
    rw [hTT] at hb
    rcases hb with rfl | e
    · exact .inl h.law.tag
    · exact .inr (h.tT _ e)
  have hnew : ∀ b, W.heap.size ≤ b → ¬ TT b := fun b hb ht => by have := hTlt b ht; omega
  obtain ⟨τ', hτ'⟩ : ∃ τ' : Nat → Tag, τ' = fun b => if b < W.heap.size then τ b else if b = nd then .node tws.length 0 else if b = bt then .tow tws.length else if b = rr then .rrow tws.length else if b = br then .ref tws.length else if b = gT then .lawT else .free := ⟨_, rfl⟩
  have old : ∀ b, b < W.heap.size → τ' b = τ b := fun b hb => by rw [hτ']; simp [hb]
  have tnd : τ' nd = .node tws.length 0 := by rw [hτ']; simp only; rw [if_neg (by omega), if_pos trivial]
  have tbt : τ' bt = .tow tws.length := by rw [hτ']; simp only; rw [if_neg (by omega), if_neg (by omega), if_pos trivial]
  have trr : τ' rr = .rrow tws.length := by rw [hτ']; simp only; rw [if_neg (by omega), if_neg (by omega), if_neg (by omega), if_pos trivial]
  have tbr : τ' br = .ref tws.length := by rw [hτ']; simp only; rw [if_neg (by omega), if_neg (by omega), if_neg (by omega), if_neg (by omega), if_pos trivial]
  have tgT : τ' gT = .lawT := by
    rcases RA.new with e | e
    · rw [old _ (row_lt h.row e)]; exact h.tT _ e
    · rw [hτ']; simp only; rw [if_neg (by omega), if_neg (by omega), if_neg (by omega), if_neg (by omega), if_neg (by omega), if_pos trivial]
  have hgb : gT ≠ bw := by
    rcases RA.new with e | e
    · exact fun e2 => hne (by rw [e, e2])
    · omega
  obtain ⟨n1, n2, n3⟩ := h.law.N.lt
  obtain ⟨e1, e2, e3⟩ := h.law.E.lt
  have hx : ∀ g t, τ g = t → t ≠ .law → t ≠ .lawT → ¬ TT g := fun g t ht h1 h2 hg => by
    rcases hTtag g hg with e | e
    · exact h1 (by rw [← ht, e])
    · exact h2 (by rw [← ht, e])
  refine ⟨τ', tws ++ [⟨bt, [root0 nd], br, rr, 1, [⟨[], false, 0, 0, 0, 0⟩]⟩], ⟨old, kW.monoLt (fun b hb ht => ⟨hb, fun e => by rcases hTtag b ht with e' | e' <;> rw [e] at e' <;> cases e'⟩)⟩,
    ⟨.slice (some ⟨gT, 0, none⟩) (tws.length + 1) cT, slN, slE, slA, slB, ns, es, ms, me, ⟨⟨?_, by rw [old _ hbw]; exact h.law.tag, ?_, ?_, ?_, ?_, ?_, ?_, ?_, ?_⟩, by have := h.n1; omega, by have := h.n2; omega, ?_, ?_, ?_, ?_, Nat.le_trans h.le kW.size⟩⟩, ?_, by simp⟩
  · have b1 : Blk U bw 32 _ := h.law.blk.below hu hbw
    have b2 := (b1.keep RA.keep hne).set 0 (.slice (some ⟨gT, 0, none⟩) (tws.length + 1) cT)
    rw [← hend] at b2
    exact b2
  · exact h.law.N.keep kW (fun g hg => hx g _ (h.law.tN g hg) (by simp) (by simp)) (fun g hg => hx g _ (h.law.tA g hg) (by simp) (by simp)) (fun v hv g hg => hx g _ (h.law.ln v hv g hg) (by simp) (by simp))
  · exact h.law.E.keep kW (fun g hg => hx g _ (h.law.tE g hg) (by simp) (by simp)) (fun g hg => hx g _ (h.law.tB g hg) (by simp) (by simp)) (fun v hv g hg => hx g _ (h.law.le v hv g hg) (by simp) (by simp))
  · intro g hg; rw [old _ (n1 g hg)]; exact h.law.tN g hg
  · intro g hg; rw [old _ (e1 g hg)]; exact h.law.tE g hg
  · intro g hg; rw [old _ (n2 g hg)]; exact h.law.tA g hg
  · intro g hg; rw [old _ (e2 g hg)]; exact h.law.tB g hg
  · intro v hv g hg; rw [old _ (n3 v hv g hg)]; exact h.law.ln v hv g hg
  · intro v hv g hg; rw [old _ (e3 v hv g hg)]; exact h.law.le v hv g hg
  · have kk : Keep (fun b => b = bw) wA w' := by rw [hend]; exact (Keep.refl (fun b => b = bw) _).setCell (p := ⟨bw, 0, none⟩) rfl _
    have := row_keep RA.own kk (fun g hg => by simp [Value.ownBlock] at hg; subst hg; exact hgb)
    simpa [twCells] using this
  · intro g hg; simp [Value.ownBlock] at hg; subst hg; exact tgT
  · intro t x hxx
    rcases Nat.lt_or_ge t tws.length with hlt | hge
    · rw [List.getElem?_append_left hlt] at hxx
      refine (h.tw t x hxx).keep kW (fun b hb ht => ?_) old
      rcases hTtag b ht with e | e <;> rw [e] <;> exact ⟨fun h => h, fun h => h⟩
    · rw [List.getElem?_append_right hge] at hxx
      have ht0 : t = tws.length := by
        rcases Nat.eq_zero_or_pos (t - tws.length) with h0 | h0
        · omega
        · rw [List.getElem?_eq_none (by simp; omega)] at hxx; cases hxx
      subst ht0
      simp at hxx; subst hxx
      have bnd' := bnd.keep kU (hnew _ (by omega))
      have bbt' := bbt.keep kU (hnew _ (by omega))
      have brr' := brr.keep kU (hnew _ (by omega))
      have bbr' := bbr.keep kU (hnew _ (by omega))
      refine ⟨⟨tree0 nd, ?_, ?_, ⟨root0 nd, rfl, bbt'⟩, tbt⟩, ⟨bbr', ?_⟩, tbr, trr⟩
      · intro n hn; simp at hn; subst hn
        exact ⟨bnd', World.ownsRow_nil _ _ _ _⟩
      · intro i n hn
        match i, hn with
        | 0, hn => simp at hn; subst hn; exact ⟨tnd, fun g hg => by cases hg⟩
        | i + 1, hn => simp at hn
      · exact ⟨rfl, .inr ⟨rr, 1, _, rfl, Nat.zero_le _, brr', Nat.le_refl _, by unfold maxLen; omega, rfl, rfl⟩⟩
  · intro b hb; rw [old _ (Nat.lt_of_lt_of_le hb h.le)]; exact h.lo b hb
  · intro x hx'
    rcases List.mem_append.1 hx' with h1 | h1
    · exact hA x h1
    · simp at h1; subst h1; rfl
end Go.Proofs.YtepneihjhcakhaaGreatDoor
