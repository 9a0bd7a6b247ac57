import Derived.Test.YtepneihjhcakhaaGreatDoorLawC
set_option linter.unusedVariables false
set_option linter.unusedSimpArgs false
namespace Go.Proofs.YtepneihjhcakhaaGreatDoor
open Go.RowKit

theorem ListOK.keep {T : Nat → Prop} {W W' : World} {c : Nat} {v : Value} {m : Int} (h : ListOK W c v m) (hk : Keep T W W') (hT : ∀ g, v.ownBlock = some g → ¬ T g) : ListOK W' c v m := by
  rcases h with rfl | ⟨b, len, cap, rfl, h1, h2, h3, h4, h5⟩
  · exact .inl rfl
  · exact .inr ⟨b, len, cap, rfl, h1, h2, h3, Nat.lt_of_lt_of_le h4 hk.size, fun j hj => (hk.cell (p := ⟨b, j, none⟩) h4 (hT b rfl)).trans (h5 j hj)⟩

theorem Marked.keep {T : Nat → Prop} {W W' : World} {c : Nat} {tl : TypeId} {sl slm : Value} {ns : List Value} {ms : List Int} (h : Marked W c tl sl slm ns ms) (hk : Keep T W W')
    (h1 : ∀ g, sl.ownBlock = some g → ¬ T g) (h2 : ∀ g, slm.ownBlock = some g → ¬ T g) (h3 : ∀ v ∈ ns, ∀ g, v.ownBlock = some g → ¬ T g) : Marked W' c tl sl slm ns ms :=
  ⟨row_keep h.row hk h1, row_keep h.mrow hk h2, h.len, fun i v m hv hm => (h.ok i v m hv hm).keep hk (h3 v (List.mem_of_getElem? hv))⟩

theorem app_list {W w' : World} {e : TypeId} {c len g cap : Nat} {m : Int} {xs : List Value} (h : AppR W none e c len xs g cap w') (hl3 : len ≤ 3) (hx : ∀ j, j < len * c → xs[j]? = some (.int .i64 m)) : ListOK w' c (.slice (some ⟨g, 0, none⟩) len cap) m ∧ W.heap.size ≤ g ∧ g < w'.heap.size := by
  have hg : g < w'.heap.size := row_lt h.own rfl
  refine ⟨.inr ⟨g, len, cap, rfl, hl3, h.le, h.mx, hg, fun j hj => ?_⟩, ?_, hg⟩
  · have := h.own.cells (g := g) rfl j _ (hx j hj)
    rwa [Addr.add_lit, Nat.zero_add] at this
  · rcases h.new with e | e
    · cases e
    · exact e

/-- Behind a list that was owned. -/
structure OwnQ (W : World) (bw f1 f3 : Nat) (lt : TypeId) (c : Nat) (vs : Array Value) (slN slA : Value) (ns : List Value) (ms : List Int) (m : Int) (g1 g2 g3 gN gA : Nat) (sN sA s1 s2 s3 : Value) (w' : World) : Prop where
  keep : Keep (fun b => b = bw ∨ slN.ownBlock = some b ∨ slA.ownBlock = some b) W w'
  marked : Marked w' c lt sN sA (ns ++ [.slice none 0 0, s1, s2, s3]) (ms ++ [m, m, m, m])
  blk : Blk w' bw 32 ((vs.setIfInBounds f1 sN).setIfInBounds f3 sA)
  o1 : s1.ownBlock = some g1 ∧ W.heap.size ≤ g1
  o2 : s2.ownBlock = some g2 ∧ g1 < g2
  o3 : s3.ownBlock = some g3 ∧ g2 < g3
  oN : sN.ownBlock = some gN ∧ (slN.ownBlock = some gN ∨ g3 < gN)
  oA : sA.ownBlock = some gA ∧ (slA.ownBlock = some gA ∨ (g3 < gA ∧ gN < gA))

theorem own_marked {W : World} {bw f1 f3 : Nat} {el lt : TypeId} {c : Nat} {vs : Array Value} {slN slA : Value} {ns : List Value} {ms : List Int} {xm : List Value} {m : Int}
    {w1 w2 w3 wN wA U1 U2 U3 U4 U5 : World} {g1 k1 g2 k2 g3 k3 gN kN gA kA : Nat} {w' : World}
    (hb : Blk W bw 32 vs) (hM : Marked W c lt slN slA ns ms) (hx : ∀ j, j < c → xm[j]? = some (.int .i64 m)) (hxl : xm.length = c)
    (hne1 : slN.ownBlock ≠ some bw) (hne2 : slA.ownBlock ≠ some bw) (hne3 : ∀ g, slN.ownBlock = some g → slA.ownBlock ≠ some g)
    (hL : ∀ v ∈ ns, ∀ g, v.ownBlock = some g → g ≠ bw ∧ slN.ownBlock ≠ some g ∧ slA.ownBlock ≠ some g)
    (h : OwnP W bw f1 f3 el lt lt c vs slN slA ns ms xm m ns.length w1 w2 w3 wN wA U1 U2 U3 U4 U5 g1 k1 g2 k2 g3 k3 gN kN gA kA w') :
    OwnQ W bw f1 f3 lt c vs slN slA ns ms m g1 g2 g3 gN gA (.slice (some ⟨gN, 0, none⟩) (ns.length + 4) kN) (.slice (some ⟨gA, 0, none⟩) (ns.length + 4) kA) (.slice (some ⟨g1, 0, none⟩) 1 k1) (.slice (some ⟨g2, 0, none⟩) 2 k2) (.slice (some ⟨g3, 0, none⟩) 3 k3) w' := by
  obtain ⟨T, hT⟩ : ∃ T : Nat → Prop, T = fun b => b = bw ∨ slN.ownBlock = some b ∨ slA.ownBlock = some b := ⟨_, rfl⟩
  have hTlt : ∀ b, T b → b < W.heap.size := fun b hb' => by
    rw [hT] at hb'
    rcases hb' with rfl | h1 | h1
    · exact hb.lt
    · exact row_lt hM.row h1
    · exact row_lt hM.mrow h1
  have x2 : ∀ j, j < 2 * c → (xm ++ xm)[j]? = some (.int .i64 m) := fun j hj => by
    rcases Nat.lt_or_ge j c with h1 | h1
    · rw [List.getElem?_append_left (by omega)]; exact hx j h1
    · rw [List.getElem?_append_right (by omega), hxl]; exact hx _ (by omega)
  have x3 : ∀ j, j < 3 * c → (xm ++ xm ++ xm)[j]? = some (.int .i64 m) := fun j hj => by
    rcases Nat.lt_or_ge j (2 * c) with h1 | h1
    · rw [List.getElem?_append_left (by simp; omega)]; exact x2 j h1
    · rw [List.getElem?_append_right (by simp; omega)]; simp only [List.length_append, hxl]; exact hx _ (by omega)
  obtain ⟨l1, q1, r1⟩ := app_list h.a1 (by omega) (fun j hj => hx j (by omega))
  obtain ⟨l2, q2, r2⟩ := app_list h.a2 (by omega) x2
  obtain ⟨l3, q3, r3⟩ := app_list h.a3 (by omega) x3
  have z1 := h.u1.size
  have z2 := h.u2.size
  have z3 := h.u3.size
  have z4 := h.u4.size
  have y1 := h.a1.keep.size
  have y2 := h.a2.keep.size
  have y3 := h.a3.keep.size
  have yN := h.aN.keep.size
  have z5 : wN.heap.size ≤ U5.heap.size := by have := h.u5.size; simpa using this
  have hgN : gN < wN.heap.size := row_lt h.aN.own rfl
  have kA' : Keep T wA w' := by rw [h.end_]; exact (Keep.refl _ _).setCell (p := ⟨bw, f3, none⟩) (by rw [hT]; exact Or.inl rfl) _
  have k5 : Keep T U5 wA := h.aA.keep.mono (fun b hb' => by rw [hT]; exact Or.inr (Or.inr hb'))
  have k45 : Keep T wN U5 := by
    have e1 : Keep T wN (wN.setCell ⟨bw, f1, none⟩ (.slice (some ⟨gN, 0, none⟩) (ns.length + 4) kN)) := (Keep.refl _ _).setCell (p := ⟨bw, f1, none⟩) (by rw [hT]; exact Or.inl rfl) _
    have e2 : Keep T (wN.setCell ⟨bw, f1, none⟩ (.slice (some ⟨gN, 0, none⟩) (ns.length + 4) kN)) U5 := Keep.new (by have := h.u5; simpa using this)
    exact e1.trans e2
  have k4 : Keep T U4 wN := h.aN.keep.mono (fun b hb' => by rw [hT]; exact Or.inr (Or.inl hb'))
  have k3' : Keep T w3 w' := ((((Keep.new h.u4 : Keep T w3 U4).trans k4).trans k45).trans k5).trans kA'
  have k2' : Keep T w2 w' := ((Keep.new h.u3 : Keep T w2 U3).trans (Keep.new h.a3.below)).trans k3'
  have k1' : Keep T w1 w' := ((Keep.new h.u2 : Keep T w1 U2).trans (Keep.new h.a2.below)).trans k2'
  have k0' : Keep T W w' := ((Keep.new h.u1 : Keep T W U1).trans (Keep.new h.a1.below)).trans k1'
  have hTg : ∀ g, W.heap.size ≤ g → ¬ T g := fun g hg ht => by have := hTlt g ht; omega
  have hNT : gN ≠ bw ∧ slA.ownBlock ≠ some gN := by
    rcases h.aN.new with e | e
    · exact ⟨fun e2 => hne1 (by rw [e, e2]), hne3 gN e⟩
    · refine ⟨fun e2 => ?_, fun e2 => ?_⟩
      · have := hb.lt; omega
      · have := row_lt hM.mrow e2; omega
  have hAT : gA ≠ bw := by
    rcases h.aA.new with e | e
    · exact fun e2 => hne2 (by rw [e, e2])
    · intro e2; have := hb.lt; omega
  have hlen := hM.len
  refine ⟨by rw [← hT]; exact k0', ⟨?_, ?_, ?_, ?_⟩, ?_, ⟨rfl, by omega⟩, ⟨rfl, by omega⟩, ⟨rfl, by omega⟩, ⟨rfl, ?_⟩, ⟨rfl, ?_⟩⟩
  · -- the row of lists
    rw [show (ns ++ [(.slice none 0 0 : Value), .slice (some ⟨g1, 0, none⟩) 1 k1, .slice (some ⟨g2, 0, none⟩) 2 k2, .slice (some ⟨g3, 0, none⟩) 3 k3]).length = ns.length + 4 by simp]
    have kk : Keep (fun b => b = bw ∨ slA.ownBlock = some b) wN w' := by
      have e1 : Keep (fun b => b = bw ∨ slA.ownBlock = some b) wN (wN.setCell ⟨bw, f1, none⟩ (.slice (some ⟨gN, 0, none⟩) (ns.length + 4) kN)) := (Keep.refl _ _).setCell (p := ⟨bw, f1, none⟩) (Or.inl rfl) _
      have e2 : Keep (fun b => b = bw ∨ slA.ownBlock = some b) (wN.setCell ⟨bw, f1, none⟩ (.slice (some ⟨gN, 0, none⟩) (ns.length + 4) kN)) U5 := Keep.new (by have := h.u5; simpa using this)
      have e3 : Keep (fun b => b = bw ∨ slA.ownBlock = some b) U5 wA := h.aA.keep.mono (fun b hb' => Or.inr hb')
      have e4 : Keep (fun b => b = bw ∨ slA.ownBlock = some b) wA w' := by rw [h.end_]; exact (Keep.refl _ _).setCell (p := ⟨bw, f3, none⟩) (Or.inl rfl) _
      exact ((e1.trans e2).trans e3).trans e4
    exact row_keep h.aN.own kk (fun g hg => by simp [Value.ownBlock] at hg; subst hg; rintro (e | e); exact hNT.1 e; exact hNT.2 e)
  · rw [show (ms ++ [m, m, m, m]).length = ns.length + 4 by simp [hlen]]
    rw [show ints (ms ++ [m, m, m, m]) = ints ms ++ [.int .i64 m, .int .i64 m, .int .i64 m, .int .i64 m] by simp [ints]]
    have e4 : Keep (fun b => b = bw) wA w' := by rw [h.end_]; exact (Keep.refl (fun b => b = bw) _).setCell (p := ⟨bw, f3, none⟩) rfl _
    exact row_keep h.aA.own e4 (fun g hg => by simp [Value.ownBlock] at hg; subst hg; exact hAT)
  · simp [hlen]
  · intro i v m' hv hm'
    rcases Nat.lt_or_ge i ns.length with hi | hi
    · rw [List.getElem?_append_left hi] at hv
      rw [List.getElem?_append_left (by omega)] at hm'
      exact (hM.ok i v m' hv hm').keep k0' (fun g hg => by
        obtain ⟨a1, a2, a3⟩ := hL v (List.mem_of_getElem? hv) g hg
        rw [hT]; rintro (e | e | e)
        · exact a1 e
        · exact a2 e
        · exact a3 e)
    · rw [List.getElem?_append_right hi] at hv
      rw [List.getElem?_append_right (by omega)] at hm'
      rw [← hlen] at hm'
      generalize i - ns.length = q at hv hm'
      match q, hv, hm' with
      | 0, hv, hm' => simp at hv; subst hv; exact .inl rfl
      | 1, hv, hm' => simp at hv hm'; subst hv hm'; exact l1.keep k1' (fun g hg => by simp [Value.ownBlock] at hg; subst hg; exact hTg _ (by omega))
      | 2, hv, hm' => simp at hv hm'; subst hv hm'; exact l2.keep k2' (fun g hg => by simp [Value.ownBlock] at hg; subst hg; exact hTg _ (by omega))
      | 3, hv, hm' => simp at hv hm'; subst hv hm'; exact l3.keep k3' (fun g hg => by simp [Value.ownBlock] at hg; subst hg; exact hTg _ (by omega))
      | q + 4, hv, hm' => simp at hv
  · -- the block
    have e0 : Blk wN bw 32 vs := by
      have kk : Keep (fun b => slN.ownBlock = some b) W wN := (((((((Keep.new h.u1 : Keep (fun b => slN.ownBlock = some b) W U1).trans (Keep.new h.a1.below)).trans (Keep.new h.u2)).trans (Keep.new h.a2.below)).trans (Keep.new h.u3)).trans (Keep.new h.a3.below)).trans (Keep.new h.u4)).trans h.aN.keep
      exact hb.keep kk hne1
    have e1 := e0.set f1 (.slice (some ⟨gN, 0, none⟩) (ns.length + 4) kN)
    have e2 : Blk U5 bw 32 _ := e1.keep (T := fun _ => False) (Keep.new (by have := h.u5; simpa using this)) (fun h => h)
    have e3 := e2.keep h.aA.keep hne2
    rw [h.end_]
    exact e3.set f3 _
  · rcases h.aN.new with e | e
    · exact .inl e
    · exact .inr (by omega)
  · rcases h.aA.new with e | e
    · exact .inl e
    · exact .inr ⟨by omega, by omega⟩
end Go.Proofs.YtepneihjhcakhaaGreatDoor
