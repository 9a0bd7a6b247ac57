import Derived.Test.YtepneihjhcakhaaGreatDoorRefF
set_option linter.unusedVariables false
set_option linter.unusedSimpArgs false
namespace Go.Proofs.YtepneihjhcakhaaGreatDoor
open Go.RowKit

set_option maxRecDepth 100000 in
set_option maxHeartbeats 1000000 in
theorem late_none {w : World} {br g cap : Nat} {L : List Ent} (s : ByteArray) (leaf : Bool) (a b c d : Int) (y : Ent) (h : Late w br g cap L s a b c d) (hx : findE L (namesB (bl s)) = none) (hu : findE L (namesB (bl s)).dropLast = none) :
    Calls Tryz.prog 28 #[.pointer (some ⟨br, 0, none⟩), .agg #[.string s, .bool leaf, .int .i64 a, .int .i64 b, .int .i64 c, .int .i64 d]] w (CreateR br g L y 3 w) := by
  have hf1 := fun W => fair_any a b W
  have hf2 := fun W => fair_any c d W
  have b0 : Blk (w.alloc (.cells #[.string s, .bool leaf, .int .i64 a, .int .i64 b, .int .i64 c, .int .i64 d] 65)) w.heap.size 65 _ := Blk.new w 65 _
  have hq : (s.toList.isEmpty) = false := by rw [bl_toList]; simpa using h.ne
  rw [h.fa] at hf1
  rw [h.fb] at hf2
  obtain ⟨M, hM3, hM⟩ := h.nz
  have hn := fun W => names_pos s h.small h.valid M hM W
  have hjoin := fun W gg cp hr => h.join hM W gg cp hr
  have hat1 := fun W (hW : Below w.heap.size w W) => at_none (h.ref.below hW) h.ents h.inj s (namesB (bl s)) h.kok (joinB_namesB (bl s)).symm hx
  have hat2 := fun W (hW : Below w.heap.size w W) => at_none (h.ref.below hW) h.ents h.inj (sb (joinB (namesB (bl s)).dropLast)) (namesB (bl s)).dropLast h.kod (bl_sb _) hu
  clear hM hx hu h
  go_enter Tryz.func28, Tryz.ntmps28
  go_wp2_with (first
    | (go_at_call 34; refine (hn _).mono ?_; rintro e w1 ⟨⟨gg, cp, rfl, hcp1, hcp2, hrow⟩, hb1⟩; have hB1 : Below w.heap.size w w1 := bstep (by (repeat (first | (with_reducible exact Below.refl _ _) | (with_reducible assumption) | ((with_reducible refine Below.setCell ?_ ?_ _); rotate_left; (focus (first | omega | (simp <;> omega)))) | ((with_reducible refine Below.alloc ?_ ?_ _); rotate_left; (focus (first | omega | (simp <;> omega)))) | (with_reducible refine Below.drew ?_) | (with_reducible refine below_drewN ?_ _) | (refine bstep ?_ (by with_reducible assumption))))) hb1; have b1 := b0.below hb1 (by simp); have hcl := b1.cell; have hr1 := hrow)
    | (go_at_call 36; refine (hf1 _).mono ?_; clear hf1; rintro e w2 ⟨rfl, hb2⟩; have hB2 : Below w.heap.size w w2 := bstep hB1 hb2; have b2 := b1.below hb2 (by have := hb1.size; simp at this; omega); have hcl2 := b2.cell; clear hcl; have hr2 := hr1.below hb2)
    | (go_at_call 36; refine (hf2 _).mono ?_; clear hf2; rintro e w3 ⟨rfl, hb3⟩; have hB3 : Below w.heap.size w w3 := bstep hB2 hb3; have b3 := b2.below hb3 (by have := hb1.size; have := hb2.size; simp at *; omega); have hcl3 := b3.cell; clear hcl2; have hr3 := hr2.below hb3)
    | (go_at_call 43; refine (hjoin _ _ _ hr3).mono ?_; rintro e w9 ⟨rfl, hw9⟩; subst hw9)
    | (go_at_call 35; refine (hat1 _ hB3).mono ?_; clear hat1; rintro e w4 ⟨rfl, hw4⟩; subst hw4)
    | (go_at_call 35; refine (hat2 _ hB3).mono ?_; rintro e w5 ⟨rfl, hw5⟩; subst hw5))
  all_goals go_ret
  all_goals exact ⟨rfl, .inl ⟨by decide, hB3⟩⟩

set_option maxRecDepth 100000 in
set_option maxHeartbeats 1000000 in
theorem late_leaf {w : World} {br g cap : Nat} {L : List Ent} (s : ByteArray) (leaf : Bool) (a b c d : Int) (y u : Ent) (h : Late w br g cap L s a b c d) (hx : findE L (namesB (bl s)) = none) (hu : findE L (namesB (bl s)).dropLast = some u)
    (err : Int) (hl : (u.leaf = true ∧ err = 5) ∨ (u.leaf = false ∧ 20 ≤ L.length ∧ err = 7)) :
    Calls Tryz.prog 28 #[.pointer (some ⟨br, 0, none⟩), .agg #[.string s, .bool leaf, .int .i64 a, .int .i64 b, .int .i64 c, .int .i64 d]] w (CreateR br g L y err w) := by
  have hf1 := fun W => fair_any a b W
  have hf2 := fun W => fair_any c d W
  have b0 : Blk (w.alloc (.cells #[.string s, .bool leaf, .int .i64 a, .int .i64 b, .int .i64 c, .int .i64 d] 65)) w.heap.size 65 _ := Blk.new w 65 _
  have hq : (s.toList.isEmpty) = false := by rw [bl_toList]; simpa using h.ne
  rw [h.fa] at hf1
  rw [h.fb] at hf2
  obtain ⟨M, hM3, hM⟩ := h.nz
  have hn := fun W => names_pos s h.small h.valid M hM W
  have hjoin := fun W gg cp hr => h.join hM W gg cp hr
  have hat1 := fun W (hW : Below w.heap.size w W) => at_none (h.ref.below hW) h.ents h.inj s (namesB (bl s)) h.kok (joinB_namesB (bl s)).symm hx
  have hat2 : ∀ W, Below w.heap.size w W → Calls Tryz.prog 35 #[.pointer (some ⟨br, 0, none⟩), .string (sb (joinB (namesB (bl s)).dropLast))] W fun e w' => (∃ i : Nat, i < L.length ∧ e = .returned (.int .i64 i) ∧ W.cell? ⟨g, i * 6 + 1, none⟩ = some (.bool u.leaf) ∧ W.cell? ⟨br, 0, none⟩ = some (.slice (some ⟨g, 0, none⟩) L.length cap)) ∧ w' = W := fun W hW => by
    refine (at_some (h.ref.below hW) h.ents h.inj (sb (joinB (namesB (bl s)).dropLast)) (namesB (bl s)).dropLast h.kod (bl_sb _) hu).mono ?_
    rintro e w' ⟨⟨i, rfl, hi⟩, rfl⟩
    exact ⟨⟨i, (List.getElem?_eq_some_iff.1 hi).1, rfl, (h.ref.below hW).ent hi rfl, (h.ref.below hW).at_.cell 0⟩, rfl⟩
  have hcapL := h.ref.cap_le
  have hlen := h.ents.len
  clear hM hx hu h
  obtain ⟨n, hnL⟩ : ∃ n, n = L.length := ⟨_, rfl⟩
  rw [← hnL] at hat2 hl hcapL hlen
  clear hnL
  obtain ⟨hcap1, hcap2⟩ := hcapL
  rcases hl with ⟨hl, rfl⟩ | ⟨hl, h20, rfl⟩
  all_goals rw [hl] at hat2
  all_goals go_enter Tryz.func28, Tryz.ntmps28
  all_goals go_wp2_with (first
    | (go_at_call 34; refine (hn _).mono ?_; rintro e w1 ⟨⟨gg, cp, rfl, hcp1, hcp2, hrow⟩, hb1⟩; have hB1 : Below w.heap.size w w1 := bstep (by (repeat (first | (with_reducible exact Below.refl _ _) | (with_reducible assumption) | ((with_reducible refine Below.setCell ?_ ?_ _); rotate_left; (focus (first | omega | (simp <;> omega)))) | ((with_reducible refine Below.alloc ?_ ?_ _); rotate_left; (focus (first | omega | (simp <;> omega)))) | (with_reducible refine Below.drew ?_) | (with_reducible refine below_drewN ?_ _) | (refine bstep ?_ (by with_reducible assumption))))) hb1; have b1 := b0.below hb1 (by simp); have hcl := b1.cell; have hr1 := hrow)
    | (go_at_call 36; refine (hf1 _).mono ?_; clear hf1; rintro e w2 ⟨rfl, hb2⟩; have hB2 : Below w.heap.size w w2 := bstep hB1 hb2; have b2 := b1.below hb2 (by have := hb1.size; simp at this; omega); have hcl2 := b2.cell; clear hcl; have hr2 := hr1.below hb2)
    | (go_at_call 36; refine (hf2 _).mono ?_; clear hf2; rintro e w3 ⟨rfl, hb3⟩; have hB3 : Below w.heap.size w w3 := bstep hB2 hb3; have b3 := b2.below hb3 (by have := hb1.size; have := hb2.size; simp at *; omega); have hcl3 := b3.cell; clear hcl2; have hr3 := hr2.below hb3)
    | (go_at_call 43; refine (hjoin _ _ _ hr3).mono ?_; rintro e w9 ⟨rfl, hw9⟩; subst hw9)
    | (go_at_call 35; refine (hat1 _ hB3).mono ?_; clear hat1; rintro e w4 ⟨rfl, hw4⟩; subst hw4)
    | (go_at_call 35; refine (hat2 _ hB3).mono ?_; rintro e w5 ⟨⟨i, hi, rfl, hcu, hct⟩, hw5⟩; subst hw5))
  all_goals go_ret
  all_goals exact ⟨rfl, .inl ⟨by decide, hB3⟩⟩

theorem info65z : (Tryz.prog.info? 65).bind (fun i => i.zero) = some (.agg #[.string ⟨#[]⟩, .bool false, .int .i64 0, .int .i64 0, .int .i64 0, .int .i64 0]) := by kernel_rfl
theorem under66 : Tryz.prog.underlying 66 = some (.slice 65) := by kernel_rfl
theorem info65' : ∃ i0 z, Tryz.prog.info? 65 = some i0 ∧ i0.zero = some z ∧ i0.size = 6 ∧ i0.bytes = 56 ∧ z.cells.size = 6 := by
  have h1 := info65
  have h2 := info65z
  cases h : Tryz.prog.info? 65 with
  | none => rw [h] at h1; cases h1
  | some i0 =>
    rw [h] at h1 h2
    simp only [Option.map_some, Option.some.injEq, Prod.mk.injEq, Option.bind_some] at h1 h2
    exact ⟨i0, _, rfl, h2, h1.1, h1.2, by rfl⟩

theorem ref_append {W : World} {br g cap : Nat} {L : List Ent} (h : RefIn W br g cap L) (hL : L.length ≤ 20) (x : Ent) (nb : Nat) (hnb : Blk W nb 65 (entCells x).toArray) :
    ∃ v' w', (∀ ty, (Builtin.append_ #[66, 66] ty #[.slice (some ⟨g, 0, none⟩) L.length cap, .slice (some ⟨nb, 0, none⟩) 1 1]).run Tryz.prog W = .ok v' w') ∧
      ∃ g' cap', v' = .slice (some ⟨g', 0, none⟩) (L.length + 1) cap' ∧ w'.ownsRow 0 65 6 v' (L.length + 1) (entsCells (L ++ [x])) ∧ Keep (fun b => b = g) W w' ∧ (g' = g ∨ W.heap.size ≤ g') := by
  obtain ⟨i0, z, hi, hz, h6, h56, hc⟩ := info65'
  obtain ⟨v', w', hr, hown, hgr, hor⟩ := append_key (P := Tryz.prog) W 66 65 i0 z 6 56 under66 hi hz h6 h56 hc (by omega) _ L.length (entsCells L) h.row ⟨nb, 0, none⟩ 1 1 (by omega) (entCells x) (by simp [entCells])
    (fun j u hu => by rw [Addr.add_lit, Nat.zero_add, hnb.cell]; simpa using hu) (by intro u hu; simp [entCells] at hu; rcases hu with rfl | rfl | rfl | rfl | rfl | rfl <;> rfl) (by unfold maxLen; omega) (by omega)
  obtain ⟨g', cap', rfl, _, _⟩ := ownsRow_form hown (by omega)
  refine ⟨_, w', hr, g', cap', rfl, by simpa [entsCells] using hown, (Keep.refl _ _).grown hgr (fun k hk => by simp [Value.ownBlock] at hk; exact hk.symm), ?_⟩
  rcases hor with e | ⟨g2, e, h2⟩
  · simp [Value.ownBlock] at e; exact .inl e
  · simp [Value.ownBlock] at e; subst e; exact .inr h2

set_option maxRecDepth 100000 in
set_option maxHeartbeats 1000000 in
theorem late_new {w : World} {br g cap : Nat} {L : List Ent} (s : ByteArray) (leaf : Bool) (a b c d : Int) (u : Ent) (h : Late w br g cap L s a b c d) (hx : findE L (namesB (bl s)) = none) (hu : findE L (namesB (bl s)).dropLast = some u)
    (hl : u.leaf = false) (h20 : L.length < 20) :
    Calls Tryz.prog 28 #[.pointer (some ⟨br, 0, none⟩), .agg #[.string s, .bool leaf, .int .i64 a, .int .i64 b, .int .i64 c, .int .i64 d]] w (CreateR br g L ⟨namesB (bl s), leaf, a, b, c, d⟩ 0 w) := by
  have hf1 := fun W => fair_any a b W
  have hf2 := fun W => fair_any c d W
  have b0 : Blk (w.alloc (.cells #[.string s, .bool leaf, .int .i64 a, .int .i64 b, .int .i64 c, .int .i64 d] 65)) w.heap.size 65 _ := Blk.new w 65 _
  have hq : (s.toList.isEmpty) = false := by rw [bl_toList]; simpa using h.ne
  rw [h.fa] at hf1
  rw [h.fb] at hf2
  obtain ⟨M, hM3, hM⟩ := h.nz
  have hn := fun W => names_pos s h.small h.valid M hM W
  have hjoin := fun W gg cp hr => h.join hM W gg cp hr
  have hat1 := fun W (hW : Below w.heap.size w W) => at_none (h.ref.below hW) h.ents h.inj s (namesB (bl s)) h.kok (joinB_namesB (bl s)).symm hx
  have hat2 : ∀ W, Below w.heap.size w W → Calls Tryz.prog 35 #[.pointer (some ⟨br, 0, none⟩), .string (sb (joinB (namesB (bl s)).dropLast))] W fun e w' => (∃ i : Nat, i < L.length ∧ e = .returned (.int .i64 i) ∧ W.cell? ⟨g, i * 6 + 1, none⟩ = some (.bool u.leaf) ∧ Blk W br 69 #[.slice (some ⟨g, 0, none⟩) L.length cap, .slice none 0 0, .int .i64 0, .int .i64 0]) ∧ w' = W := fun W hW => by
    refine (at_some (h.ref.below hW) h.ents h.inj (sb (joinB (namesB (bl s)).dropLast)) (namesB (bl s)).dropLast h.kod (bl_sb _) hu).mono ?_
    rintro e w' ⟨⟨i, rfl, hi⟩, rfl⟩
    exact ⟨⟨i, (List.getElem?_eq_some_iff.1 hi).1, rfl, (h.ref.below hW).ent hi rfl, (h.ref.below hW).at_⟩, rfl⟩
  have hap : ∀ W, Below w.heap.size w W → ∀ nb, Blk W nb 65 #[.string s, .bool leaf, .int .i64 a, .int .i64 b, .int .i64 c, .int .i64 d] →
    ∃ v' w', (∀ ty, (Builtin.append_ #[66, 66] ty #[.slice (some ⟨g, 0, none⟩) L.length cap, .slice (some ⟨nb, 0, none⟩) 1 1]).run Tryz.prog W = .ok v' w') ∧
      (∃ g' cap', v' = .slice (some ⟨g', 0, none⟩) (L.length + 1) cap' ∧ Blk w' br 69 #[.slice (some ⟨g, 0, none⟩) L.length cap, .slice none 0 0, .int .i64 0, .int .i64 0] ∧
        Hid (∀ w'', w'' = w'.setCell ⟨br, 0, none⟩ (.slice (some ⟨g', 0, none⟩) (L.length + 1) cap') → CreateR br g L ⟨namesB (bl s), leaf, a, b, c, d⟩ 0 w (.returned (.int .i64 0)) w'')) := fun W hW nb hnb => by
    have hk : (entCells ⟨namesB (bl s), leaf, a, b, c, d⟩).toArray = #[.string s, .bool leaf, .int .i64 a, .int .i64 b, .int .i64 c, .int .i64 d] := by
      simp only [entCells, joinB_namesB, sb_bl]
    obtain ⟨v', w', hr, g', cap', rfl, hown, hkp, hor⟩ := ref_append (h.ref.below hW) (by omega) ⟨namesB (bl s), leaf, a, b, c, d⟩ nb (by rw [hk]; exact hnb)
    have hbr := (h.ref.below hW).at_.keep hkp h.ref.ne
    refine ⟨_, w', hr, g', cap', rfl, hbr, ?_⟩
    suffices hh : (∀ w'', w'' = w'.setCell ⟨br, 0, none⟩ (.slice (some ⟨g', 0, none⟩) (L.length + 1) cap') → CreateR br g L ⟨namesB (bl s), leaf, a, b, c, d⟩ 0 w (.returned (.int .i64 0)) w'') from hh
    refine fun w'' hw'' => ⟨rfl, .inr ⟨rfl, g', cap', ⟨?_, ?_⟩, ?_, ?_⟩⟩
    · subst hw''
      have := hbr.set 0 (.slice (some ⟨g', 0, none⟩) (L.length + 1) cap')
      rw [show (L ++ [(⟨namesB (bl s), leaf, a, b, c, d⟩ : Ent)]).length = L.length + 1 by simp]
      exact this
    · subst hw''
      rw [show (L ++ [(⟨namesB (bl s), leaf, a, b, c, d⟩ : Ent)]).length = L.length + 1 by simp]
      obtain ⟨h1, h2⟩ := hown
      refine ⟨h1, ?_⟩
      rcases h2 with ⟨h2, _⟩ | ⟨g2, cap2, cur, h2, h3, h4, h5⟩
      · cases h2
      · have e1 : g' = g2 := by injection h2 with e _ _; injection e with e; injection e with e
        subst e1
        have hne : g' ≠ br := by
          rcases hor with rfl | hge
          · exact h.ref.ne.symm
          · have := (h.ref.below hW).at_.lt; omega
        exact .inr ⟨g', cap2, cur, h2, h3, (Below.heap_setCell w' _ _ g' hne).trans h4, h5⟩
    · subst hw''
      exact ((Keep.trans (T := fun b => b = br ∨ b = g) (Keep.new hW) (hkp.mono (fun b hb => Or.inr hb))).setCell (p := ⟨br, 0, none⟩) (Or.inl rfl) _)
    · rcases hor with rfl | hge
      · exact .inl rfl
      · exact .inr (Nat.le_trans hW.size hge)
  have hcapL := h.ref.cap_le
  have hlen := h.ents.len
  clear hM hx hu h
  obtain ⟨X, hX⟩ : ∃ X, X = CreateR br g L ⟨namesB (bl s), leaf, a, b, c, d⟩ 0 w := ⟨_, rfl⟩
  rw [← hX] at hap ⊢
  clear hX
  obtain ⟨n, hnL⟩ : ∃ n, n = L.length := ⟨_, rfl⟩
  rw [← hnL] at hat2 hcapL hlen h20 hap
  clear hnL
  obtain ⟨hcap1, hcap2⟩ := hcapL
  rw [hl] at hat2
  go_enter Tryz.func28, Tryz.ntmps28
  go_wp2_with (first
    | (go_at_call 34; refine (hn _).mono ?_; rintro e w1 ⟨⟨gg, cp, rfl, hcp1, hcp2, hrow⟩, hb1⟩; have hB1 : Below w.heap.size w w1 := bstep (by (repeat (first | (with_reducible exact Below.refl _ _) | (with_reducible assumption) | ((with_reducible refine Below.setCell ?_ ?_ _); rotate_left; (focus (first | omega | (simp <;> omega)))) | ((with_reducible refine Below.alloc ?_ ?_ _); rotate_left; (focus (first | omega | (simp <;> omega)))) | (with_reducible refine Below.drew ?_) | (with_reducible refine below_drewN ?_ _) | (refine bstep ?_ (by with_reducible assumption))))) hb1; have b1 := b0.below hb1 (by simp); have hcl := b1.cell; have hr1 := hrow)
    | (go_at_call 36; refine (hf1 _).mono ?_; clear hf1; rintro e w2 ⟨rfl, hb2⟩; have hB2 : Below w.heap.size w w2 := bstep hB1 hb2; have b2 := b1.below hb2 (by have := hb1.size; simp at this; omega); have hcl2 := b2.cell; clear hcl; have hr2 := hr1.below hb2)
    | (go_at_call 36; refine (hf2 _).mono ?_; clear hf2; rintro e w3 ⟨rfl, hb3⟩; have hB3 : Below w.heap.size w w3 := bstep hB2 hb3; have b3 := b2.below hb3 (by have := hb1.size; have := hb2.size; simp at *; omega); have hcl3 := b3.cell; clear hcl2; have hr3 := hr2.below hb3)
    | (go_at_call 43; refine (hjoin _ _ _ hr3).mono ?_; rintro e w9 ⟨rfl, hw9⟩; subst hw9)
    | (go_at_call 35; refine (hat1 _ hB3).mono ?_; clear hat1; rintro e w4 ⟨rfl, hw4⟩; subst hw4)
    | (go_at_call 35; refine (hat2 _ hB3).mono ?_; rintro e w5 ⟨⟨i, hi, rfl, hcu, hbr⟩, hw5⟩; subst hw5; have hsz := hB3.size; have hlt5 := hbr.lt; have hct := hbr.cell 0; simp only [List.getElem?_toArray, List.getElem?_cons_zero] at hct))
  go_region_law (refine step_append_key rfl (.tmp 79) (.tmp 81) 66 66 rfl _ _ ?_ ?_ (hap _ ?_ ?_ ?_) ?_; (focus (simp [Act.eval, Act.put])); (focus ((try simp [Act.eval, Act.put]); (try rfl))); (focus (repeat (first | (with_reducible exact Below.refl _ _) | (with_reducible assumption) | ((with_reducible refine Below.setCell ?_ ?_ _); rotate_left; (focus (first | omega | (simp <;> omega)))) | ((with_reducible refine Below.alloc ?_ ?_ _); rotate_left; (focus (first | omega | (simp <;> omega)))) | (with_reducible refine Below.drew ?_) | (with_reducible refine below_drewN ?_ _) | (refine bstep ?_ (by with_reducible assumption))))); (focus (repeat (first | (with_reducible assumption) | ((with_reducible refine Blk.new' ?_); simp; done) | (with_reducible refine Blk.alloc ?_ _) | (with_reducible refine Blk.drew ?_) | (with_reducible refine Blk.drewN ?_ _)))); rintro v' wA ⟨g', cap', rfl, hbA, hfin⟩; have hcA := hbA.cell 0; have hfA := hbA.frozen 0; simp only [List.getElem?_toArray, List.getElem?_cons_zero] at hcA)
  all_goals go_wp2
  all_goals exact hfin.out _ rfl
end Go.Proofs.YtepneihjhcakhaaGreatDoor
