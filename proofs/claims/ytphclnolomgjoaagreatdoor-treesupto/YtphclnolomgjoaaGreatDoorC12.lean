import Derived.Test.YtphclnolomgjoaaGreatDoorC06
import Derived.Test.YtphclnolomgjoaaGreatDoorC11
set_option linter.unusedVariables false
set_option linter.unusedSimpArgs false
namespace Go.Proofs.YtphclnolomgjoaaGreatDoor
open Go.RowKit
set_option maxRecDepth 100000 in
set_option maxHeartbeats 1000000 in
theorem qsd {v1 v2 v3 : Value} {w : World} {br g cap : Nat} {L : List Ent} (s : ByteArray) (leaf : Bool) (a b c d : Int) (y : Ent) (h : Late v1 v2 v3 w br g cap L s a b c d) (hx : qcv L (qaa (bl s)) = none) (hu : qcv L (qaa (bl s)).dropLast = none) :
  Calls Tryz.prog 108 #[.pointer (some ⟨br, 0, none⟩), .agg #[.string s, .bool leaf, .int .i64 a, .int .i64 b, .int .i64 c, .int .i64 d]] w (qeg v1 v2 v3 br g L y 3 w) := by
 have hf1 := fun W => qcg a b W
 have hf2 := fun W => qcg c d W
 have b0 : Blk (w.alloc (.cells #[.string s, .bool leaf, .int .i64 a, .int .i64 b, .int .i64 c, .int .i64 d] 163)) w.heap.size 163 _ := Blk.new w 163 _
 have hq : (s.toList.isEmpty) = false := by rw [qaz]; simpa using h.ne
 rw [h.fa] at hf1
 rw [h.fb] at hf2
 obtain ⟨M, hM3, hM⟩ := h.nz
 have hn := fun W => qga s h.small h.valid M hM W
 have hjoin := fun W gg cp hr => h.join hM W gg cp hr
 have hat1 := fun W (hW : Below w.heap.size w W) => qgx (h.ref.below hW) h.ents h.inj s (qaa (bl s)) h.kok (qa6 (bl s)).symm hx
 have hat2 := fun W (hW : Below w.heap.size w W) => qgx (h.ref.below hW) h.ents h.inj (sb (joinB (qaa (bl s)).dropLast)) (qaa (bl s)).dropLast h.kod (qbi _) hu
 clear hM hx hu h
 go_enter Tryz.func108, Tryz.ntmps108
 go_wp2_with (first
  | (go_at_call 113; refine (hn _).mono ?_; rintro e w1 ⟨⟨gg, cp, rfl, hcp1, hcp2, hrow⟩, hb1⟩; have hB1 : Below w.heap.size w w1 := qac (by exact bel2) hb1; have b1 := b0.below hb1 (by simp); have hcl := b1.cell; have hr1 := hrow)
  | (go_at_call 115; refine (hf1 _).mono ?_; clear hf1; rintro e w2 ⟨rfl, hb2⟩; have hB2 : Below w.heap.size w w2 := qac hB1 hb2; have b2 := b1.below hb2 (by have := hb1.size; simp at this; omega); have hcl2 := b2.cell; clear hcl; have hr2 := hr1.below hb2)
  | (go_at_call 115; refine (hf2 _).mono ?_; clear hf2; rintro e w3 ⟨rfl, hb3⟩; have hB3 : Below w.heap.size w w3 := qac hB2 hb3; have b3 := b2.below hb3 (by have := hb1.size; have := hb2.size; simp at *; omega); have hcl3 := b3.cell; clear hcl2; have hr3 := hr2.below hb3)
  | (go_at_call 122; refine (hjoin _ _ _ hr3).mono ?_; rintro e w9 ⟨rfl, hw9⟩; subst hw9)
  | (go_at_call 114; refine (hat1 _ hB3).mono ?_; clear hat1; rintro e w4 ⟨rfl, hw4⟩; subst hw4)
  | (go_at_call 114; refine (hat2 _ hB3).mono ?_; rintro e w5 ⟨rfl, hw5⟩; subst hw5))
 all_goals go_ret
 all_goals exact ⟨rfl, .inl ⟨by decide, hB3⟩⟩
set_option maxRecDepth 100000 in
set_option maxHeartbeats 1000000 in
theorem qk8 {v1 v2 v3 : Value} {w : World} {br g cap : Nat} {L : List Ent} (s : ByteArray) (leaf : Bool) (a b c d : Int) (y u : Ent) (h : Late v1 v2 v3 w br g cap L s a b c d) (hx : qcv L (qaa (bl s)) = none) (hu : qcv L (qaa (bl s)).dropLast = some u)
  (err : Int) (hl : (u.leaf = true /\ err = 5) \/ (u.leaf = false /\ 20 <= L.length /\ err = 7)) :
  Calls Tryz.prog 108 #[.pointer (some ⟨br, 0, none⟩), .agg #[.string s, .bool leaf, .int .i64 a, .int .i64 b, .int .i64 c, .int .i64 d]] w (qeg v1 v2 v3 br g L y err w) := by
 have hf1 := fun W => qcg a b W
 have hf2 := fun W => qcg c d W
 have b0 : Blk (w.alloc (.cells #[.string s, .bool leaf, .int .i64 a, .int .i64 b, .int .i64 c, .int .i64 d] 163)) w.heap.size 163 _ := Blk.new w 163 _
 have hq : (s.toList.isEmpty) = false := by rw [qaz]; simpa using h.ne
 rw [h.fa] at hf1
 rw [h.fb] at hf2
 obtain ⟨M, hM3, hM⟩ := h.nz
 have hn := fun W => qga s h.small h.valid M hM W
 have hjoin := fun W gg cp hr => h.join hM W gg cp hr
 have hat1 := fun W (hW : Below w.heap.size w W) => qgx (h.ref.below hW) h.ents h.inj s (qaa (bl s)) h.kok (qa6 (bl s)).symm hx
 have hat2 : ∀ W, Below w.heap.size w W -> Calls Tryz.prog 114 #[.pointer (some ⟨br, 0, none⟩), .string (sb (joinB (qaa (bl s)).dropLast))] W fun e w' => (∃ i : Nat, i < L.length /\ e = .returned (.int .i64 i) /\ W.cell? ⟨g, i * 6 + 1, none⟩ = some (.bool u.leaf) /\ W.cell? ⟨br, 0, none⟩ = some (.slice (some ⟨g, 0, none⟩) L.length cap)) /\ w' = W := fun W hW => by
  refine (qib (h.ref.below hW) h.ents h.inj (sb (joinB (qaa (bl s)).dropLast)) (qaa (bl s)).dropLast h.kod (qbi _) hu).mono ?_
  rintro e w' ⟨⟨i, rfl, hi⟩, rfl⟩
  exact ⟨⟨i, (List.getElem?_eq_some_iff.1 hi).1, rfl, (h.ref.below hW).ent hi rfl, (h.ref.below hW).at_.cell 0⟩, rfl⟩
 have hcapL := h.ref.qjv
 have hlen := h.ents.len
 clear hM hx hu h
 obtain ⟨n, hnL⟩ : ∃ n, n = L.length := ⟨_, rfl⟩
 rw [<- hnL] at hat2 hl hcapL hlen
 clear hnL
 obtain ⟨hcap1, hcap2⟩ := hcapL
 rcases hl with ⟨hl, rfl⟩ | ⟨hl, h20, rfl⟩
 all_goals rw [hl] at hat2
 all_goals go_enter Tryz.func108, Tryz.ntmps108
 all_goals go_wp2_with (first
  | (go_at_call 113; refine (hn _).mono ?_; rintro e w1 ⟨⟨gg, cp, rfl, hcp1, hcp2, hrow⟩, hb1⟩; have hB1 : Below w.heap.size w w1 := qac (by exact bel2) hb1; have b1 := b0.below hb1 (by simp); have hcl := b1.cell; have hr1 := hrow)
  | (go_at_call 115; refine (hf1 _).mono ?_; clear hf1; rintro e w2 ⟨rfl, hb2⟩; have hB2 : Below w.heap.size w w2 := qac hB1 hb2; have b2 := b1.below hb2 (by have := hb1.size; simp at this; omega); have hcl2 := b2.cell; clear hcl; have hr2 := hr1.below hb2)
  | (go_at_call 115; refine (hf2 _).mono ?_; clear hf2; rintro e w3 ⟨rfl, hb3⟩; have hB3 : Below w.heap.size w w3 := qac hB2 hb3; have b3 := b2.below hb3 (by have := hb1.size; have := hb2.size; simp at *; omega); have hcl3 := b3.cell; clear hcl2; have hr3 := hr2.below hb3)
  | (go_at_call 122; refine (hjoin _ _ _ hr3).mono ?_; rintro e w9 ⟨rfl, hw9⟩; subst hw9)
  | (go_at_call 114; refine (hat1 _ hB3).mono ?_; clear hat1; rintro e w4 ⟨rfl, hw4⟩; subst hw4)
  | (go_at_call 114; refine (hat2 _ hB3).mono ?_; rintro e w5 ⟨⟨i, hi, rfl, hcu, hct⟩, hw5⟩; subst hw5))
 all_goals go_ret
 all_goals exact ⟨rfl, .inl ⟨by decide, hB3⟩⟩
theorem qvq : (Tryz.prog.info? 163).bind (fun i => i.zero) = some (.agg #[.string ⟨#[]⟩, .bool false, .int .i64 0, .int .i64 0, .int .i64 0, .int .i64 0]) := by kernel_rfl
theorem qvo : Tryz.prog.underlying 164 = some (.slice 163) := by kernel_rfl
theorem qvw : ∃ i0 z, Tryz.prog.info? 163 = some i0 /\ i0.zero = some z /\ i0.size = 6 /\ i0.bytes = 56 /\ z.cells.size = 6 := by
 have h1 := qwl
 have h2 := qvq
 cases h : Tryz.prog.info? 163 with
 | none => rw [h] at h1; cases h1
 | some i0 =>
  rw [h] at h1 h2
  simp only [Option.map_some, Option.some.injEq, Prod.mk.injEq, Option.bind_some] at h1 h2
  exact ⟨i0, _, rfl, h2, h1.1, h1.2, by rfl⟩
theorem qo3 {W : World} {br g cap : Nat} {L : List Ent} {v1 v2 v3 : Value} (h : qc9 W br g cap L v1 v2 v3) (hL : L.length <= 20) (x : Ent) (nb : Nat) (hnb : Blk W nb 163 (qbs x).toArray) :
  ∃ v' w', (∀ ty, (Builtin.append_ #[164, 164] ty #[.slice (some ⟨g, 0, none⟩) L.length cap, .slice (some ⟨nb, 0, none⟩) 1 1]).run Tryz.prog W = .ok v' w') /\
   ∃ g' cap', v' = .slice (some ⟨g', 0, none⟩) (L.length + 1) cap' /\ w'.ownsRow 0 163 6 v' (L.length + 1) (qdi (L ++ [x])) /\ Keep (fun b => b = g) W w' /\ (g' = g \/ W.heap.size <= g') := by
 obtain ⟨i0, z, hi, hz, h6, h56, hc⟩ := qvw
 obtain ⟨v', w', hr, hown, hgr, hor⟩ := qgu (P := Tryz.prog) W 164 163 i0 z 6 56 qvo hi hz h6 h56 hc (by omega) _ L.length (qdi L) h.row ⟨nb, 0, none⟩ 1 1 (by omega) (qbs x) (by simp [qbs])
  (fun j u hu => by rw [Addr.add_lit, Nat.zero_add, hnb.cell]; simpa using hu) (by intro u hu; simp [qbs] at hu; rcases hu with rfl | rfl | rfl | rfl | rfl | rfl <;> rfl) (by unfold maxLen; omega) (by omega)
 obtain ⟨g', cap', rfl, _, _⟩ := qat hown (by omega)
 refine ⟨_, w', hr, g', cap', rfl, by simpa [qdi] using hown, (Keep.refl _ _).grown hgr (fun k hk => by simp [Value.ownBlock] at hk; exact hk.symm), ?_⟩
 rcases hor with e | ⟨g2, e, h2⟩
 ·simp [Value.ownBlock] at e; exact .inl e
 ·simp [Value.ownBlock] at e; subst e; exact .inr h2
set_option maxRecDepth 100000 in
set_option maxHeartbeats 1000000 in
theorem qs2 {v1 v2 v3 : Value} {w : World} {br g cap : Nat} {L : List Ent} (s : ByteArray) (leaf : Bool) (a b c d : Int) (u : Ent) (h : Late v1 v2 v3 w br g cap L s a b c d) (hx : qcv L (qaa (bl s)) = none) (hu : qcv L (qaa (bl s)).dropLast = some u)
  (hl : u.leaf = false) (h20 : L.length < 20) :
  Calls Tryz.prog 108 #[.pointer (some ⟨br, 0, none⟩), .agg #[.string s, .bool leaf, .int .i64 a, .int .i64 b, .int .i64 c, .int .i64 d]] w (qeg v1 v2 v3 br g L ⟨qaa (bl s), leaf, a, b, c, d⟩ 0 w) := by
 have hf1 := fun W => qcg a b W
 have hf2 := fun W => qcg c d W
 have b0 : Blk (w.alloc (.cells #[.string s, .bool leaf, .int .i64 a, .int .i64 b, .int .i64 c, .int .i64 d] 163)) w.heap.size 163 _ := Blk.new w 163 _
 have hq : (s.toList.isEmpty) = false := by rw [qaz]; simpa using h.ne
 rw [h.fa] at hf1
 rw [h.fb] at hf2
 obtain ⟨M, hM3, hM⟩ := h.nz
 have hn := fun W => qga s h.small h.valid M hM W
 have hjoin := fun W gg cp hr => h.join hM W gg cp hr
 have hat1 := fun W (hW : Below w.heap.size w W) => qgx (h.ref.below hW) h.ents h.inj s (qaa (bl s)) h.kok (qa6 (bl s)).symm hx
 have hat2 : ∀ W, Below w.heap.size w W -> Calls Tryz.prog 114 #[.pointer (some ⟨br, 0, none⟩), .string (sb (joinB (qaa (bl s)).dropLast))] W fun e w' => (∃ i : Nat, i < L.length /\ e = .returned (.int .i64 i) /\ W.cell? ⟨g, i * 6 + 1, none⟩ = some (.bool u.leaf) /\ Blk W br 167 #[.slice (some ⟨g, 0, none⟩) L.length cap, v1, v2, v3]) /\ w' = W := fun W hW => by
  refine (qib (h.ref.below hW) h.ents h.inj (sb (joinB (qaa (bl s)).dropLast)) (qaa (bl s)).dropLast h.kod (qbi _) hu).mono ?_
  rintro e w' ⟨⟨i, rfl, hi⟩, rfl⟩
  exact ⟨⟨i, (List.getElem?_eq_some_iff.1 hi).1, rfl, (h.ref.below hW).ent hi rfl, (h.ref.below hW).at_⟩, rfl⟩
 have hap : ∀ W, Below w.heap.size w W -> ∀ nb, Blk W nb 163 #[.string s, .bool leaf, .int .i64 a, .int .i64 b, .int .i64 c, .int .i64 d] ->
  ∃ v' w', (∀ ty, (Builtin.append_ #[164, 164] ty #[.slice (some ⟨g, 0, none⟩) L.length cap, .slice (some ⟨nb, 0, none⟩) 1 1]).run Tryz.prog W = .ok v' w') /\
   (∃ g' cap', v' = .slice (some ⟨g', 0, none⟩) (L.length + 1) cap' /\ Blk w' br 167 #[.slice (some ⟨g, 0, none⟩) L.length cap, v1, v2, v3] /\
    Hid (∀ w'', w'' = w'.setCell ⟨br, 0, none⟩ (.slice (some ⟨g', 0, none⟩) (L.length + 1) cap') -> qeg v1 v2 v3 br g L ⟨qaa (bl s), leaf, a, b, c, d⟩ 0 w (.returned (.int .i64 0)) w'')) := fun W hW nb hnb => by
  have hk : (qbs ⟨qaa (bl s), leaf, a, b, c, d⟩).toArray = #[.string s, .bool leaf, .int .i64 a, .int .i64 b, .int .i64 c, .int .i64 d] := by
   simp only [qbs, qa6, qp4]
  obtain ⟨v', w', hr, g', cap', rfl, hown, hkp, hor⟩ := qo3 (h.ref.below hW) (by omega) ⟨qaa (bl s), leaf, a, b, c, d⟩ nb (by rw [hk]; exact hnb)
  have hbr := (h.ref.below hW).at_.keep hkp h.ref.ne
  refine ⟨_, w', hr, g', cap', rfl, hbr, ?_⟩
  suffices hh : (∀ w'', w'' = w'.setCell ⟨br, 0, none⟩ (.slice (some ⟨g', 0, none⟩) (L.length + 1) cap') -> qeg v1 v2 v3 br g L ⟨qaa (bl s), leaf, a, b, c, d⟩ 0 w (.returned (.int .i64 0)) w'') from hh
  refine fun w'' hw'' => ⟨rfl, .inr ⟨rfl, g', cap', ⟨?_, ?_⟩, ?_, ?_⟩⟩
  ·subst hw''
   have := hbr.set 0 (.slice (some ⟨g', 0, none⟩) (L.length + 1) cap')
   rw [show (L ++ [(⟨qaa (bl s), leaf, a, b, c, d⟩ : Ent)]).length = L.length + 1 by simp]
   exact this
  ·subst hw''
   rw [show (L ++ [(⟨qaa (bl s), leaf, a, b, c, d⟩ : Ent)]).length = L.length + 1 by simp]
   obtain ⟨h1, h2⟩ := hown
   refine ⟨h1, ?_⟩
   rcases h2 with ⟨h2, _⟩ | ⟨g2, cap2, cur, h2, h3, h4, h5⟩
   ·cases h2
   ·have e1 : g' = g2 := by injection h2 with e _ _; injection e with e; injection e with e
    subst e1
    have hne : g' ≠ br := by
     rcases hor with rfl | hge
     ·exact h.ref.ne.symm
     ·have := (h.ref.below hW).at_.lt; omega
    exact .inr ⟨g', cap2, cur, h2, h3, (Below.heap_setCell w' _ _ g' hne).trans h4, h5⟩
  ·subst hw''
   exact ((Keep.trans (T := fun b => b = br \/ b = g) (Keep.new hW) (hkp.mono (fun b hb => Or.inr hb))).setCell (p := ⟨br, 0, none⟩) (Or.inl rfl) _)
  ·rcases hor with rfl | hge
   ·exact .inl rfl
   ·exact .inr (Nat.le_trans hW.size hge)
 have hcapL := h.ref.qjv
 have hlen := h.ents.len
 clear hM hx hu h
 obtain ⟨X, hX⟩ : ∃ X, X = qeg v1 v2 v3 br g L ⟨qaa (bl s), leaf, a, b, c, d⟩ 0 w := ⟨_, rfl⟩
 rw [<- hX] at hap ⊢
 clear hX
 obtain ⟨n, hnL⟩ : ∃ n, n = L.length := ⟨_, rfl⟩
 rw [<- hnL] at hat2 hcapL hlen h20 hap
 clear hnL
 obtain ⟨hcap1, hcap2⟩ := hcapL
 rw [hl] at hat2
 go_enter Tryz.func108, Tryz.ntmps108
 go_wp2_with (first
  | (go_at_call 113; refine (hn _).mono ?_; rintro e w1 ⟨⟨gg, cp, rfl, hcp1, hcp2, hrow⟩, hb1⟩; have hB1 : Below w.heap.size w w1 := qac (by exact bel2) hb1; have b1 := b0.below hb1 (by simp); have hcl := b1.cell; have hr1 := hrow)
  | (go_at_call 115; refine (hf1 _).mono ?_; clear hf1; rintro e w2 ⟨rfl, hb2⟩; have hB2 : Below w.heap.size w w2 := qac hB1 hb2; have b2 := b1.below hb2 (by have := hb1.size; simp at this; omega); have hcl2 := b2.cell; clear hcl; have hr2 := hr1.below hb2)
  | (go_at_call 115; refine (hf2 _).mono ?_; clear hf2; rintro e w3 ⟨rfl, hb3⟩; have hB3 : Below w.heap.size w w3 := qac hB2 hb3; have b3 := b2.below hb3 (by have := hb1.size; have := hb2.size; simp at *; omega); have hcl3 := b3.cell; clear hcl2; have hr3 := hr2.below hb3)
  | (go_at_call 122; refine (hjoin _ _ _ hr3).mono ?_; rintro e w9 ⟨rfl, hw9⟩; subst hw9)
  | (go_at_call 114; refine (hat1 _ hB3).mono ?_; clear hat1; rintro e w4 ⟨rfl, hw4⟩; subst hw4)
  | (go_at_call 114; refine (hat2 _ hB3).mono ?_; rintro e w5 ⟨⟨i, hi, rfl, hcu, hbr⟩, hw5⟩; subst hw5; have hsz := hB3.size; have hlt5 := hbr.lt; have hct := hbr.cell 0; simp only [List.getElem?_toArray, List.getElem?_cons_zero] at hct))
 go_region_law (refine qau rfl (.tmp 79) (.tmp 81) 164 164 rfl _ _ ?_ ?_ (hap _ ?_ ?_ ?_) ?_; (focus (simp [Act.eval, Act.put])); (focus ((try simp [Act.eval, Act.put]); (try rfl))); (focus exact bel2); (focus exact blk2); rintro v' wA ⟨g', cap', rfl, hbA, hfin⟩; have hcA := hbA.cell 0; have hfA := hbA.frozen 0; simp only [List.getElem?_toArray, List.getElem?_cons_zero] at hcA)
 all_goals go_wp2
 all_goals exact hfin.out _ rfl
theorem qud (s : Bs) : (qaa s).length <= s.length + 1 := by
 by_cases h : s = []
 ·subst h; simp [qaa]
 ·have := ql7 s h
  unfold qdm at this
  have h2 : qkd s <= s.length := by unfold qkd; exact List.countP_le_length
  omega
theorem qj2 {w : World} {br g cap : Nat} {L : List Ent} {v1 v2 v3 : Value} (h : qc9 w br g cap L v1 v2 v3) (E : Ents L) (hinj : ∀ a ∈ L, ∀ b ∈ L, a.key = b.key -> a = b) (s : ByteArray) (hs : s.size <= 2000000) (leaf : Bool) (a b c d : Int) :
  Calls Tryz.prog 108 #[.pointer (some ⟨br, 0, none⟩), .agg #[.string s, .bool leaf, .int .i64 a, .int .i64 b, .int .i64 c, .int .i64 d]] w (qeg v1 v2 v3 br g L ⟨qaa (bl s), leaf, a, b, c, d⟩ (errE L (bl s) (qao a b && qao c d)) w) := by
 unfold errE
 by_cases hv : qar (bl s) = false
 ·rw [if_pos hv]; exact qdt (cap := cap) s hs leaf a b c d _ 1 (.inl ⟨hv, rfl⟩)
 rw [if_neg hv]
 have hv' : qar (bl s) = true := by cases hh : qar (bl s); exact absurd hh hv; rfl
 by_cases h0 : bl s = []
 ·rw [if_pos h0]; exact qdt (cap := cap) s hs leaf a b c d _ 2 (.inr (.inl ⟨hv', h0, rfl⟩))
 rw [if_neg h0]
 by_cases hf : (qao a b && qao c d) = false
 ·rw [if_pos hf]; exact qdt (cap := cap) s hs leaf a b c d _ 6 (.inr (.inr (.inl ⟨hv', h0, (by cases h1 : qao a b; exact .inl rfl; rw [h1] at hf; exact .inr (by simpa using hf)), rfl⟩)))
 rw [if_neg hf]
 obtain ⟨hfa, hfb⟩ : qao a b = true /\ qao c d = true := by simpa using hf
 by_cases hd : 4 < qdm (bl s)
 ·rw [if_pos hd]
  refine qdt (cap := cap) s hs leaf a b c d _ 8 (.inr (.inr (.inr ⟨hv', h0, hfa, hfb, hd, ?_, rfl⟩)))
  have := qud (bl s); have := qb4 s; omega
 rw [if_neg hd]
 have hl : Late v1 v2 v3 w br g cap L s a b c d := ⟨h, E, hinj, hs, hv', h0, hfa, hfb, by unfold qdm at hd; omega⟩
 cases hF : qcv L (qaa (bl s)) with
 | some x => simp only [Option.isSome_some, if_true]; exact qpi s leaf a b c d x _ hl hF
 | none =>
  simp only [Option.isSome_none, Bool.false_eq_true, if_false]
  unfold errInE
  cases hU : qcv L (qaa (bl s)).dropLast with
  | none => exact qsd s leaf a b c d _ hl hF hU
  | some u =>
   dsimp only
   cases hul : u.leaf
   ·simp only [Bool.false_eq_true, if_false]
    by_cases h20 : 20 <= L.length
    ·rw [if_pos h20]; exact qk8 s leaf a b c d _ u hl hF hU 7 (.inr ⟨hul, h20, rfl⟩)
    ·rw [if_neg h20]; exact qs2 s leaf a b c d u hl hF hU hul (by omega)
   ·simp only [if_true]; exact qk8 s leaf a b c d _ u hl hF hU 5 (.inl ⟨hul, rfl⟩)
def Wk.adm (x : Wk) (st : Int) : Wk := { x with st := st }
theorem qg4 : ∀ (Ws : List Wk) (i : Nat) (x y : Wk), Ws[i]? = some x -> (qbf y).take 4 = (qbf x).take 4 -> qad (Ws.set i y) = (qad Ws).set (i * 5 + 4) (.int .i64 y.st)
 | [], i, x, y, h, _ => by simp at h
 | a :: l, 0, x, y, h, he => by
  simp at h; subst h
  simp only [List.set_cons_zero, qad, List.flatMap_cons]
  simp [qbf] at he ⊢
  simp [he]
 | a :: l, i + 1, x, y, h, he => by
  have ih := qg4 l i x y (by simpa using h) he
  simp only [List.set_cons_succ, qad, List.flatMap_cons] at ih ⊢
  rw [ih, List.set_append_right _ _ (by simp [qbf]; omega)]
  rw [show (i + 1) * 5 + 4 - (qbf a).length = i * 5 + 4 by simp [qbf]; omega]
structure AdmR (w : World) (br g cap : Nat) (L : List Ent) (ao : Option Addr) (cW : Nat) (Ws : List Wk) (cnt st : Int) (w' : World) : Prop where
 ref : GRef w' br g cap L ao cW Ws cnt st
 keep : Keep (fun b => b = br \/ (Value.slice ao Ws.length cW).ownBlock = some b) w w'
set_option maxRecDepth 100000 in
set_option maxHeartbeats 2000000 in
theorem qld {w : World} {br g cap : Nat} {L : List Ent} {ao : Option Addr} {cW : Nat} {Ws : List Wk} {cnt st : Int} (h : GRef w br g cap L ao cW Ws cnt st) (EW : Wks Ws) {i : Nat} {x : Wk} (hi : Ws[i]? = some x) (hst : 0 <= st /\ st <= 1000000000) :
  Calls Tryz.prog 162 #[.pointer (some ⟨br, 0, none⟩), .int .i64 i] w fun e w' => e = .returned (.agg #[.int .i64 1, .int .i64 x.num]) /\ AdmR w br g cap L ao cW (Ws.set i (x.adm (st + 1))) cnt (st + 1) w' := by
 obtain ⟨b, hao, hbl, hcw1, hcw2, p0, p1, p2, p3, p4⟩ := h.wk hi
 have hil := (List.getElem?_eq_some_iff.1 hi).1
 have hne := h.ne1 b (by rw [hao]; rfl)
 have hat := h.ref.at_
 have hlt := hat.lt
 have hL24 := EW.len
 have c1 := hat.cell 1
 have c3 := hat.cell 3
 have f3 := hat.frozen 3
 simp only [List.getElem?_toArray, List.getElem?_cons_zero, List.getElem?_cons_succ] at c1 c3
 obtain ⟨n, hn⟩ : ∃ n, n = Ws.length := ⟨_, rfl⟩
 rw [<- hn] at c1 hil hcw1 hL24
 have hii : (i : Int) < n := by omega
 have hi0 : (0 : Int) <= i := by omega
 have e1 : ¬ (b = br) := hne.1
 have e2 : ¬ (br = b) := fun e => hne.1 e.symm
 have hrow := h.wrow
 subst hao
 have fb : w.frozen? ⟨b, i * 5 + 4, none⟩ = false := hrow.frozenAt _
 have e3 : ¬ (br = w.heap.size) := by omega
 have e4 : ¬ (b = w.heap.size) := by omega
 have HI : Hid (Ws[i]? = some x) := hi
 have HN : Hid (n = Ws.length) := hn
 clear hn hi
 go_enter Tryz.func162, Tryz.ntmps162
 go_wp2_with fail
 go_region
 go_wp2_with fail
 have hb4 : Blk ((((w.setCell ⟨br, 3, none⟩ (.int .i64 (st + 1))).setCell ⟨b, i * 5 + 4, none⟩ (.int .i64 (st + 1))).alloc (.cells #[.int .i64 1, .int .i64 x.num] 60)).drew) w.heap.size 60 #[.int .i64 1, .int .i64 x.num] := (Blk.new' (by simp)).drew
 have hc' := hb4.cell
 refine bodyPost_ret (v := .agg #[.int .i64 1, .int .i64 x.num]) ?_ rfl ⟨rfl, ?_⟩
 ·simp [results, Tryz.results162, go_sem, hc']
 ·have hk : Keep (fun y => y = br \/ y = b) w ((((w.setCell ⟨br, 3, none⟩ (.int .i64 (st + 1))).setCell ⟨b, i * 5 + 4, none⟩ (.int .i64 (st + 1))).alloc (.cells #[.int .i64 1, .int .i64 x.num] 60)).drew) :=
   ((((Keep.refl _ _).setCell (p := ⟨br, 3, none⟩) (.inl rfl) _).setCell (p := ⟨b, i * 5 + 4, none⟩) (.inr rfl) _).alloc _).drew
  have hg : ¬ (g = br \/ g = b) := by
   rintro (e | e)
   ·exact h.ref.ne e.symm
   ·exact hne.2 e.symm
  refine ⟨⟨⟨?_, ?_⟩, ?_, ?_⟩, ?_⟩
  ·have h1 := (((hat.set 3 (.int .i64 (st + 1))).other ⟨b, i * 5 + 4, none⟩ (.int .i64 (st + 1)) e2).alloc (.cells #[.int .i64 1, .int .i64 x.num] 60)).drew
   simpa using h1
  ·exact qab h.ref.row hk (fun y hy => by simp [Value.ownBlock] at hy; subst hy; exact hg)
  ·have h1 : (w.setCell ⟨br, 3, none⟩ (.int .i64 (st + 1))).ownsRow 0 178 5 (.slice (some ⟨b, 0, none⟩) Ws.length cW) Ws.length (qad Ws) := ownsRow_setCell_other hrow (by simp [Value.ownBlock]; exact e1) _
   have h2 := ((h1.stored (i * 5 + 4) (.int .i64 (st + 1))).1.alloc (.cells #[.int .i64 1, .int .i64 x.num] 60)).drew
   rw [List.length_set, qg4 Ws i x (x.adm (st + 1)) HI.out rfl]
   exact h2
  ·intro y hy
   rw [List.length_set] at hy
   exact h.ne1 y hy
  ·rw [List.length_set]
   exact hk.mono (fun y hy => by
    rcases hy with rfl | rfl
    ·exact .inl rfl
    ·exact .inr rfl)
theorem i89a : (Tryz.prog.info? 178).map (fun i => (i.size, i.bytes)) = some (5, 48) := by kernel_rfl
theorem i89b : (Tryz.prog.info? 178).bind (fun i => i.zero) = some (.agg #[.int .i64 0, .string ⟨#[]⟩, .int .i64 0, .int .i64 0, .int .i64 0]) := by kernel_rfl
theorem qr3 : qdf 178 5 48 := qep i89a i89b rfl
theorem un70 : Tryz.prog.underlying 165 = some (.slice 178) := by kernel_rfl
theorem Keep.quz {T : Nat -> Prop} {a w : World} (h : Keep T a w) {p : Addr} (hp : a.heap.size <= p.block) (u : Value) : Keep T a (w.setCell p u) :=
 ⟨h.os, h.tape, h.output, by simpa using h.size, fun k hk ht => (Below.heap_setCell w p u k (by omega)).trans (h.block k hk ht)⟩
theorem qhz (a b : List Wk) : qad (a ++ b) = qad a ++ qad b := by simp [qad]
theorem qio (l : List Wk) : ∀ u ∈ qad l, u.oneCell' = true := by
 intro u hu
 simp only [qad, List.mem_flatMap] at hu
 obtain ⟨x, _, hx⟩ := hu
 simp [qbf] at hx
 rcases hx with rfl | rfl | rfl | rfl | rfl <;> rfl
theorem qod (Ws : List Wk) (i : Nat) : qad (Ws.take i) = (qad Ws).take (i * 5) := by
 induction Ws generalizing i with
 | nil => simp [qad]
 | cons a l ih =>
  cases i with
  | zero => simp [qad]
  | succ i =>
   have := ih i
   simp only [List.take_succ_cons, qad, List.flatMap_cons] at this ⊢
   rw [this, show (i + 1) * 5 = (qbf a).length + i * 5 by simp [qbf]; omega, List.take_length_add_append]
theorem qnv (Ws : List Wk) (i : Nat) : qad (Ws.drop i) = (qad Ws).drop (i * 5) := by
 induction Ws generalizing i with
 | nil => simp [qad]
 | cons a l ih =>
  cases i with
  | zero => simp [qad]
  | succ i =>
   have := ih i
   simp only [List.drop_succ_cons, qad, List.flatMap_cons] at this ⊢
   rw [this, show (i + 1) * 5 = (qbf a).length + i * 5 by simp [qbf]; omega, List.drop_length_add_append]
set_option maxRecDepth 100000 in
set_option maxHeartbeats 2000000 in
theorem qsc {w : World} {br g cap : Nat} {L : List Ent} {ao : Option Addr} {cW : Nat} {Ws : List Wk} {cnt st : Int} (h : GRef w br g cap L ao cW Ws cnt st) (EW : Wks Ws) {i : Nat} {x : Wk} (hi : Ws[i]? = some x) :
  Calls Tryz.prog 201 #[.pointer (some ⟨br, 0, none⟩), .int .i64 i] w fun e w' => e = .returned (.agg #[.int .i64 2, .int .i64 x.num]) /\ ∃ b' c', w.heap.size <= b' /\ GRef w' br g cap L (some ⟨b', 0, none⟩) c' (x.adm 0 :: (Ws.take i ++ Ws.drop (i + 1))) cnt st /\ Keep (fun b => b = br) w w' := by
 obtain ⟨b, hao, hbl, hcw1, hcw2, p0, p1, p2, p3, p4⟩ := h.wk hi
 have hil := (List.getElem?_eq_some_iff.1 hi).1
 have hne := h.ne1 b (by rw [hao]; rfl)
 have hat := h.ref.at_
 have hlt := hat.lt
 have hL24 := EW.len
 have c1 := hat.cell 1
 have f1 := hat.frozen 1
 simp only [List.getElem?_toArray, List.getElem?_cons_zero, List.getElem?_cons_succ] at c1
 obtain ⟨n, hn⟩ : ∃ n, n = Ws.length := ⟨_, rfl⟩
 rw [<- hn] at c1 hil hcw1 hL24
 have hii : (i : Int) < n := by omega
 have hi0 : (0 : Int) <= i := by omega
 subst hao
 have e3 : ¬ (br = w.heap.size) := by omega
 have e4 : ¬ (b = w.heap.size) := by omega
 have HI : Hid (Ws[i]? = some x) := hi
 have HN : Hid (n = Ws.length) := hn
 clear hn hi
 have hcells := h.wrow
 rw [<- HN.out] at hcells
 have b4 : Blk (((w.alloc (.cells #[.int .i64 0, .int .i64 0] 60)).alloc (.cells #[.int .i64 x.num, .string (sb (joinB x.key)), .int .i64 x.d0, .int .i64 x.d1, .int .i64 0] 178)).alloc (.cells #[.int .i64 x.num, .string (sb (joinB x.key)), .int .i64 x.d0, .int .i64 x.d1, .int .i64 0] 178)) w.heap.size 60 #[.int .i64 0, .int .i64 0] := by exact blk2
 have b5 : Blk (((w.alloc (.cells #[.int .i64 0, .int .i64 0] 60)).alloc (.cells #[.int .i64 x.num, .string (sb (joinB x.key)), .int .i64 x.d0, .int .i64 x.d1, .int .i64 0] 178)).alloc (.cells #[.int .i64 x.num, .string (sb (joinB x.key)), .int .i64 x.d0, .int .i64 x.d1, .int .i64 0] 178)) (w.heap.size + 1) 178 #[.int .i64 x.num, .string (sb (joinB x.key)), .int .i64 x.d0, .int .i64 x.d1, .int .i64 0] := Blk.alloc (Blk.new' (by simp)) _
 have b6 : Blk (((w.alloc (.cells #[.int .i64 0, .int .i64 0] 60)).alloc (.cells #[.int .i64 x.num, .string (sb (joinB x.key)), .int .i64 x.d0, .int .i64 x.d1, .int .i64 0] 178)).alloc (.cells #[.int .i64 x.num, .string (sb (joinB x.key)), .int .i64 x.d0, .int .i64 x.d1, .int .i64 0] 178)) (w.heap.size + 1 + 1) 178 #[.int .i64 x.num, .string (sb (joinB x.key)), .int .i64 x.d0, .int .i64 x.d1, .int .i64 0] := Blk.new' (by simp)
 have hB0 : Below w.heap.size w (((w.alloc (.cells #[.int .i64 0, .int .i64 0] 60)).alloc (.cells #[.int .i64 x.num, .string (sb (joinB x.key)), .int .i64 x.d0, .int .i64 x.d1, .int .i64 0] 178)).alloc (.cells #[.int .i64 x.num, .string (sb (joinB x.key)), .int .i64 x.d0, .int .i64 x.d1, .int .i64 0] 178)) := by exact bel2
 go_enter Tryz.func201, Tryz.ntmps201
 go_upto_region 4 with fail
 generalize (((w.alloc (.cells #[.int .i64 0, .int .i64 0] 60)).alloc (.cells #[.int .i64 x.num, .string (sb (joinB x.key)), .int .i64 x.d0, .int .i64 x.d1, .int .i64 0] 178)).alloc (.cells #[.int .i64 x.num, .string (sb (joinB x.key)), .int .i64 x.d0, .int .i64 x.d1, .int .i64 0] 178)) = W3 at b4 b5 b6 hB0 ⊢
 have hr3 := qab (T := fun _ => False) hcells (Keep.new hB0) (fun _ _ h => h)
 have k1 := (hB0.cell (p := ⟨br, 1, none⟩) hlt).trans c1
 have own6 : W3.ownsRow 0 178 5 (.slice (some ⟨w.heap.size + 1 + 1, 0, none⟩) 1 1) 1 (qad [x.adm 0]) := ⟨by simp [qad, qbf], .inr ⟨w.heap.size + 1 + 1, 1, _, rfl, Nat.zero_le _, b6, Nat.le_refl _, by unfold maxLen; omega, by simp, by simp [qad, qbf, Wk.adm]⟩⟩
 have hcl : ∀ j u, (qad Ws)[j]? = some u -> W3.cell? ⟨b, j, none⟩ = some u := fun j u hu => by
  have := hr3.cells (g := b) rfl j u hu
  rwa [Addr.add_lit, Nat.zero_add] at this
 have ap1 := qnf un70 qr3 (by omega) W3 _ 1 _ own6 ⟨b, 0, none⟩ i cW (by omega) (qad (Ws.take i)) (by rw [qdo, List.length_take]; have := HN.out; rw [Nat.min_eq_left (by omega)])
  (fun j u hu => by
   rw [Addr.add_lit, Nat.zero_add]
   refine hcl j u ?_
   rw [qod] at hu
   have hlt' := (List.getElem?_eq_some_iff.1 hu).1
   rw [List.getElem?_take] at hu
   split at hu
   ·exact hu
   ·cases hu) (qio _) (by unfold maxLen; omega) (by omega)
 have l4 := b4.lt
 have l5 := b5.lt
 have l6 := b6.lt
 have hz0 := hB0.size
 have hk2 : ∀ w1, Keep (fun y => (Value.slice (some ⟨w.heap.size + 1 + 1, 0, none⟩) 1 1).ownBlock = some y) W3 w1 -> w1.cell? ⟨br, 1, none⟩ = some (.slice (some ⟨b, 0, none⟩) n cW) /\ Blk w1 w.heap.size 60 #[.int .i64 0, .int .i64 0] /\ Blk w1 (w.heap.size + 1) 178 #[.int .i64 x.num, .string (sb (joinB x.key)), .int .i64 x.d0, .int .i64 x.d1, .int .i64 0] /\ w1.ownsRow 0 178 5 (.slice (some ⟨b, 0, none⟩) n cW) n (qad Ws) /\ W3.heap.size <= w1.heap.size := fun w1 hK => by
  have key : ∀ y, y < w.heap.size + 1 + 1 -> ¬ ((Value.slice (some ⟨w.heap.size + 1 + 1, 0, none⟩) 1 1).ownBlock = some y) := fun y hy e => by simp [Value.ownBlock] at e; omega
  exact ⟨(hK.cell (p := ⟨br, 1, none⟩) (by show br < _; omega) (key br (by omega))).trans k1, b4.keep hK (key _ (by omega)), b5.keep hK (key _ (by omega)), qab hr3 hK (fun y hy => by simp [Value.ownBlock] at hy; subst hy; exact key b (by omega)), hK.size⟩
 have ap2 : ∀ w1 g1 q1, AppR W3 (Value.slice (some ⟨w.heap.size + 1 + 1, 0, none⟩) 1 1).ownBlock 178 5 (1 + i) (qad [x.adm 0] ++ qad (Ws.take i)) g1 q1 w1 -> ∀ (ad : Addr) (c2 : Nat), (∀ j u, (qad (Ws.drop (i + 1)))[j]? = some u -> w1.cell? (ad.add j) = some u) ->
   ∃ v' w', (∀ ty, (Builtin.append_ #[165, 165] ty #[.slice (some ⟨g1, 0, none⟩) (1 + i) q1, .slice (some ad) (n - (i + 1)) c2]).run Tryz.prog w1 = .ok v' w') /\ ∃ g cap, v' = .slice (some ⟨g, 0, none⟩) (1 + i + (n - (i + 1))) cap /\ AppR w1 (some g1) 178 5 (1 + i + (n - (i + 1))) (qad [x.adm 0] ++ qad (Ws.take i) ++ qad (Ws.drop (i + 1))) g cap w' :=
  fun w1 g1 q1 R1 ad c2 had => qnf un70 qr3 (by omega) w1 _ (1 + i) _ R1.own ad (n - (i + 1)) c2 (by omega) (qad (Ws.drop (i + 1))) (by rw [qdo, List.length_drop, <- HN.out]) had (qio _) (by unfold maxLen; omega) (by omega)
 have hsrc : ∀ w1 : World, w1.ownsRow 0 178 5 (.slice (some ⟨b, 0, none⟩) n cW) n (qad Ws) -> ∀ j u, (qad (Ws.drop (i + 1)))[j]? = some u -> w1.cell? ((⟨b, (i + 1) * 5, none⟩ : Addr).add j) = some u := fun w1 hr j u hu => by
  rw [qnv, List.getElem?_drop] at hu
  have := hr.cells (g := b) rfl _ u hu
  rw [Addr.add_lit, Nat.zero_add] at this
  rw [Addr.add_lit]; exact this
 have hend : ∀ w1 g1 q1 w2 g2 q2, AppR W3 (Value.slice (some ⟨w.heap.size + 1 + 1, 0, none⟩) 1 1).ownBlock 178 5 (1 + i) (qad [x.adm 0] ++ qad (Ws.take i)) g1 q1 w1 -> AppR w1 (some g1) 178 5 (1 + i + (n - (i + 1))) (qad [x.adm 0] ++ qad (Ws.take i) ++ qad (Ws.drop (i + 1))) g2 q2 w2 ->
   Below (w.heap.size + 1 + 1) W3 w2 /\ w.heap.size + 1 + 1 <= g2 := fun w1 g1 q1 w2 g2 q2 R1 R2 => by
  have h1 : w.heap.size + 1 + 1 <= g1 := by
   rcases R1.new with e | e
   ·simp [Value.ownBlock] at e; omega
   ·omega
  have z1 := R1.keep.size
  have z2 := R2.keep.size
  refine ⟨⟨R2.keep.os.trans R1.keep.os, R2.keep.tape.trans R1.keep.tape, R2.keep.output.trans R1.keep.output, by omega, fun k hk => (R2.keep.block k (by omega) (fun e => by simp at e; omega)).trans (R1.keep.block k (by omega) (fun e => by simp [Value.ownBlock] at e; omega))⟩, ?_⟩
  rcases R2.new with e | e
  ·simp at e; omega
  ·omega
 have hone : ∀ w1 g1 q1, AppR W3 (Value.slice (some ⟨w.heap.size + 1 + 1, 0, none⟩) 1 1).ownBlock 178 5 (1 + i) (qad [x.adm 0] ++ qad (Ws.take i)) g1 q1 w1 -> Below (w.heap.size + 1 + 1) W3 w1 /\ w.heap.size + 1 + 1 <= g1 := fun w1 g1 q1 R1 => by
  refine ⟨⟨R1.keep.os, R1.keep.tape, R1.keep.output, R1.keep.size, fun k hk => R1.keep.block k (by omega) (fun e => by simp [Value.ownBlock] at e; omega)⟩, ?_⟩
  rcases R1.new with e | e
  ·simp [Value.ownBlock] at e; omega
  ·omega
 have HEND := hend
 clear hend
 have hpost : ∀ w2 g2 q2, Below (w.heap.size + 1 + 1) W3 w2 -> w.heap.size + 1 + 1 <= g2 -> w2.ownsRow 0 178 5 (.slice (some ⟨g2, 0, none⟩) (1 + i + (n - (i + 1))) q2) (1 + i + (n - (i + 1))) (qad [x.adm 0] ++ qad (Ws.take i) ++ qad (Ws.drop (i + 1))) -> ∀ u0 u1,
   ∃ b' c', w.heap.size <= b' /\ GRef (((w2.setCell ⟨br, 1, none⟩ (.slice (some ⟨g2, 0, none⟩) (1 + i + (n - (i + 1))) q2)).setCell ⟨w.heap.size, 0, none⟩ u0).setCell ⟨w.heap.size, 1, none⟩ u1) br g cap L (some ⟨b', 0, none⟩) c' (x.adm 0 :: (Ws.take i ++ Ws.drop (i + 1))) cnt st /\ Keep (fun b => b = br) w (((w2.setCell ⟨br, 1, none⟩ (.slice (some ⟨g2, 0, none⟩) (1 + i + (n - (i + 1))) q2)).setCell ⟨w.heap.size, 0, none⟩ u0).setCell ⟨w.heap.size, 1, none⟩ u1) := fun w2 g2 q2 hB2 hg2 ho2 u0 u1 => by
  have hlen : (x.adm 0 :: (Ws.take i ++ Ws.drop (i + 1))).length = 1 + i + (n - (i + 1)) := by
   have := HN.out
   simp; omega
  have hgl := (h.ref.row.lt g rfl).2
  have hBw : Below w.heap.size w w2 := hB0.trans (hB2.mono (by omega))
  have hk : Keep (fun b => b = br) w (((w2.setCell ⟨br, 1, none⟩ (.slice (some ⟨g2, 0, none⟩) (1 + i + (n - (i + 1))) q2)).setCell ⟨w.heap.size, 0, none⟩ u0).setCell ⟨w.heap.size, 1, none⟩ u1) := by
   have k1 : Keep (fun b => b = br) w w2 := Keep.new hBw
   have k2 := k1.setCell (p := ⟨br, 1, none⟩) rfl (.slice (some ⟨g2, 0, none⟩) (1 + i + (n - (i + 1))) q2)
   exact (k2.quz (p := ⟨w.heap.size, 0, none⟩) (Nat.le_refl _) u0).quz (p := ⟨w.heap.size, 1, none⟩) (Nat.le_refl _) u1
  refine ⟨g2, q2, by omega, ⟨⟨?_, ?_⟩, ?_, ?_⟩, hk⟩
  ·have h1 := (((hat.below hBw hlt).set 1 (.slice (some ⟨g2, 0, none⟩) (1 + i + (n - (i + 1))) q2)).other ⟨w.heap.size, 0, none⟩ u0 (by simp; omega)).other ⟨w.heap.size, 1, none⟩ u1 (by simp; omega)
   rw [hlen]
   simpa using h1
  ·exact qab h.ref.row hk (fun y hy e => by simp [Value.ownBlock] at hy; subst hy; exact h.ref.ne e.symm)
  ·rw [hlen, show qad (x.adm 0 :: (Ws.take i ++ Ws.drop (i + 1))) = qad [x.adm 0] ++ qad (Ws.take i) ++ qad (Ws.drop (i + 1)) by simp [qad]]
   exact ownsRow_setCell_other (ownsRow_setCell_other (ownsRow_setCell_other ho2 (by simp [Value.ownBlock]; omega) _) (by simp [Value.ownBlock]; omega) _) (by simp [Value.ownBlock]; omega) _
  ·intro y hy
   simp [Value.ownBlock] at hy
   subst hy
   exact ⟨by omega, by omega⟩
 have hfacts : ∀ w2, Below (w.heap.size + 1 + 1) W3 w2 -> w2.cell? ⟨br, 1, none⟩ = some (.slice (some ⟨b, 0, none⟩) n cW) /\ w2.frozen? ⟨br, 1, none⟩ = false /\ w2.cell? ⟨w.heap.size, 0, none⟩ = some (.int .i64 0) /\ w2.cell? ⟨w.heap.size, 1, none⟩ = some (.int .i64 0) /\ w2.frozen? ⟨w.heap.size, 0, none⟩ = false /\ w2.frozen? ⟨w.heap.size, 1, none⟩ = false /\ w2.cell? ⟨w.heap.size + 1, 0, none⟩ = some (.int .i64 x.num) /\ w.heap.size + 1 < w2.heap.size /\ Blk w2 w.heap.size 60 #[.int .i64 0, .int .i64 0] := fun w2 hB2 => by
  have c4 : Blk w2 w.heap.size 60 #[.int .i64 0, .int .i64 0] := (hB2.block _ (by omega)).trans b4
  have c5 : Blk w2 (w.heap.size + 1) 178 #[.int .i64 x.num, .string (sb (joinB x.key)), .int .i64 x.d0, .int .i64 x.d1, .int .i64 0] := (hB2.block _ (by omega)).trans b5
  exact ⟨(hB2.cell (p := ⟨br, 1, none⟩) (by show br < _; omega)).trans k1, ((hat.below (hB0.trans (hB2.mono (by omega))) hlt).frozen 1), c4.cell 0, c4.cell 1, c4.frozen 0, c4.frozen 1, c5.cell 0, c5.lt, c4⟩
 have e5 : ¬ (br = w.heap.size + 1) := by omega
 have e6 : ¬ (w.heap.size = br) := by omega
 have e7 : ¬ (w.heap.size + 1 = br) := by omega
 have HP := hpost
 clear hpost hat p0 p1 p2 p3 p4 hcl own6 b4 b5 b6 hB0
 by_cases hcap : i + 1 = cW
 ·subst hcap
  have hsrc0 : ∀ w1 : World, ∀ j u, (qad (Ws.drop (i + 1)))[j]? = some u -> w1.cell? ((⟨b, 0, none⟩ : Addr).add j) = some u := fun w1 j u hu => by
   have hd : Ws.drop (i + 1) = [] := List.drop_eq_nil_of_le (by have := HN.out; omega)
   rw [hd] at hu; simp [qad] at hu
  have hn0 : n - (i + 1) = 0 := by omega
  have HP1 : ∀ w2 g2 q2, Below (w.heap.size + 1 + 1) W3 w2 -> w.heap.size + 1 + 1 <= g2 -> w2.ownsRow 0 178 5 (.slice (some ⟨g2, 0, none⟩) (1 + i) q2) (1 + i) (qad [x.adm 0] ++ qad (Ws.take i)) -> ∀ u0 u1,
   ∃ b' c', w.heap.size <= b' /\ GRef (((w2.setCell ⟨br, 1, none⟩ (.slice (some ⟨g2, 0, none⟩) (1 + i) q2)).setCell ⟨w.heap.size, 0, none⟩ u0).setCell ⟨w.heap.size, 1, none⟩ u1) br g cap L (some ⟨b', 0, none⟩) c' (x.adm 0 :: (Ws.take i ++ Ws.drop (i + 1))) cnt st /\ Keep (fun b => b = br) w (((w2.setCell ⟨br, 1, none⟩ (.slice (some ⟨g2, 0, none⟩) (1 + i) q2)).setCell ⟨w.heap.size, 0, none⟩ u0).setCell ⟨w.heap.size, 1, none⟩ u1) := fun w2 g2 q2 h1 h2 h3 u0 u1 => by
   have hd : Ws.drop (i + 1) = [] := List.drop_eq_nil_of_le (by have := HN.out; omega)
   have := HP w2 g2 q2 h1 h2 (by rw [hn0, hd]; simpa [qad] using h3) u0 u1
   rw [hn0] at this
   exact this
  clear ap2 hsrc hsrc0 HEND HP
  go_wp2_with (at_builtin; refine qah (by rfl) _ _ _ _ rfl _ _ rfl (by rfl) ap1 ?_; rintro v1 w1 ⟨g1, q1, rfl, R1⟩; obtain ⟨k2, b41, b51, hr1, hz1⟩ := hk2 _ R1.keep; obtain ⟨hB2, hg2⟩ := hone _ _ _ R1; obtain ⟨r0, r1, r2, r3, r4, r5, r6, r7, r8⟩ := hfacts _ hB2; have hq1 := R1.le; have hq2 := R1.mx; clear ap1 hk2 hone hfacts)
  have b4' := ((r8.other ⟨br, 1, none⟩ (.slice (some ⟨g1, 0, none⟩) (1 + i) q1) (by simp; omega)).set 0 (.int .i64 2)).set 1 (.int .i64 x.num)
  have hc' := b4'.cell
  refine bodyPost_ret (v := .agg #[.int .i64 2, .int .i64 x.num]) ?_ rfl ⟨rfl, HP1 _ _ _ hB2 hg2 R1.own _ _⟩
  simp [results, Tryz.results201, go_sem, hc']
 ·have hcap' : ¬ ((i : Int) + 1 = cW) := by omega
  go_wp2_with (first
   | (at_builtin; refine qah (by rfl) _ _ _ _ rfl _ _ rfl (by rfl) (ap2 _ _ _ R1 ⟨b, (i + 1) * 5, none⟩ (cW - (i + 1)) (hsrc _ hr1)) ?_; rintro v2 w2 ⟨g2, q2, rfl, R2⟩; obtain ⟨hB2, hg2⟩ := HEND _ _ _ _ _ _ R1 R2; obtain ⟨r0, r1, r2, r3, r4, r5, r6, r7, r8⟩ := hfacts _ hB2)
   | (at_builtin; refine qah (by rfl) _ _ _ _ rfl _ _ rfl (by rfl) ap1 ?_; rintro v1 w1 ⟨g1, q1, rfl, R1⟩; obtain ⟨k2, b41, b51, hr1, hz1⟩ := hk2 _ R1.keep))
  have b4' := ((r8.other ⟨br, 1, none⟩ (.slice (some ⟨g2, 0, none⟩) (1 + i + (n - (i + 1))) q2) (by simp; omega)).set 0 (.int .i64 2)).set 1 (.int .i64 x.num)
  have hc' := b4'.cell
  refine bodyPost_ret (v := .agg #[.int .i64 2, .int .i64 x.num]) ?_ rfl ⟨rfl, HP _ _ _ hB2 hg2 R2.own _ _⟩
  simp [results, Tryz.results201, go_sem, hc']
def way0 (L : List Ent) (Ws : List Wk) (x v : Wk) (e : Ent) : Bool := inB (joinB x.key) (joinB e.key) && (inB (joinB v.key) (joinB e.key) && (sh0 L Ws e x.d0 && (decide (ws0 (qae Ws (joinB v.key)) > es0 (qaf L (joinB v.key))) && decide (v.d0 > 0))))
def way1 (L : List Ent) (Ws : List Wk) (x v : Wk) (e : Ent) : Bool := inB (joinB x.key) (joinB e.key) && (inB (joinB v.key) (joinB e.key) && (sh1 L Ws e x.d1 && (decide (ws1 (qae Ws (joinB v.key)) > es1 (qaf L (joinB v.key))) && decide (v.d1 > 0))))
def way (L : List Ent) (Ws : List Wk) (x v : Wk) : Bool := L.any fun e => way0 L Ws x v e || way1 L Ws x v e
def stAt (Ws : List Wk) (k : Nat) : Int := match Ws[k]? with | some x => x.st | none => 0
def skips (Ws : List Wk) (best : Option Nat) (v : Wk) : Bool := (v.st == 0) || (match best with | some b => decide (v.st < stAt Ws b) | none => false)
def qpe (L : List Ent) (Ws : List Wk) (x : Wk) (best : Option Nat) (k : Nat) : Option Nat :=
 match Ws[k]? with
 | some v => if skips Ws best v then best else if way L Ws x v then some k else best
 | none => best
def qaq (L : List Ent) (Ws : List Wk) (x : Wk) (n : Nat) : Option Nat := (List.range n).foldl (qpe L Ws x) none
def qch (L : List Ent) (Ws : List Wk) (x : Wk) : Option Nat := qaq L Ws x Ws.length
def optI (o : Option Nat) : Int := match o with | some k => k | none => -1
theorem qda (L : List Ent) (Ws : List Wk) (x : Wk) (n : Nat) : qaq L Ws x (n + 1) = qpe L Ws x (qaq L Ws x n) n := by
 unfold qaq
 rw [List.range_succ, List.foldl_append]
 rfl
theorem qen (L : List Ent) (Ws : List Wk) (x : Wk) : ∀ n b, qaq L Ws x n = some b -> b < n /\ b < Ws.length
 | 0, b, h => by simp [qaq] at h
 | n + 1, b, h => by
  rw [qda] at h
  unfold qpe at h
  split at h
  ·rename_i v hv
   have hn := (List.getElem?_eq_some_iff.1 hv).1
   split at h
   ·have := qen L Ws x n b h; omega
   ·split at h
    ·simp at h; omega
    ·have := qen L Ws x n b h; omega
  ·have := qen L Ws x n b h; omega
end Go.Proofs.YtphclnolomgjoaaGreatDoor
