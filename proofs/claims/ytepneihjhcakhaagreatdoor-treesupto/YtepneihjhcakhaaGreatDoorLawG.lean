import Derived.Test.YtepneihjhcakhaaGreatDoorLawF
import Derived.Test.YtepneihjhcakhaaGreatDoorCallB
set_option linter.unusedVariables false
set_option linter.unusedSimpArgs false
namespace Go.Proofs.YtepneihjhcakhaaGreatDoor
open Go.RowKit

theorem toldQ_form (nodes : List Node) (s : Bs) : ∃ p lf a b c d er, toldQ nodes s = (qCells p lf a b c d, er) := by
  unfold toldQ
  split
  · exact ⟨_, _, _, _, _, _, _, rfl⟩
  · split
    · exact ⟨_, _, _, _, _, _, _, rfl⟩
    · exact ⟨_, _, _, _, _, _, _, rfl⟩

set_option maxRecDepth 100000 in
set_option maxHeartbeats 2000000 in
theorem asks_law {τ : Nat → Tag} {W : World} {bw : Nat} {slT slN slE slA slB : Value} {ns es : List Value} {ms me : List Int} (h : LawIn τ W bw slT slN slE slA slB ns es ms me) (N : Nat) (hN : N ≤ 100000000) (hl1 : ns.length ≤ N) (hl2 : es.length ≤ N)
    {t bt br g cap : Nat} {nodes : List Node} (hP : ProgAt τ t W bt nodes) (hR : RefIn W br g cap (nodes.map Node.ent)) (s s2 : ByteArray) (hs : s.size ≤ 2000000) (T a0 a1 c0 c1 nm : Int) :
    Calls Tryz.prog 25 #[.pointer (some ⟨bw, 0, none⟩), .agg #[.pointer (some ⟨bt, 0, none⟩), .pointer (some ⟨br, 0, none⟩)], .agg #[.int .i64 4, .int .i64 T, .string s, .string s2, .int .i64 a0, .int .i64 a1, .int .i64 c0, .int .i64 c1, .int .i64 nm]] W (ToldR τ W bw slT (N + 4)) := by
  obtain ⟨r, hr0, hbt⟩ := hP.tow
  have hr := List.mem_of_getElem? hr0
  have hrk : r.key = [] := by obtain ⟨r', h1, h2, _⟩ := hP.tree.root; rw [hr0] at h1; cases h1; exact h2
  obtain ⟨p, lf, a, b, c, d, er, hq⟩ := toldQ_form nodes (bl s)
  have hq1 : ∀ W1, Below W.heap.size W W1 → Calls Tryz.prog 45 #[.pointer (some ⟨bt, 0, none⟩), .string s] W1 fun e w' => e = .returned (.tuple #[.agg (qCells p lf a b c d), .int .i64 er]) ∧ Below W1.heap.size W1 w' := fun W1 hb => by
    have h1 : W1.cell? ⟨bt, 0, none⟩ = some (nptr r.blk) := by have := (hbt.below hb hbt.lt).cell 0; simpa using this
    refine (queue_any hP.tree W1 (fun n hn => (hP.ins n hn).below hb) hr hrk bt h1 s hs).mono ?_
    rintro e w' ⟨rfl, hb'⟩
    rw [hq]; exact ⟨rfl, hb'⟩
  have hq2 : ∀ W1, Below W.heap.size W W1 → Calls Tryz.prog 46 #[.pointer (some ⟨br, 0, none⟩), .string s] W1 fun e w' => e = .returned (.tuple #[.agg (qCells p lf a b c d), .int .i64 er]) ∧ Below W1.heap.size W1 w' := fun W1 hb => by
    refine (queue_ref (hR.below hb) hP.tree.ents hP.tree.einj s hs).mono ?_
    rintro e w' ⟨rfl, hb'⟩
    rw [told_agree hP.tree, hq]; exact ⟨rfl, hb'⟩
  have hlook : ∀ W1, Below W.heap.size W W1 → Calls Tryz.prog 6 #[.pointer (some ⟨bw, 0, none⟩)] W1 fun e w' => e = .returned (.bool true) ∧ Below W1.heap.size W1 w' := fun W1 hb => by
    have hh := h.below hb
    exact looks_any hh.blk hh.N hh.E (by omega) (by omega)
  have hown : ∀ W1, Below W.heap.size W W1 → Calls Tryz.prog 48 #[.pointer (some ⟨bw, 0, none⟩), .slice none 0 0] W1 fun e w' => e = .returned (.tuple #[]) ∧ ToldR τ W bw slT (N + 4) (.returned (.bool true)) w' := fun W1 hb => by
    refine (own_numbers (h.below hb) (by omega)).mono ?_
    rintro e w' ⟨rfl, τ', slE', slB', es', me', hT, hI, hlen⟩
    exact ⟨rfl, rfl, τ', _, _, _, _, _, _, _, _, hT.from hb, hI, by omega, by omega⟩
  generalize ToldR τ W bw slT (N + 4) = X at hown ⊢
  clear h hP hR hq hbt
  unfold qCells at hq1 hq2
  generalize sb p = pth at hq1 hq2
  have b4 : Blk ((W.alloc (.cells #[.pointer (some ⟨bt, 0, none⟩), .pointer (some ⟨br, 0, none⟩)] 44)).alloc (.cells #[.int .i64 4, .int .i64 T, .string s, .string s2, .int .i64 a0, .int .i64 a1, .int .i64 c0, .int .i64 c1, .int .i64 nm] 37)) W.heap.size 44 #[.pointer (some ⟨bt, 0, none⟩), .pointer (some ⟨br, 0, none⟩)] := (Blk.new W 44 _).alloc _
  have b5 : Blk ((W.alloc (.cells #[.pointer (some ⟨bt, 0, none⟩), .pointer (some ⟨br, 0, none⟩)] 44)).alloc (.cells #[.int .i64 4, .int .i64 T, .string s, .string s2, .int .i64 a0, .int .i64 a1, .int .i64 c0, .int .i64 c1, .int .i64 nm] 37)) (W.heap.size + 1) 37 #[.int .i64 4, .int .i64 T, .string s, .string s2, .int .i64 a0, .int .i64 a1, .int .i64 c0, .int .i64 c1, .int .i64 nm] := Blk.new' (by simp)
  go_enter Tryz.func25, Tryz.ntmps25
  go_wp2_with (first
    | (go_at_call 45; refine (hq1 _ ?_).mono ?_; (focus (repeat (first | (with_reducible exact Below.refl _ _) | (with_reducible assumption) | ((with_reducible refine Below.setCell ?_ ?_ _); rotate_left; (focus (first | omega | (simp <;> omega)))) | ((with_reducible refine Below.alloc ?_ ?_ _); rotate_left; (focus (first | omega | (simp <;> omega)))) | (with_reducible refine Below.drew ?_) | (with_reducible refine below_drewN ?_ _) | (refine bstep ?_ (by with_reducible assumption))))); rintro e w1 ⟨rfl, hb1⟩; have hB1 : Below W.heap.size W w1 := bstep (by (repeat (first | (with_reducible exact Below.refl _ _) | (with_reducible assumption) | ((with_reducible refine Below.setCell ?_ ?_ _); rotate_left; (focus (first | omega | (simp <;> omega)))) | ((with_reducible refine Below.alloc ?_ ?_ _); rotate_left; (focus (first | omega | (simp <;> omega)))) | (with_reducible refine Below.drew ?_) | (with_reducible refine below_drewN ?_ _) | (refine bstep ?_ (by with_reducible assumption))))) hb1; have d4 := b4.below hb1 (by simp <;> omega); have d5 := b5.below hb1 (by simp <;> omega); have e0 := d4.cell 1; have e2 := d5.cell 2; have hz1 := hB1.size; have l5 := d5.lt; have l4 := d4.lt; simp only [List.getElem?_toArray, List.getElem?_cons_zero, List.getElem?_cons_succ] at e0 e2)
    | (go_at_call 46; refine (hq2 _ ?_).mono ?_; (focus (repeat (first | (with_reducible exact Below.refl _ _) | (with_reducible assumption) | ((with_reducible refine Below.setCell ?_ ?_ _); rotate_left; (focus (first | omega | (simp <;> omega)))) | ((with_reducible refine Below.alloc ?_ ?_ _); rotate_left; (focus (first | omega | (simp <;> omega)))) | (with_reducible refine Below.drew ?_) | (with_reducible refine below_drewN ?_ _) | (refine bstep ?_ (by with_reducible assumption))))); rintro e w2 ⟨rfl, hb2⟩; have hB2 : Below W.heap.size W w2 := bstep (hB1.alloc hz1 _) hb2; have f7 := (Blk.new w1 93 #[.string pth, .bool lf, .int .i64 a, .int .i64 b, .int .i64 c, .int .i64 d, .int .i64 0, .int .i64 0, .slice none 0 0]).below hb2 (by simp); have hz2 := hB2.size; have l7 := f7.lt; have c7 := f7.cell)
    | (go_at_call 47; refine (sameQueue_same _ _ _ _ _ _ _).mono ?_; rintro e w3 ⟨rfl, hb3⟩; have hB3 : Below W.heap.size W w3 := bstep (hB2.alloc hz2 _) hb3; have f7' := (f7.alloc _).below hb3 (by simp; omega); clear c7; have c7 := f7'.cell 8; simp only [List.getElem?_toArray, List.getElem?_cons_zero, List.getElem?_cons_succ] at c7)
    | (go_at_call 6; refine (hlook _ hB3).mono ?_; rintro e w4 ⟨rfl, hb4⟩; have hB4 : Below W.heap.size W w4 := bstep hB3 hb4; have f7'' := f7'.below hb4 f7'.lt; have c78 := f7''.cell 8; simp only [List.getElem?_toArray, List.getElem?_cons_zero, List.getElem?_cons_succ] at c78)
    | (go_at_call 48; refine (hown _ hB4).mono ?_; rintro e w5 ⟨rfl, hX⟩)
    | (go_at_call 32; refine (num_any _ _).mono ?_; rintro e w6 ⟨rfl, hw6⟩; subst hw6))
  all_goals exact hX
end Go.Proofs.YtepneihjhcakhaaGreatDoor
