import Derived.Test.YtepneihjhcakhaaGreatDoorLawB
set_option linter.unusedVariables false
set_option linter.unusedSimpArgs false
namespace Go.Proofs.YtepneihjhcakhaaGreatDoor
open Go.RowKit

set_option maxRecDepth 100000 in
set_option maxHeartbeats 1000000 in
theorem ownEvents_walk {W : World} {bw : Nat} {slT slN slE slA slB : Value} (hb : Blk W bw 32 #[slT, slN, slE, slA, slB]) {ns : List Value} {ms : List Int} (hN : W.ownsRow 0 46 1 slE ns.length ns) (hA : W.ownsRow 0 3 1 slB ns.length (ints ms))
    (hl : ns.length ≤ 100000000) (hne1 : slE.ownBlock ≠ some bw) (hne2 : slB.ownBlock ≠ some bw) (hne3 : ∀ g, slE.ownBlock = some g → slB.ownBlock ≠ some g) :
    Calls Tryz.prog 31 #[.pointer (some ⟨bw, 0, none⟩), .slice none 0 0] W fun e w' => e = .returned (.tuple #[]) ∧ ∃ w1 w2 w3 wN wA U1 U2 U3 U4 U5 g1 k1 g2 k2 g3 k3 gN kN gA kA,
      OwnP W bw 2 4 59 46 46 2 #[slT, slN, slE, slA, slB] slE slB ns ms [.int .i64 (-1 - (ns.length : Int)), .int .i64 (-1 - (ns.length : Int))] (-1 - (ns.length : Int)) ns.length w1 w2 w3 wN wA U1 U2 U3 U4 U5 g1 k1 g2 k2 g3 k3 gN kN gA kA w' := by
  obtain ⟨aA, cA, rfl, a1, a2, _⟩ := row_cell hA
  obtain ⟨aN, cN, rfl, n1, n2, _⟩ := row_cell hN
  obtain ⟨n, hn⟩ : ∃ n, n = ns.length := ⟨_, rfl⟩
  rw [← hn] at hb hN hA hl a1 n1 hne1 hne2 hne3 ⊢
  have c1 := hb.cell 2
  have c3 := hb.cell 4
  simp only [List.getElem?_toArray, List.getElem?_cons_zero, List.getElem?_cons_succ] at c1 c3
  have hlt := hb.lt
  have HA := fun W' (h : W'.ownsRow 0 3 1 (.slice aA n cA) n (ints ms)) nb (hnb : Blk W' nb 3 #[.int .i64 (-1 - (n : Int)), .int .i64 (-1 - (n : Int)), .int .i64 (-1 - (n : Int)), .int .i64 (-1 - (n : Int))]) =>
    app_any un29 inf3 (by omega) W' _ n (ints ms) h nb 4 4 (by omega) [.int .i64 (-1 - (n : Int)), .int .i64 (-1 - (n : Int)), .int .i64 (-1 - (n : Int)), .int .i64 (-1 - (n : Int))] rfl hnb (by intro u hu; simp at hu; subst hu; rfl) (by unfold maxLen; omega) (by omega)
  have H1 := fun W' nb (hnb : Blk W' nb 59 #[.int .i64 (-1 - (n : Int)), .int .i64 (-1 - (n : Int))]) =>
    app_any un46 inf59 (by omega) W' (.slice none 0 0) 0 [] (World.ownsRow_nil W' 0 59 2) nb 1 1 (by omega) [.int .i64 (-1 - (n : Int)), .int .i64 (-1 - (n : Int))] rfl hnb (by intro u hu; simp at hu; subst hu; rfl) (by unfold maxLen; omega) (by omega)
  have H2 := fun W' nb (hnb : Blk W' nb 59 #[.int .i64 (-1 - (n : Int)), .int .i64 (-1 - (n : Int)), .int .i64 (-1 - (n : Int)), .int .i64 (-1 - (n : Int))]) =>
    app_any un46 inf59 (by omega) W' (.slice none 0 0) 0 [] (World.ownsRow_nil W' 0 59 2) nb 2 2 (by omega) [.int .i64 (-1 - (n : Int)), .int .i64 (-1 - (n : Int)), .int .i64 (-1 - (n : Int)), .int .i64 (-1 - (n : Int))] rfl hnb (by intro u hu; simp at hu; subst hu; rfl) (by unfold maxLen; omega) (by omega)
  have H3 := fun W' nb (hnb : Blk W' nb 59 #[.int .i64 (-1 - (n : Int)), .int .i64 (-1 - (n : Int)), .int .i64 (-1 - (n : Int)), .int .i64 (-1 - (n : Int)), .int .i64 (-1 - (n : Int)), .int .i64 (-1 - (n : Int))]) =>
    app_any un46 inf59 (by omega) W' (.slice none 0 0) 0 [] (World.ownsRow_nil W' 0 59 2) nb 3 3 (by omega) [.int .i64 (-1 - (n : Int)), .int .i64 (-1 - (n : Int)), .int .i64 (-1 - (n : Int)), .int .i64 (-1 - (n : Int)), .int .i64 (-1 - (n : Int)), .int .i64 (-1 - (n : Int))] rfl hnb (by intro u hu; simp at hu; subst hu; rfl) (by unfold maxLen; omega) (by omega)
  have HNN := fun W' (h : W'.ownsRow 0 46 1 (.slice aN n cN) n ns) nb (g1 k1 g2 k2 g3 k3 : Nat) (hnb : Blk W' nb 46 #[.slice none 0 0, .slice (some ⟨g1, 0, none⟩) 1 k1, .slice (some ⟨g2, 0, none⟩) 2 k2, .slice (some ⟨g3, 0, none⟩) 3 k3]) =>
    app_any un28 inf46 (by omega) W' _ n ns h nb 4 4 (by omega) [.slice none 0 0, .slice (some ⟨g1, 0, none⟩) 1 k1, .slice (some ⟨g2, 0, none⟩) 2 k2, .slice (some ⟨g3, 0, none⟩) 3 k3] rfl hnb (by intro u hu; simp at hu; rcases hu with rfl | rfl | rfl | rfl <;> rfl) (by unfold maxLen; omega) (by omega)
  simp only [List.nil_append, Nat.zero_add, Value.ownBlock] at H1 H2 H3
  clear hn
  go_enter Tryz.func31, Tryz.ntmps31
  go_wp2
  refine wp_loop_rounds 1 ?_
  rw [rounds_succ]
  have b0 : Blk (W.alloc (.cells #[.int .i64 (-1 - (n : Int)), .int .i64 (-1 - (n : Int))] 59)) W.heap.size 59 #[.int .i64 (-1 - (n : Int)), .int .i64 (-1 - (n : Int))] := Blk.new W 59 _
  go_wp2_with (first
    | (at_builtin; refine wpList_append_key (by rfl) _ _ 46 46 (by rfl) _ _ (by rfl) (by rfl) (H1 _ _ ?_) ?_; (focus (repeat (first | (with_reducible assumption) | ((with_reducible refine Blk.new' ?_); simp; done) | (with_reducible refine Blk.alloc ?_ _) | (with_reducible refine Blk.drew ?_) | (with_reducible refine Blk.drewN ?_ _)))); rintro v1 w1 ⟨g1, k1, rfl, R1⟩; have hB1 : Below W.heap.size W w1 := bstep (by (repeat (first | (with_reducible exact Below.refl _ _) | (with_reducible assumption) | ((with_reducible refine Below.setCell ?_ ?_ _); rotate_left; (focus (first | omega | (simp <;> omega)))) | ((with_reducible refine Below.alloc ?_ ?_ _); rotate_left; (focus (first | omega | (simp <;> omega)))) | (with_reducible refine Below.drew ?_) | (with_reducible refine below_drewN ?_ _) | (refine bstep ?_ (by with_reducible assumption))))) R1.below; have d1 := (b0.alloc _).below R1.below (by simp <;> omega); have e10 := d1.cell 0; have e11 := d1.cell 1; have el1 := d1.lt; simp only [List.getElem?_toArray, List.getElem?_cons_zero, List.getElem?_cons_succ] at e10 e11)
    | (at_builtin; refine wpList_append_key (by rfl) _ _ 46 46 (by rfl) _ _ (by rfl) (by rfl) (H2 _ _ ?_) ?_; (focus (repeat (first | (with_reducible assumption) | ((with_reducible refine Blk.new' ?_); simp; done) | (with_reducible refine Blk.alloc ?_ _) | (with_reducible refine Blk.drew ?_) | (with_reducible refine Blk.drewN ?_ _)))); rintro v2 w2 ⟨g2, k2, rfl, R2⟩; have hB2 : Below W.heap.size W w2 := bstep (hB1.alloc hB1.size _) R2.below; have d2 := (d1.alloc _).below R2.below (by simp <;> omega); have e20 := d2.cell 0; have e21 := d2.cell 1; have el2 := d2.lt; simp only [List.getElem?_toArray, List.getElem?_cons_zero, List.getElem?_cons_succ] at e20 e21)
    | (at_builtin; refine wpList_append_key (by rfl) _ _ 46 46 (by rfl) _ _ (by rfl) (by rfl) (H3 _ _ ?_) ?_; (focus (repeat (first | (with_reducible assumption) | ((with_reducible refine Blk.new' ?_); simp; done) | (with_reducible refine Blk.alloc ?_ _) | (with_reducible refine Blk.drew ?_) | (with_reducible refine Blk.drewN ?_ _)))); rintro v3 w3 ⟨g3, k3, rfl, R3⟩; have hB3 : Below W.heap.size W w3 := bstep (hB2.alloc hB2.size _) R3.below; have b3 := hb.below hB3 hb.lt; have c31 := b3.cell 2; have hlt3 := b3.lt; simp only [List.getElem?_toArray, List.getElem?_cons_zero, List.getElem?_cons_succ] at c31)
    | (at_builtin; refine wpList_append_key (by rfl) _ _ 28 28 (by rfl) _ _ (by rfl) (by rfl) (HNN _ ?_ _ g1 k1 g2 k2 g3 k3 ?_) ?_; (focus (exact row_keep (T := fun _ => False) hN (Keep.alloc (Keep.new hB3) _) (fun _ _ h => h))); (focus (repeat (first | (with_reducible assumption) | ((with_reducible refine Blk.new' ?_); simp; done) | (with_reducible refine Blk.alloc ?_ _) | (with_reducible refine Blk.drew ?_) | (with_reducible refine Blk.drewN ?_ _)))); rintro vN wN ⟨gN, kN, rfl, RN⟩; have bN := (b3.alloc _).keep RN.keep hne1; have cN1 := bN.cell 2; have fN1 := bN.frozen 2; have cN3 := bN.cell 4; have fN3 := bN.frozen 4; have hltN := bN.lt; simp only [List.getElem?_toArray, List.getElem?_cons_zero, List.getElem?_cons_succ] at cN1 cN3))
  have bS := bN.set 2 (.slice (some ⟨gN, 0, none⟩) (n + 4) kN)
  simp only [List.setIfInBounds_toArray, List.set_cons_zero, List.set_cons_succ] at bS
  have hAS : (wN.setCell ⟨bw, 2, none⟩ (.slice (some ⟨gN, 0, none⟩) (n + 4) kN)).ownsRow 0 3 1 (.slice aA n cA) n (ints ms) := by
    refine row_keep (T := fun b => b = bw ∨ (Value.slice aN n cN).ownBlock = some b) hA ?_ ?_
    · exact ((Keep.trans (T := fun b => b = bw ∨ (Value.slice aN n cN).ownBlock = some b) (Keep.alloc (Keep.new hB3) _) (RN.keep.mono (fun b hb => Or.inr hb))).setCell (p := ⟨bw, 2, none⟩) (Or.inl rfl) _)
    · rintro g hg (rfl | h)
      · exact hne2 hg
      · exact hne3 g h hg
  obtain ⟨WS, hWS⟩ : ∃ WS, WS = wN.setCell ⟨bw, 2, none⟩ (.slice (some ⟨gN, 0, none⟩) (n + 4) kN) := ⟨_, rfl⟩
  have hsz : WS.heap.size = wN.heap.size := by rw [hWS]; simp
  rw [← hWS] at bS hAS ⊢
  have HS : Hid (WS = wN.setCell ⟨bw, 2, none⟩ (.slice (some ⟨gN, 0, none⟩) (n + 4) kN)) := hWS
  have HSZ : Hid (WS.heap.size = wN.heap.size) := hsz
  clear hWS hsz cN1 cN3 fN1 fN3 H1 H2 H3 HNN c1 c3 c31
  have cS3 := bS.cell 4
  have hltS := bS.lt
  simp only [List.getElem?_toArray, List.getElem?_cons_zero, List.getElem?_cons_succ] at cS3
  go_region_law (refine step_append_key rfl (.tmp 63) (.tmp 68) 29 29 rfl _ _ ?_ ?_ (HA _ ?_ ?_ ?_) ?_; (focus (simp [Act.eval, Act.put])); (focus ((try simp [Act.eval, Act.put]); (try rfl))); (focus (exact row_keep (T := fun _ => False) hAS (Keep.new (by (repeat (first | (with_reducible exact Below.refl _ _) | (with_reducible assumption) | ((with_reducible refine Below.setCell ?_ ?_ _); rotate_left; (focus (first | omega | (simp <;> omega)))) | ((with_reducible refine Below.alloc ?_ ?_ _); rotate_left; (focus (first | omega | (simp <;> omega)))) | (with_reducible refine Below.drew ?_) | (with_reducible refine below_drewN ?_ _) | (refine bstep ?_ (by with_reducible assumption)))))) (fun _ _ h => h))); (focus (repeat (first | (with_reducible assumption) | ((with_reducible refine Blk.new' ?_); simp; done) | (with_reducible refine Blk.alloc ?_ _) | (with_reducible refine Blk.drew ?_) | (with_reducible refine Blk.drewN ?_ _)))); rintro vA wA ⟨gA, kA, rfl, RA⟩; have bA := Blk.keep (show Blk _ bw 32 #[slT, slN, .slice (some ⟨gN, 0, none⟩) (n + 4) kN, slA, .slice aA n cA] by (repeat (first | (with_reducible assumption) | ((with_reducible refine Blk.new' ?_); simp; done) | (with_reducible refine Blk.alloc ?_ _) | (with_reducible refine Blk.drew ?_) | (with_reducible refine Blk.drewN ?_ _)))) RA.keep hne2; have cA3 := bA.cell 4; have fA3 := bA.frozen 4; simp only [List.getElem?_toArray, List.getElem?_cons_zero, List.getElem?_cons_succ] at cA3)
  all_goals go_wp2
  all_goals go_end0
  all_goals refine ⟨rfl, w1, w2, w3, wN, wA, _, _, _, _, _, g1, k1, g2, k2, g3, k3, gN, kN, gA, kA, ⟨?_, R1, ?_, R2, ?_, R3, ?_, RN, ?_, RA, rfl⟩⟩
  all_goals first | (rw [← HS.out, ← HSZ.out]; (repeat (first | (with_reducible exact Below.refl _ _) | (with_reducible assumption) | ((with_reducible refine Below.setCell ?_ ?_ _); rotate_left; (focus (first | omega | (simp <;> omega)))) | ((with_reducible refine Below.alloc ?_ ?_ _); rotate_left; (focus (first | omega | (simp <;> omega)))) | (with_reducible refine Below.drew ?_) | (with_reducible refine below_drewN ?_ _) | (refine bstep ?_ (by with_reducible assumption)))); done) | ((repeat (first | (with_reducible exact Below.refl _ _) | (with_reducible assumption) | ((with_reducible refine Below.setCell ?_ ?_ _); rotate_left; (focus (first | omega | (simp <;> omega)))) | ((with_reducible refine Below.alloc ?_ ?_ _); rotate_left; (focus (first | omega | (simp <;> omega)))) | (with_reducible refine Below.drew ?_) | (with_reducible refine below_drewN ?_ _) | (refine bstep ?_ (by with_reducible assumption)))); done)
end Go.Proofs.YtepneihjhcakhaaGreatDoor
