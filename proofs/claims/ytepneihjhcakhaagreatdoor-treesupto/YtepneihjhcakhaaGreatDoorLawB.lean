import Derived.Test.YtepneihjhcakhaaGreatDoorLawA
set_option linter.unusedVariables false
set_option linter.unusedSimpArgs false
namespace Go.Proofs.YtepneihjhcakhaaGreatDoor
open Go.RowKit

/-- What a type's size is. -/
def InfoIs (e : TypeId) (size bytes : Nat) : Prop := ∃ i0 z, Tryz.prog.info? e = some i0 ∧ i0.zero = some z ∧ i0.size = size ∧ i0.bytes = bytes ∧ z.cells.size = size
theorem info_of {e : TypeId} {size bytes : Nat} {z : Value} (h1 : (Tryz.prog.info? e).map (fun i => (i.size, i.bytes)) = some (size, bytes)) (h2 : (Tryz.prog.info? e).bind (fun i => i.zero) = some z) (hz : z.cells.size = size) : InfoIs e size bytes := by
  cases h : Tryz.prog.info? e with
  | none => rw [h] at h1; cases h1
  | some i0 =>
    rw [h] at h1 h2
    simp only [Option.map_some, Option.some.injEq, Prod.mk.injEq, Option.bind_some] at h1 h2
    exact ⟨i0, z, h, h2, h1.1, h1.2, hz⟩
theorem i3a : (Tryz.prog.info? 3).map (fun i => (i.size, i.bytes)) = some (1, 8) := by kernel_rfl
theorem i3b : (Tryz.prog.info? 3).bind (fun i => i.zero) = some (.int .i64 0) := by kernel_rfl
theorem i29a : (Tryz.prog.info? 29).map (fun i => (i.size, i.bytes)) = some (1, 24) := by kernel_rfl
theorem i29b : (Tryz.prog.info? 29).bind (fun i => i.zero) = some (.slice none 0 0) := by kernel_rfl
theorem i46a : (Tryz.prog.info? 46).map (fun i => (i.size, i.bytes)) = some (1, 24) := by kernel_rfl
theorem i46b : (Tryz.prog.info? 46).bind (fun i => i.zero) = some (.slice none 0 0) := by kernel_rfl
theorem i59a : (Tryz.prog.info? 59).map (fun i => (i.size, i.bytes)) = some (2, 16) := by kernel_rfl
theorem i59b : (Tryz.prog.info? 59).bind (fun i => i.zero) = some (.agg #[.int .i64 0, .int .i64 0]) := by kernel_rfl
theorem inf3 : InfoIs 3 1 8 := info_of i3a i3b rfl
theorem inf29 : InfoIs 29 1 24 := info_of i29a i29b rfl
theorem inf46 : InfoIs 46 1 24 := info_of i46a i46b rfl
theorem inf59 : InfoIs 59 2 16 := info_of i59a i59b rfl
theorem un29 : Tryz.prog.underlying 29 = some (.slice 3) := by kernel_rfl
theorem un27 : Tryz.prog.underlying 27 = some (.slice 29) := by kernel_rfl
theorem un28 : Tryz.prog.underlying 28 = some (.slice 46) := by kernel_rfl
theorem un46 : Tryz.prog.underlying 46 = some (.slice 59) := by kernel_rfl

/-- What an append leaves. -/
structure AppR (W : World) (old : Option Nat) (e : TypeId) (size n : Nat) (xs : List Value) (g cap : Nat) (w' : World) : Prop where
  le : n ≤ cap
  mx : cap ≤ maxLen
  own : w'.ownsRow 0 e size (.slice (some ⟨g, 0, none⟩) n cap) n xs
  keep : Keep (fun b => old = some b) W w'
  new : old = some g ∨ W.heap.size ≤ g

theorem app_any {t e : TypeId} {size bytes : Nat} (ht : Tryz.prog.underlying t = some (.slice e)) (hi : InfoIs e size bytes) (hsz : 0 < size) (W : World) (sl : Value) (n : Nat) (xs : List Value) (hown : W.ownsRow 0 e size sl n xs)
    (nb m c : Nat) (hm : 0 < m) (news : List Value) (hl : news.length = m * size) {t' : TypeId} (hnb : Blk W nb t' news.toArray) (h1 : ∀ u ∈ news, u.oneCell' = true) (h63 : n + m ≤ maxLen) (hb : (n + m) * bytes ≤ 140737488355328) :
    ∃ v' w', (∀ ty, (Builtin.append_ #[t, t] ty #[sl, .slice (some ⟨nb, 0, none⟩) m c]).run Tryz.prog W = .ok v' w') ∧ ∃ g cap, v' = .slice (some ⟨g, 0, none⟩) (n + m) cap ∧ AppR W sl.ownBlock e size (n + m) (xs ++ news) g cap w' := by
  obtain ⟨i0, z, h2, h3, h4, h5, h6⟩ := hi
  obtain ⟨v', w', hr, ho, hgr, hor⟩ := append_key (P := Tryz.prog) W t e i0 z size bytes ht h2 h3 h4 h5 h6 hsz sl n xs hown ⟨nb, 0, none⟩ m c hm news hl
    (fun j u hu => by rw [Addr.add_lit, Nat.zero_add, hnb.cell]; simpa using hu) h1 h63 hb
  obtain ⟨g', cap', rfl, hle, hmx⟩ := ownsRow_form ho (by omega)
  refine ⟨_, w', hr, g', cap', rfl, hle, hmx, ho, (Keep.refl _ _).grown hgr (fun k hk => hk), ?_⟩
  rcases hor with e | ⟨g2, e, h2⟩
  · left; rw [← e]; rfl
  · simp [Value.ownBlock] at e; subst e; exact .inr h2

theorem row_keep {T : Nat → Prop} {W W' : World} {e : TypeId} {size n : Nat} {sl : Value} {xs : List Value} (h : W.ownsRow 0 e size sl n xs) (hk : Keep T W W') (hT : ∀ g, sl.ownBlock = some g → ¬ T g) : W'.ownsRow 0 e size sl n xs := by
  obtain ⟨hl, hr⟩ := h
  refine ⟨hl, ?_⟩
  rcases hr with hr | ⟨g', cap', cur, rfl, hbg, hg, rest⟩
  · exact .inl hr
  · exact .inr ⟨g', cap', cur, rfl, hbg, (hk.block g' (Array.getElem?_eq_some_iff.1 hg).1 (hT g' rfl)).trans hg, rest⟩
theorem row_lt {W : World} {e : TypeId} {size n : Nat} {sl : Value} {xs : List Value} (h : W.ownsRow 0 e size sl n xs) {g : Nat} (hg : sl.ownBlock = some g) : g < W.heap.size := by
  rcases h.2 with ⟨rfl, _⟩ | ⟨g', cap', cur, rfl, hbg, hg', rest⟩
  · cases hg
  · simp [Value.ownBlock] at hg; subst hg; exact (Array.getElem?_eq_some_iff.1 hg').1

theorem AppR.below {W w' : World} {e : TypeId} {size n g cap : Nat} {xs : List Value} (h : AppR W none e size n xs g cap w') : Below W.heap.size W w' :=
  h.keep.toBelow (Nat.le_refl _) (fun b _ hb => by cases hb)

/-- What owning a list leaves, step by step. -/
structure OwnP (W : World) (bw f1 f3 : Nat) (el lt c : TypeId) (sz : Nat) (vs : Array Value) (slN slA : Value) (ns : List Value) (ms : List Int) (xm : List Value) (m : Int) (n : Nat)
    (w1 w2 w3 wN wA U1 U2 U3 U4 U5 : World) (g1 k1 g2 k2 g3 k3 gN kN gA kA : Nat) (w' : World) : Prop where
  u1 : Below W.heap.size W U1
  a1 : AppR U1 none el sz 1 xm g1 k1 w1
  u2 : Below w1.heap.size w1 U2
  a2 : AppR U2 none el sz 2 (xm ++ xm) g2 k2 w2
  u3 : Below w2.heap.size w2 U3
  a3 : AppR U3 none el sz 3 (xm ++ xm ++ xm) g3 k3 w3
  u4 : Below w3.heap.size w3 U4
  aN : AppR U4 slN.ownBlock lt 1 (n + 4) (ns ++ [.slice none 0 0, .slice (some ⟨g1, 0, none⟩) 1 k1, .slice (some ⟨g2, 0, none⟩) 2 k2, .slice (some ⟨g3, 0, none⟩) 3 k3]) gN kN wN
  u5 : Below wN.heap.size (wN.setCell ⟨bw, f1, none⟩ (.slice (some ⟨gN, 0, none⟩) (n + 4) kN)) U5
  aA : AppR U5 slA.ownBlock 3 1 (n + 4) (ints ms ++ [.int .i64 m, .int .i64 m, .int .i64 m, .int .i64 m]) gA kA wA
  end_ : w' = wA.setCell ⟨bw, f3, none⟩ (.slice (some ⟨gA, 0, none⟩) (n + 4) kA)

set_option maxRecDepth 100000 in
set_option maxHeartbeats 1000000 in
theorem ownNumbers_walk {W : World} {bw : Nat} {slT slN slE slA slB : Value} (hb : Blk W bw 32 #[slT, slN, slE, slA, slB]) {ns : List Value} {ms : List Int} (hN : W.ownsRow 0 29 1 slN ns.length ns) (hA : W.ownsRow 0 3 1 slA ns.length (ints ms))
    (hl : ns.length ≤ 100000000) (hne1 : slN.ownBlock ≠ some bw) (hne2 : slA.ownBlock ≠ some bw) (hne3 : ∀ g, slN.ownBlock = some g → slA.ownBlock ≠ some g) :
    Calls Tryz.prog 48 #[.pointer (some ⟨bw, 0, none⟩), .slice none 0 0] W fun e w' => e = .returned (.tuple #[]) ∧ ∃ w1 w2 w3 wN wA U1 U2 U3 U4 U5 g1 k1 g2 k2 g3 k3 gN kN gA kA,
      OwnP W bw 1 3 3 29 29 1 #[slT, slN, slE, slA, slB] slN slA ns ms [.int .i64 (-1 - (ns.length : Int))] (-1 - (ns.length : Int)) ns.length w1 w2 w3 wN wA U1 U2 U3 U4 U5 g1 k1 g2 k2 g3 k3 gN kN gA kA w' := by
  obtain ⟨aA, cA, rfl, a1, a2, _⟩ := row_cell hA
  obtain ⟨aN, cN, rfl, n1, n2, _⟩ := row_cell hN
  obtain ⟨n, hn⟩ : ∃ n, n = ns.length := ⟨_, rfl⟩
  rw [← hn] at hb hN hA hl a1 n1 hne1 hne2 hne3 ⊢
  have c1 := hb.cell 1
  have c3 := hb.cell 3
  simp only [List.getElem?_toArray, List.getElem?_cons_zero, List.getElem?_cons_succ] at c1 c3
  have hlt := hb.lt
  have HA := fun W' (h : W'.ownsRow 0 3 1 (.slice aA n cA) n (ints ms)) nb (hnb : Blk W' nb 3 #[.int .i64 (-1 - (n : Int)), .int .i64 (-1 - (n : Int)), .int .i64 (-1 - (n : Int)), .int .i64 (-1 - (n : Int))]) =>
    app_any un29 inf3 (by omega) W' _ n (ints ms) h nb 4 4 (by omega) [.int .i64 (-1 - (n : Int)), .int .i64 (-1 - (n : Int)), .int .i64 (-1 - (n : Int)), .int .i64 (-1 - (n : Int))] rfl hnb (by intro u hu; simp at hu; subst hu; rfl) (by unfold maxLen; omega) (by omega)
  have H1 := fun W' nb (hnb : Blk W' nb 3 #[.int .i64 (-1 - (n : Int))]) =>
    app_any un29 inf3 (by omega) W' (.slice none 0 0) 0 [] (World.ownsRow_nil W' 0 3 1) nb 1 1 (by omega) [.int .i64 (-1 - (n : Int))] rfl hnb (by intro u hu; simp at hu; subst hu; rfl) (by unfold maxLen; omega) (by omega)
  have H2 := fun W' nb (hnb : Blk W' nb 3 #[.int .i64 (-1 - (n : Int)), .int .i64 (-1 - (n : Int))]) =>
    app_any un29 inf3 (by omega) W' (.slice none 0 0) 0 [] (World.ownsRow_nil W' 0 3 1) nb 2 2 (by omega) [.int .i64 (-1 - (n : Int)), .int .i64 (-1 - (n : Int))] rfl hnb (by intro u hu; simp at hu; subst hu; rfl) (by unfold maxLen; omega) (by omega)
  have H3 := fun W' nb (hnb : Blk W' nb 3 #[.int .i64 (-1 - (n : Int)), .int .i64 (-1 - (n : Int)), .int .i64 (-1 - (n : Int))]) =>
    app_any un29 inf3 (by omega) W' (.slice none 0 0) 0 [] (World.ownsRow_nil W' 0 3 1) nb 3 3 (by omega) [.int .i64 (-1 - (n : Int)), .int .i64 (-1 - (n : Int)), .int .i64 (-1 - (n : Int))] rfl hnb (by intro u hu; simp at hu; subst hu; rfl) (by unfold maxLen; omega) (by omega)
  have HNN := fun W' (h : W'.ownsRow 0 29 1 (.slice aN n cN) n ns) nb (g1 k1 g2 k2 g3 k3 : Nat) (hnb : Blk W' nb 29 #[.slice none 0 0, .slice (some ⟨g1, 0, none⟩) 1 k1, .slice (some ⟨g2, 0, none⟩) 2 k2, .slice (some ⟨g3, 0, none⟩) 3 k3]) =>
    app_any un27 inf29 (by omega) W' _ n ns h nb 4 4 (by omega) [.slice none 0 0, .slice (some ⟨g1, 0, none⟩) 1 k1, .slice (some ⟨g2, 0, none⟩) 2 k2, .slice (some ⟨g3, 0, none⟩) 3 k3] rfl hnb (by intro u hu; simp at hu; rcases hu with rfl | rfl | rfl | rfl <;> rfl) (by unfold maxLen; omega) (by omega)
  simp only [List.nil_append, Nat.zero_add, Value.ownBlock] at H1 H2 H3
  clear hn
  go_enter Tryz.func48, Tryz.ntmps48
  go_wp2
  refine wp_loop_rounds 1 ?_
  rw [rounds_succ]
  go_wp2_with (first
    | (at_builtin; refine wpList_append_key (by rfl) _ _ 29 29 (by rfl) _ _ (by rfl) (by rfl) (H1 _ _ ?_) ?_; (focus (repeat (first | (with_reducible assumption) | ((with_reducible refine Blk.new' ?_); simp; done) | (with_reducible refine Blk.alloc ?_ _) | (with_reducible refine Blk.drew ?_) | (with_reducible refine Blk.drewN ?_ _)))); rintro v1 w1 ⟨g1, k1, rfl, R1⟩; have hB1 : Below W.heap.size W w1 := bstep (by (repeat (first | (with_reducible exact Below.refl _ _) | (with_reducible assumption) | ((with_reducible refine Below.setCell ?_ ?_ _); rotate_left; (focus (first | omega | (simp <;> omega)))) | ((with_reducible refine Below.alloc ?_ ?_ _); rotate_left; (focus (first | omega | (simp <;> omega)))) | (with_reducible refine Below.drew ?_) | (with_reducible refine below_drewN ?_ _) | (refine bstep ?_ (by with_reducible assumption))))) R1.below)
    | (at_builtin; refine wpList_append_key (by rfl) _ _ 29 29 (by rfl) _ _ (by rfl) (by rfl) (H2 _ _ ?_) ?_; (focus (repeat (first | (with_reducible assumption) | ((with_reducible refine Blk.new' ?_); simp; done) | (with_reducible refine Blk.alloc ?_ _) | (with_reducible refine Blk.drew ?_) | (with_reducible refine Blk.drewN ?_ _)))); rintro v2 w2 ⟨g2, k2, rfl, R2⟩; have hB2 : Below W.heap.size W w2 := bstep (hB1.alloc hB1.size _) R2.below)
    | (at_builtin; refine wpList_append_key (by rfl) _ _ 29 29 (by rfl) _ _ (by rfl) (by rfl) (H3 _ _ ?_) ?_; (focus (repeat (first | (with_reducible assumption) | ((with_reducible refine Blk.new' ?_); simp; done) | (with_reducible refine Blk.alloc ?_ _) | (with_reducible refine Blk.drew ?_) | (with_reducible refine Blk.drewN ?_ _)))); rintro v3 w3 ⟨g3, k3, rfl, R3⟩; have hB3 : Below W.heap.size W w3 := bstep (hB2.alloc hB2.size _) R3.below; have b3 := hb.below hB3 hb.lt; have c31 := b3.cell 1; have hlt3 := b3.lt; simp only [List.getElem?_toArray, List.getElem?_cons_zero, List.getElem?_cons_succ] at c31)
    | (at_builtin; refine wpList_append_key (by rfl) _ _ 27 27 (by rfl) _ _ (by rfl) (by rfl) (HNN _ ?_ _ g1 k1 g2 k2 g3 k3 ?_) ?_; (focus (exact row_keep (T := fun _ => False) hN (Keep.alloc (Keep.new hB3) _) (fun _ _ h => h))); (focus (repeat (first | (with_reducible assumption) | ((with_reducible refine Blk.new' ?_); simp; done) | (with_reducible refine Blk.alloc ?_ _) | (with_reducible refine Blk.drew ?_) | (with_reducible refine Blk.drewN ?_ _)))); rintro vN wN ⟨gN, kN, rfl, RN⟩; have bN := (b3.alloc _).keep RN.keep hne1; have cN1 := bN.cell 1; have fN1 := bN.frozen 1; have cN3 := bN.cell 3; have fN3 := bN.frozen 3; have hltN := bN.lt; simp only [List.getElem?_toArray, List.getElem?_cons_zero, List.getElem?_cons_succ] at cN1 cN3))
  have bS := bN.set 1 (.slice (some ⟨gN, 0, none⟩) (n + 4) kN)
  simp only [List.setIfInBounds_toArray, List.set_cons_zero, List.set_cons_succ] at bS
  have hAS : (wN.setCell ⟨bw, 1, none⟩ (.slice (some ⟨gN, 0, none⟩) (n + 4) kN)).ownsRow 0 3 1 (.slice aA n cA) n (ints ms) := by
    refine row_keep (T := fun b => b = bw ∨ (Value.slice aN n cN).ownBlock = some b) hA ?_ ?_
    · exact ((Keep.trans (T := fun b => b = bw ∨ (Value.slice aN n cN).ownBlock = some b) (Keep.alloc (Keep.new hB3) _) (RN.keep.mono (fun b hb => Or.inr hb))).setCell (p := ⟨bw, 1, none⟩) (Or.inl rfl) _)
    · rintro g hg (rfl | h)
      · exact hne2 hg
      · exact hne3 g h hg
  obtain ⟨WS, hWS⟩ : ∃ WS, WS = wN.setCell ⟨bw, 1, none⟩ (.slice (some ⟨gN, 0, none⟩) (n + 4) kN) := ⟨_, rfl⟩
  have hsz : WS.heap.size = wN.heap.size := by rw [hWS]; simp
  rw [← hWS] at bS hAS ⊢
  have HS : Hid (WS = wN.setCell ⟨bw, 1, none⟩ (.slice (some ⟨gN, 0, none⟩) (n + 4) kN)) := hWS
  have HSZ : Hid (WS.heap.size = wN.heap.size) := hsz
  clear hWS hsz cN1 cN3 fN1 fN3 H1 H2 H3 HNN c1 c3 c31
  have cS3 := bS.cell 3
  have hltS := bS.lt
  simp only [List.getElem?_toArray, List.getElem?_cons_zero, List.getElem?_cons_succ] at cS3
  go_region_law (refine step_append_key rfl (.tmp 59) (.tmp 64) 29 29 rfl _ _ ?_ ?_ (HA _ ?_ ?_ ?_) ?_; (focus (simp [Act.eval, Act.put])); (focus ((try simp [Act.eval, Act.put]); (try rfl))); (focus (exact row_keep (T := fun _ => False) hAS (Keep.new (by (repeat (first | (with_reducible exact Below.refl _ _) | (with_reducible assumption) | ((with_reducible refine Below.setCell ?_ ?_ _); rotate_left; (focus (first | omega | (simp <;> omega)))) | ((with_reducible refine Below.alloc ?_ ?_ _); rotate_left; (focus (first | omega | (simp <;> omega)))) | (with_reducible refine Below.drew ?_) | (with_reducible refine below_drewN ?_ _) | (refine bstep ?_ (by with_reducible assumption)))))) (fun _ _ h => h))); (focus (repeat (first | (with_reducible assumption) | ((with_reducible refine Blk.new' ?_); simp; done) | (with_reducible refine Blk.alloc ?_ _) | (with_reducible refine Blk.drew ?_) | (with_reducible refine Blk.drewN ?_ _)))); rintro vA wA ⟨gA, kA, rfl, RA⟩; have bA := Blk.keep (show Blk _ bw 32 #[slT, .slice (some ⟨gN, 0, none⟩) (n + 4) kN, slE, .slice aA n cA, slB] by (repeat (first | (with_reducible assumption) | ((with_reducible refine Blk.new' ?_); simp; done) | (with_reducible refine Blk.alloc ?_ _) | (with_reducible refine Blk.drew ?_) | (with_reducible refine Blk.drewN ?_ _)))) RA.keep hne2; have cA3 := bA.cell 3; have fA3 := bA.frozen 3; simp only [List.getElem?_toArray, List.getElem?_cons_zero, List.getElem?_cons_succ] at cA3)
  all_goals go_wp2
  all_goals go_end0
  all_goals refine ⟨rfl, w1, w2, w3, wN, wA, _, _, _, _, _, g1, k1, g2, k2, g3, k3, gN, kN, gA, kA, ⟨?_, R1, ?_, R2, ?_, R3, ?_, RN, ?_, RA, rfl⟩⟩
  all_goals first | (rw [← HS.out, ← HSZ.out]; (repeat (first | (with_reducible exact Below.refl _ _) | (with_reducible assumption) | ((with_reducible refine Below.setCell ?_ ?_ _); rotate_left; (focus (first | omega | (simp <;> omega)))) | ((with_reducible refine Below.alloc ?_ ?_ _); rotate_left; (focus (first | omega | (simp <;> omega)))) | (with_reducible refine Below.drew ?_) | (with_reducible refine below_drewN ?_ _) | (refine bstep ?_ (by with_reducible assumption)))); done) | ((repeat (first | (with_reducible exact Below.refl _ _) | (with_reducible assumption) | ((with_reducible refine Below.setCell ?_ ?_ _); rotate_left; (focus (first | omega | (simp <;> omega)))) | ((with_reducible refine Below.alloc ?_ ?_ _); rotate_left; (focus (first | omega | (simp <;> omega)))) | (with_reducible refine Below.drew ?_) | (with_reducible refine below_drewN ?_ _) | (refine bstep ?_ (by with_reducible assumption)))); done)
end Go.Proofs.YtepneihjhcakhaaGreatDoor
