import Derived.Test.YtepneihjhcakhaaGreatDoorRefH
import Derived.Test.YtepneihjhcakhaaGreatDoorTellA
import Derived.Deep.RegionHeld3
import Derived.Deep.CutRange
set_option linter.unusedVariables false
set_option linter.unusedSimpArgs false
namespace Go.Proofs.YtepneihjhcakhaaGreatDoor
open Go.RowKit

theorem q_done {W : World} {b : Nat} {t : TypeId} {z0 z1 z2 z3 z4 z5 z6 z7 z8 : Value} (h : Blk W b t #[z0, z1, z2, z3, z4, z5, z6, z7, z8]) (v0 v1 v2 v3 v4 v5 v6 v7 v8 : Value) :
    Blk (((((((((W.setCell ⟨b, 0, none⟩ v0).setCell ⟨b, 1, none⟩ v1).setCell ⟨b, 2, none⟩ v2).setCell ⟨b, 3, none⟩ v3).setCell ⟨b, 4, none⟩ v4).setCell ⟨b, 5, none⟩ v5).setCell ⟨b, 6, none⟩ v6).setCell ⟨b, 7, none⟩ v7).setCell ⟨b, 8, none⟩ v8) b t #[v0, v1, v2, v3, v4, v5, v6, v7, v8] := by
  have := (((((((((h.set 0 v0).set 1 v1).set 2 v2).set 3 v3).set 4 v4).set 5 v5).set 6 v6).set 7 v7).set 8 v8)
  simp only [List.setIfInBounds_toArray, List.set_cons_zero, List.set_cons_succ] at this
  exact this

theorem q_keep {W : World} {b b6 : Nat} {t : TypeId} {vs : Array Value} (h : Blk W b t vs) (hb : b ≠ b6) (v0 v1 v2 v3 v4 v5 v6 v7 v8 : Value) : Blk (((((((((W.setCell ⟨b6, 0, none⟩ v0).setCell ⟨b6, 1, none⟩ v1).setCell ⟨b6, 2, none⟩ v2).setCell ⟨b6, 3, none⟩ v3).setCell ⟨b6, 4, none⟩ v4).setCell ⟨b6, 5, none⟩ v5).setCell ⟨b6, 6, none⟩ v6).setCell ⟨b6, 7, none⟩ v7).setCell ⟨b6, 8, none⟩ v8) b t vs :=
  (((((((((h.other _ _ hb).other _ _ hb).other _ _ hb).other _ _ hb).other _ _ hb).other _ _ hb).other _ _ hb).other _ _ hb).other _ _ hb)
theorem q_below {w W : World} {B b6 : Nat} (h : Below B w W) (hb : B ≤ b6) (v0 v1 v2 v3 v4 v5 v6 v7 v8 : Value) : Below B w (((((((((W.setCell ⟨b6, 0, none⟩ v0).setCell ⟨b6, 1, none⟩ v1).setCell ⟨b6, 2, none⟩ v2).setCell ⟨b6, 3, none⟩ v3).setCell ⟨b6, 4, none⟩ v4).setCell ⟨b6, 5, none⟩ v5).setCell ⟨b6, 6, none⟩ v6).setCell ⟨b6, 7, none⟩ v7).setCell ⟨b6, 8, none⟩ v8) :=
  (((((((((h.setCell hb _).setCell hb _).setCell hb _).setCell hb _).setCell hb _).setCell hb _).setCell hb _).setCell hb _).setCell hb _)

set_option maxRecDepth 100000 in
set_option maxHeartbeats 2000000 in
theorem told_ref {w : World} {br g cap : Nat} {L : List Ent} (h : RefIn w br g cap L) (E : Ents L) (i : Nat) (x : Ent) (hi : L[i]? = some x) :
    Calls Tryz.prog 65 #[.pointer (some ⟨br, 0, none⟩), .int .i64 i] w fun e w' => e = .returned (.agg #[.string (sb (joinB x.key)), .bool x.leaf, .int .i64 (es0 (eunder L (joinB x.key))), .int .i64 (es1 (eunder L (joinB x.key))), .int .i64 x.b0, .int .i64 x.b1, .int .i64 0, .int .i64 0, .slice none 0 0]) ∧ Below w.heap.size w w' := by
  have hbr := h.at_.lt
  have hgl := (h.row.lt g rfl).2
  have hnom := fun W (hW : Below w.heap.size w W) => nominal_ref (h.below hW) E (sb (joinB x.key)) (E.small (List.mem_of_getElem? hi))
  rw [bl_sb] at hnom
  have husg := fun W (hW : Below w.heap.size w W) => usage_any (h.below hW) (sb (joinB x.key))
  have hwL := fun W (hW : Below w.heap.size w W) => ((h.below hW).at_.cell 1)
  have hc0 := h.at_.cell 0
  simp only [List.getElem?_toArray, List.getElem?_cons_zero, List.getElem?_cons_succ] at hc0 hwL
  have hilt : i < L.length := (List.getElem?_eq_some_iff.1 hi).1
  have hL20 := E.len
  have p0 := h.ent hi (j := 0) (v := .string (sb (joinB x.key))) rfl
  have p1 := h.ent hi (j := 1) (v := .bool x.leaf) rfl
  have p2 := h.ent hi (j := 2) (v := .int .i64 x.n0) rfl
  have p3 := h.ent hi (j := 3) (v := .int .i64 x.n1) rfl
  have p4 := h.ent hi (j := 4) (v := .int .i64 x.b0) rfl
  have p5 := h.ent hi (j := 5) (v := .int .i64 x.b1) rfl
  simp only [Nat.add_zero] at p0
  clear hi h E
  obtain ⟨n, hn⟩ : ∃ n, n = L.length := ⟨_, rfl⟩
  rw [← hn] at hilt hL20 hc0
  clear hn
  generalize es0 (eunder L (joinB x.key)) = s0 at *
  generalize es1 (eunder L (joinB x.key)) = s1 at *
  generalize sb (joinB x.key) = pth at *
  have hi0 : (0:Int) ≤ i := by omega
  have hi1 : (i:Int) < n := by omega
  have b4s : Blk ((w.alloc (.cells #[.string ⟨#[]⟩, .bool false, .int .i64 0, .int .i64 0, .int .i64 0, .int .i64 0, .int .i64 0, .int .i64 0, .slice none 0 0] 93)).alloc (.cells #[.string pth, .bool x.leaf, .int .i64 x.n0, .int .i64 x.n1, .int .i64 x.b0, .int .i64 x.b1] 65)) w.heap.size 93 #[.string ⟨#[]⟩, .bool false, .int .i64 0, .int .i64 0, .int .i64 0, .int .i64 0, .int .i64 0, .int .i64 0, .slice none 0 0] := (Blk.new w 93 _).alloc _
  have b5s : Blk ((w.alloc (.cells #[.string ⟨#[]⟩, .bool false, .int .i64 0, .int .i64 0, .int .i64 0, .int .i64 0, .int .i64 0, .int .i64 0, .slice none 0 0] 93)).alloc (.cells #[.string pth, .bool x.leaf, .int .i64 x.n0, .int .i64 x.n1, .int .i64 x.b0, .int .i64 x.b1] 65)) (w.heap.size + 1) 65 #[.string pth, .bool x.leaf, .int .i64 x.n0, .int .i64 x.n1, .int .i64 x.b0, .int .i64 x.b1] := Blk.new' (by simp)
  go_enter Tryz.func65, Tryz.ntmps65
  go_upto_region 2 with fail
  clear p0 p1 p2 p3 p4 p5 hc0
  have hB0 : Below w.heap.size w ((w.alloc (.cells #[.string ⟨#[]⟩, .bool false, .int .i64 0, .int .i64 0, .int .i64 0, .int .i64 0, .int .i64 0, .int .i64 0, .slice none 0 0] 93)).alloc (.cells #[.string pth, .bool x.leaf, .int .i64 x.n0, .int .i64 x.n1, .int .i64 x.b0, .int .i64 x.b1] 65)) := by (repeat (first | (with_reducible exact Below.refl _ _) | (with_reducible assumption) | ((with_reducible refine Below.setCell ?_ ?_ _); rotate_left; (focus (first | omega | (simp <;> omega)))) | ((with_reducible refine Below.alloc ?_ ?_ _); rotate_left; (focus (first | omega | (simp <;> omega)))) | (with_reducible refine Below.drew ?_) | (with_reducible refine below_drewN ?_ _) | (refine bstep ?_ (by with_reducible assumption))))
  have hsz0 : ((w.alloc (.cells #[.string ⟨#[]⟩, .bool false, .int .i64 0, .int .i64 0, .int .i64 0, .int .i64 0, .int .i64 0, .int .i64 0, .slice none 0 0] 93)).alloc (.cells #[.string pth, .bool x.leaf, .int .i64 x.n0, .int .i64 x.n1, .int .i64 x.b0, .int .i64 x.b1] 65)).heap.size = w.heap.size + 2 := by simp
  generalize ((w.alloc (.cells #[.string ⟨#[]⟩, .bool false, .int .i64 0, .int .i64 0, .int .i64 0, .int .i64 0, .int .i64 0, .int .i64 0, .slice none 0 0] 93)).alloc (.cells #[.string pth, .bool x.leaf, .int .i64 x.n0, .int .i64 x.n1, .int .i64 x.b0, .int .i64 x.b1] 65)) = W0 at b5s b4s hB0 hsz0 ⊢
  have d0 := b5s.cell 0
  have d1 := b5s.cell 1
  have d4 := b5s.cell 4
  have d5 := b5s.cell 5
  have lt4 := b4s.lt
  have lt5 := b5s.lt
  have hsz1 := hB0.size
  simp only [List.getElem?_toArray, List.getElem?_cons_zero, List.getElem?_cons_succ] at d0 d1 d4 d5
  clear hsz0
  have k0 : ¬ (br = W0.heap.size) := by omega
  have k0' : ¬ (w.heap.size = W0.heap.size) := by omega
  have n05 : ¬ (w.heap.size + 1 = W0.heap.size) := by omega
  have n05' : ¬ (W0.heap.size = w.heap.size + 1) := by omega
  go_cut [6] from 15 to 29 (fun q wx => ∃ b6, q = .pointer (some ⟨b6, 0, none⟩) ∧ Below w.heap.size w wx ∧ Blk wx w.heap.size 93 #[.string ⟨#[]⟩, .bool false, .int .i64 0, .int .i64 0, .int .i64 0, .int .i64 0, .int .i64 0, .int .i64 0, .slice none 0 0] ∧ Blk wx b6 93 #[.string pth, .bool x.leaf, .int .i64 s0, .int .i64 s1, .int .i64 x.b0, .int .i64 x.b1, .int .i64 0, .int .i64 0, .slice none 0 0] ∧ w.heap.size < b6)
  case first =>
    go_region_held3 (fun w' => w'.cell? ⟨w.heap.size + 1, 0, none⟩ = some (.string pth) ∧ w'.cell? ⟨w.heap.size + 1, 1, none⟩ = some (.bool x.leaf) ∧ w'.cell? ⟨w.heap.size + 1, 4, none⟩ = some (.int .i64 x.b0) ∧ w'.cell? ⟨w.heap.size + 1, 5, none⟩ = some (.int .i64 x.b1)) (go_keep)
      (first
      | (go_at_call 80; refine (hnom _ ?_).mono ?_; (focus (repeat (first | (with_reducible exact Below.refl _ _) | (with_reducible assumption) | ((with_reducible refine Below.setCell ?_ ?_ _); rotate_left; (focus (first | omega | (simp <;> omega)))) | ((with_reducible refine Below.alloc ?_ ?_ _); rotate_left; (focus (first | omega | (simp <;> omega)))) | (with_reducible refine Below.drew ?_) | (with_reducible refine below_drewN ?_ _) | (refine bstep ?_ (by with_reducible assumption))))); rintro e w1 ⟨rfl, hb1⟩; have hB1 : Below w.heap.size w w1 := bstep (by (repeat (first | (with_reducible exact Below.refl _ _) | (with_reducible assumption) | ((with_reducible refine Below.setCell ?_ ?_ _); rotate_left; (focus (first | omega | (simp <;> omega)))) | ((with_reducible refine Below.alloc ?_ ?_ _); rotate_left; (focus (first | omega | (simp <;> omega)))) | (with_reducible refine Below.drew ?_) | (with_reducible refine below_drewN ?_ _) | (refine bstep ?_ (by with_reducible assumption))))) hb1; have b51 : Blk w1 (w.heap.size + 1) 65 #[.string pth, .bool x.leaf, .int .i64 x.n0, .int .i64 x.n1, .int .i64 x.b0, .int .i64 x.b1] := Blk.below (by (repeat (first | (with_reducible assumption) | ((with_reducible refine Blk.new' ?_); simp; done) | (with_reducible refine Blk.alloc ?_ _) | (with_reducible refine Blk.drew ?_) | (with_reducible refine Blk.drewN ?_ _)))) hb1 (by first | omega | (simp <;> omega)); have b41 : Blk w1 w.heap.size 93 #[.string ⟨#[]⟩, .bool false, .int .i64 0, .int .i64 0, .int .i64 0, .int .i64 0, .int .i64 0, .int .i64 0, .slice none 0 0] := Blk.below (by (repeat (first | (with_reducible assumption) | ((with_reducible refine Blk.new' ?_); simp; done) | (with_reducible refine Blk.alloc ?_ _) | (with_reducible refine Blk.drew ?_) | (with_reducible refine Blk.drewN ?_ _)))) hb1 (by first | omega | (simp <;> omega)); have e0 := b51.cell 0; have e1 := b51.cell 1; have e4 := b51.cell 4; have e5 := b51.cell 5; have l4 := b41.lt; have l5 := b51.lt; have hz1 := hB1.size; have k1 : ¬ (br = w1.heap.size) := (by omega); have k1' : ¬ (w.heap.size = w1.heap.size) := (by omega); have k1'' : br < w1.heap.size := (by omega); have n15 : ¬ (w.heap.size + 1 = w1.heap.size) := (by omega); have n15' : ¬ (w1.heap.size = w.heap.size + 1) := (by omega); simp only [List.getElem?_toArray, List.getElem?_cons_zero, List.getElem?_cons_succ] at e0 e1 e4 e5; (try (have b61 : Blk w1 W0.heap.size 93 #[.string ⟨#[]⟩, .bool false, .int .i64 0, .int .i64 0, .int .i64 0, .int .i64 0, .int .i64 0, .int .i64 0, .slice none 0 0] := Blk.below (by first | (with_reducible exact Blk.new' (by simp)) | (with_reducible exact Blk.drew (Blk.new' (by simp)))) hb1 (by simp); have l6 := b61.lt)))
      | (go_at_call 81; refine (husg _ ?_).mono ?_; (focus (repeat (first | (with_reducible exact Below.refl _ _) | (with_reducible assumption) | ((with_reducible refine Below.setCell ?_ ?_ _); rotate_left; (focus (first | omega | (simp <;> omega)))) | ((with_reducible refine Below.alloc ?_ ?_ _); rotate_left; (focus (first | omega | (simp <;> omega)))) | (with_reducible refine Below.drew ?_) | (with_reducible refine below_drewN ?_ _) | (refine bstep ?_ (by with_reducible assumption))))); rintro e w2 ⟨rfl, hb2⟩; have hB2 : Below w.heap.size w w2 := bstep (by (repeat (first | (with_reducible exact Below.refl _ _) | (with_reducible assumption) | ((with_reducible refine Below.setCell ?_ ?_ _); rotate_left; (focus (first | omega | (simp <;> omega)))) | ((with_reducible refine Below.alloc ?_ ?_ _); rotate_left; (focus (first | omega | (simp <;> omega)))) | (with_reducible refine Below.drew ?_) | (with_reducible refine below_drewN ?_ _) | (refine bstep ?_ (by with_reducible assumption))))) hb2; have b52 : Blk w2 (w.heap.size + 1) 65 #[.string pth, .bool x.leaf, .int .i64 x.n0, .int .i64 x.n1, .int .i64 x.b0, .int .i64 x.b1] := Blk.below (by (repeat (first | (with_reducible assumption) | ((with_reducible refine Blk.new' ?_); simp; done) | (with_reducible refine Blk.alloc ?_ _) | (with_reducible refine Blk.drew ?_) | (with_reducible refine Blk.drewN ?_ _)))) hb2 (by first | omega | (simp <;> omega)); have b42 : Blk w2 w.heap.size 93 #[.string ⟨#[]⟩, .bool false, .int .i64 0, .int .i64 0, .int .i64 0, .int .i64 0, .int .i64 0, .int .i64 0, .slice none 0 0] := Blk.below (by (repeat (first | (with_reducible assumption) | ((with_reducible refine Blk.new' ?_); simp; done) | (with_reducible refine Blk.alloc ?_ _) | (with_reducible refine Blk.drew ?_) | (with_reducible refine Blk.drewN ?_ _)))) hb2 (by first | omega | (simp <;> omega)); have f0 := b52.cell 0; have f1 := b52.cell 1; have f4 := b52.cell 4; have f5 := b52.cell 5; have m4 := b42.lt;  have m5 := b52.lt; have hz2 := hB2.size; have k2 : ¬ (br = w2.heap.size) := (by omega); have k2' : ¬ (w.heap.size = w2.heap.size) := (by omega); have k2'' : br < w2.heap.size := (by omega); have n25 : ¬ (w.heap.size + 1 = w2.heap.size) := (by omega); have n25' : ¬ (w2.heap.size = w.heap.size + 1) := (by omega); simp only [List.getElem?_toArray, List.getElem?_cons_zero, List.getElem?_cons_succ] at f0 f1 f4 f5; (try (have b62 : Blk w2 W0.heap.size 93 #[.string ⟨#[]⟩, .bool false, .int .i64 0, .int .i64 0, .int .i64 0, .int .i64 0, .int .i64 0, .int .i64 0, .slice none 0 0] := Blk.below (by with_reducible exact b61) hb2 (by omega); have c6 := b62.cell; have g6 := b62.frozen; have l62 := b62.lt)); (try (have b62 : Blk w2 w1.heap.size 93 #[.string ⟨#[]⟩, .bool false, .int .i64 0, .int .i64 0, .int .i64 0, .int .i64 0, .int .i64 0, .int .i64 0, .slice none 0 0] := Blk.below (by first | (with_reducible exact Blk.new' (by simp)) | (with_reducible exact Blk.drew (Blk.new' (by simp)))) hb2 (by simp); have c6 := b62.cell; have g6 := b62.frozen; have l62 := b62.lt)); have hw2 := hwL _ hB2))
    all_goals go_wp2_with fail
    · go_meet
      exact ⟨_, rfl, hB2.alloc hz2 _, b42.alloc _, Blk.new' rfl, m4⟩
    · go_meet
      exact ⟨_, rfl, q_below hB2 hz1 .., q_keep b42 k1' .., q_done b62 .., l4⟩
    · go_meet
      exact ⟨_, rfl, q_below hB2 hsz1 .., q_keep b42 k0' .., q_done b62 .., lt4⟩
  case rest =>
    obtain ⟨b6, rfl, hBc, b4c, b6c, hlt6⟩ := hcut
    have hwc := hwL _ hBc
    clear hnom husg hwL b4s b5s hB0 d0 d1 d4 d5
    have c6 := b6c.cell
    have c4 := b4c.cell
    have g4 := b4c.frozen
    have n46 : ¬ (w.heap.size = b6) := by omega
    have n64 : ¬ (b6 = w.heap.size) := by omega
    go_wp2
    refine wp_loop_rounds 1 ?_
    rw [rounds_succ]
    go_wp2
    have hfin := q_done b4c (.string pth) (.bool x.leaf) (.int .i64 s0) (.int .i64 s1) (.int .i64 x.b0) (.int .i64 x.b1) (.int .i64 0) (.int .i64 0) (.slice none 0 0)
    have hc := hfin.cell
    clear c4 c6 g4
    exact bodyPost_ret (v := .agg #[.string pth, .bool x.leaf, .int .i64 s0, .int .i64 s1, .int .i64 x.b0, .int .i64 x.b1, .int .i64 0, .int .i64 0, .slice none 0 0]) (by simp [results, Tryz.results65, go_sem, hc]) rfl ⟨rfl, q_below hBc (Nat.le_refl _) ..⟩

/-- What the document's Queue answers. -/
def toldE (L : List Ent) (s : Bs) : Array Value × Int :=
  if validB s = false then (qCells [] false 0 0 0 0, 1) else match findE L (namesB s) with
    | none => (qCells [] false 0 0 0 0, 3)
    | some x => (qCells (joinB x.key) x.leaf (es0 (eunder L (joinB x.key))) (es1 (eunder L (joinB x.key))) x.b0 x.b1, 0)

set_option maxRecDepth 100000 in
set_option maxHeartbeats 2000000 in
theorem queue_ref {w : World} {br g cap : Nat} {L : List Ent} (h : RefIn w br g cap L) (E : Ents L) (hinj : ∀ a ∈ L, ∀ b ∈ L, a.key = b.key → a = b) (s : ByteArray) (hs : s.size ≤ 2000000) :
    Calls Tryz.prog 46 #[.pointer (some ⟨br, 0, none⟩), .string s] w (QueueR w (toldE L (bl s))) := by
  unfold toldE
  have b0 : Blk (w.alloc (.cells (qCells [] false 0 0 0 0) 93)) w.heap.size 93 (qCells [] false 0 0 0 0) := Blk.new w 93 _
  unfold qCells at b0
  rw [show sb [] = (⟨#[]⟩ : ByteArray) from rfl] at b0
  cases hv : validB (bl s)
  · have hn := fun W => names_bad s hs hv W
    simp only [if_true]
    go_enter Tryz.func46, Tryz.ntmps46
    go_wp2_with (go_at_call 34; refine (hn _).mono ?_; rintro e w1 ⟨rfl, hb1⟩; have b1 := b0.below hb1 (by simp); have hcl := b1.cell; have hfr := b1.frozen)
    have hfin := q_done b1 (.string ⟨#[]⟩) (.bool false) (.int .i64 0) (.int .i64 0) (.int .i64 0) (.int .i64 0) (.int .i64 0) (.int .i64 0) (.slice none 0 0)
    have hc := hfin.cell
    clear hcl hfr
    have hB1 : Below w.heap.size w w1 := bstep (by (repeat (first | (with_reducible exact Below.refl _ _) | (with_reducible assumption) | ((with_reducible refine Below.setCell ?_ ?_ _); rotate_left; (focus (first | omega | (simp <;> omega)))) | ((with_reducible refine Below.alloc ?_ ?_ _); rotate_left; (focus (first | omega | (simp <;> omega)))) | (with_reducible refine Below.drew ?_) | (with_reducible refine below_drewN ?_ _) | (refine bstep ?_ (by with_reducible assumption))))) hb1
    exact bodyPost_ret (v := .tuple #[.agg (qCells [] false 0 0 0 0), .int .i64 1]) (by simp [results, Tryz.results46, go_sem, hc, qCells, sb]) rfl ⟨rfl, q_below hB1 (Nat.le_refl _) ..⟩
  · have hn := fun W => names_good s hs hv W
    have hkok : keyOK (namesB (bl s)) = true := by rw [← validB_keyOK]; exact hv
    simp only [Bool.true_eq_false, if_false]
    cases hf : findE L (namesB (bl s)) with
    | none =>
      have hat := fun W (hW : Below w.heap.size w W) => at_none (h.below hW) E hinj s (namesB (bl s)) hkok (joinB_namesB (bl s)).symm hf
      clear hf h E hinj
      go_enter Tryz.func46, Tryz.ntmps46
      go_wp2_with (first
        | (go_at_call 34; refine (hn _).mono ?_; rintro e w1 ⟨⟨ao, cp, rfl, hrow⟩, hb1⟩; have hB1 : Below w.heap.size w w1 := bstep (by (repeat (first | (with_reducible exact Below.refl _ _) | (with_reducible assumption) | ((with_reducible refine Below.setCell ?_ ?_ _); rotate_left; (focus (first | omega | (simp <;> omega)))) | ((with_reducible refine Below.alloc ?_ ?_ _); rotate_left; (focus (first | omega | (simp <;> omega)))) | (with_reducible refine Below.drew ?_) | (with_reducible refine below_drewN ?_ _) | (refine bstep ?_ (by with_reducible assumption))))) hb1; have b1 := b0.below hb1 (by simp); have hcl := b1.cell; have hfr := b1.frozen)
        | (go_at_call 35; refine (hat _ hB1).mono ?_; rintro e w2 ⟨rfl, hw2⟩; subst hw2))
      have hfin := q_done b1 (.string ⟨#[]⟩) (.bool false) (.int .i64 0) (.int .i64 0) (.int .i64 0) (.int .i64 0) (.int .i64 0) (.int .i64 0) (.slice none 0 0)
      have hc := hfin.cell
      clear hcl hfr
      exact bodyPost_ret (v := .tuple #[.agg (qCells [] false 0 0 0 0), .int .i64 3]) (by simp [results, Tryz.results46, go_sem, hc, qCells, sb]) rfl ⟨rfl, q_below hB1 (Nat.le_refl _) ..⟩
    | some x =>
      have hat := fun W (hW : Below w.heap.size w W) => at_some (h.below hW) E hinj s (namesB (bl s)) hkok (joinB_namesB (bl s)).symm hf
      have htold := fun W (hW : Below w.heap.size w W) i (hi : L[i]? = some x) => told_ref (h.below hW) E i x hi
      clear hf h E hinj
      dsimp only
      unfold qCells
      generalize es0 (eunder L (joinB x.key)) = s0 at htold ⊢
      generalize es1 (eunder L (joinB x.key)) = s1 at htold ⊢
      generalize sb (joinB x.key) = pth at htold ⊢
      go_enter Tryz.func46, Tryz.ntmps46
      go_wp2_with (first
        | (go_at_call 34; refine (hn _).mono ?_; rintro e w1 ⟨⟨ao, cp, rfl, hrow⟩, hb1⟩; have hB1 : Below w.heap.size w w1 := bstep (by (repeat (first | (with_reducible exact Below.refl _ _) | (with_reducible assumption) | ((with_reducible refine Below.setCell ?_ ?_ _); rotate_left; (focus (first | omega | (simp <;> omega)))) | ((with_reducible refine Below.alloc ?_ ?_ _); rotate_left; (focus (first | omega | (simp <;> omega)))) | (with_reducible refine Below.drew ?_) | (with_reducible refine below_drewN ?_ _) | (refine bstep ?_ (by with_reducible assumption))))) hb1; have b1 := b0.below hb1 (by simp))
        | (go_at_call 35; refine (hat _ hB1).mono ?_; rintro e w2 ⟨⟨i, rfl, hi⟩, hw2⟩; subst hw2)
        | (go_at_call 65; refine (htold _ hB1 _ hi).mono ?_; rintro e w3 ⟨rfl, hb3⟩; have hB3 : Below w.heap.size w w3 := bstep hB1 hb3; have b3 := b1.below hb3 b1.lt; have hcl := b3.cell; have hfr := b3.frozen))
      have hfin := q_done b3 (.string pth) (.bool x.leaf) (.int .i64 s0) (.int .i64 s1) (.int .i64 x.b0) (.int .i64 x.b1) (.int .i64 0) (.int .i64 0) (.slice none 0 0)
      have hc := hfin.cell
      clear hcl hfr
      exact bodyPost_ret (v := .tuple #[.agg #[.string pth, .bool x.leaf, .int .i64 s0, .int .i64 s1, .int .i64 x.b0, .int .i64 x.b1, .int .i64 0, .int .i64 0, .slice none 0 0], .int .i64 0]) (by simp [results, Tryz.results46, go_sem, hc]) rfl ⟨rfl, q_below hB3 (Nat.le_refl _) ..⟩
end Go.Proofs.YtepneihjhcakhaaGreatDoor
