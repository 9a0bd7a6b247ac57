import Derived.Test.YtphclnolomgjoaaGreatDoorX05
import Derived.Test.YtphclnolomgjoaaGreatDoorB37
import Derived.Test.YtphclnolomgjoaaGreatDoorX01
set_option linter.unusedVariables false
set_option linter.unusedSimpArgs false
namespace Go.Proofs.YtphclnolomgjoaaGreatDoor
open Go.RowKit
section
variable {F : Nat → Prop} {W : World} {rb : Nat} {R : KR} {n : Nat} {nodes : List Node}
def ToldW (rb : Nat) (W : World) (i : Nat) (pth : ByteArray) (lf : Bool) (N0 N1 b0 b1 U0 U1 : Int) (nw : Nat) (nums : Nat → Int) : Prop := ∀ Wx, Below W.heap.size W Wx → Calls Tryz.prog 19 #[.pointer (some ⟨rb, 0, none⟩), .int .i64 i] Wx fun e w1 => ∃ a1 c1, e = .returned (.tuple #[.agg #[.string pth, .bool lf, .int .i64 N0, .int .i64 N1, .int .i64 b0, .int .i64 b1, .int .i64 U0, .int .i64 U1, .slice a1 nw c1], .bool true]) ∧ Below Wx.heap.size Wx w1 ∧ nw ≤ c1 ∧ c1 ≤ maxLen ∧ Hid (∀ j, j < nw → ∃ g, a1 = some ⟨g, 0, none⟩ ∧ g < w1.heap.size ∧ w1.cell? ⟨g, j, none⟩ = some (.int .i64 (nums j)))
def IdFit (j : Nat) (W : World) (e : Ending) (w' : World) : Prop := (∃ b, e = .returned (.bool b) ∧ (j = 0 → b = false)) ∧ Below W.heap.size W w'
def IdAt (rb : Nat) (W : World) (k j : Nat) (num : Int) : Prop := ∃ (d0 d1 st : Int), (∀ Wx, Below W.heap.size W Wx → Calls Tryz.prog 20 #[.pointer (some ⟨rb, 0, none⟩), .int .i64 num] Wx fun e w' => e = .returned (.tuple #[.agg #[.int .i64 num, .int .i64 k, .int .i64 d0, .int .i64 d1, .bool false, .int .i64 st], .bool true]) ∧ Below Wx.heap.size Wx w') ∧
  (∀ Wx, Below W.heap.size W Wx → Calls Tryz.prog 21 #[.pointer (some ⟨rb, 0, none⟩), .int .i64 k, .agg #[.int .i64 d0, .int .i64 d1]] Wx (IdFit j Wx))
theorem idle_leaf (h : qau F W rb R) (I : RunI n R) {k : Nat} (hk : k < 5) : ∃ (pth : ByteArray) (lf : Bool) (N0 N1 b0 b1 U0 U1 : Int) (nw : Nat) (nums : Nat → Int), ToldW rb W k pth lf N0 N1 b0 b1 U0 U1 nw nums ∧ waitK R (k + 1) = waitK R k + nw ∧ nw ≤ 24 ∧ ∀ j, j < nw → IdAt rb W k j (nums j) := by
  obtain ⟨nodes, K⟩ := h.kinv
  have hw24 : R.works.length ≤ 24 := by rw [I.wlen]; exact K.inv.wks.wks.len
  obtain ⟨x, hx, hxk, hxl, hsz, hq⟩ := qs6 h K I (i := k + 1) (by omega)
  have hp : R.paths[k]? = some x.key := by
    rw [hxk]
    have : k < R.paths.length := by rw [I.len]; omega
    simp [keyI, List.getD, List.getElem?_eq_getElem this]
  have hki : (((k + 1 : Nat) : Int) - 1) = (k : Int) := by omega
  rw [hki] at hq
  refine ⟨sb (qaa x.key), x.leaf, es0 (qai R.k.L (qaa x.key)), es1 (qai R.k.L (qaa x.key)), x.b0, x.b1, ws0 (qae R.k.Ws (qaa x.key)), ws1 (qae R.k.Ws (qaa x.key)), (R.k.waits x).length, fun j => ((R.k.waits x)[j]?.map (·.num)).getD 0, fun Wx hb => ?_, waitK_succ I K hp, ?_, fun j hj => ?_⟩
  · refine (hq Wx hb).mono ?_
    rintro e w3 ⟨v, rfl, g1, g2, g3⟩
    obtain ⟨a1, c1, rfl, h1, h2⟩ := qa7 g1
    refine ⟨a1, c1, rfl, g2, h1, h2, fun j hj => ?_⟩
    obtain ⟨g, cap, e, _, _⟩ := qa9 g1 (by omega)
    injection e with e1
    subst e1
    have hc := g1.cells (g := g) rfl j (.int .i64 (R.k.waits x)[j].num) (by unfold qjb; rw [List.getElem?_map, List.getElem?_eq_getElem hj]; rfl)
    rw [Addr.add_lit, Nat.zero_add] at hc
    refine ⟨g, rfl, qap g1 rfl, ?_⟩
    rw [hc]
    show some (Value.int .i64 (R.k.waits x)[j].num) = some (Value.int .i64 (((R.k.waits x)[j]?.map (·.num)).getD 0))
    rw [List.getElem?_eq_getElem hj]
    rfl
  · rw [waits_eq]
    have := List.length_filter_le (fun y => decide (y.key = x.key) && (y.st == 0)) R.k.Ws
    rw [I.wlen] at hw24
    omega
  · have hy : (R.k.waits x)[j]? = some (R.k.waits x)[j] := List.getElem?_eq_getElem hj
    obtain ⟨q, w, hw, hwn, hwf, hwi, hwl, hwk, hwz⟩ := wait_at I K hp hy
    show IdAt rb W k j (((R.k.waits x)[j]?.map (·.num)).getD 0)
    rw [hy]
    simp only [Option.map_some, Option.getD_some]
    rw [← hwn]
    refine ⟨w.d0, w.d1, w.qav, fun Wx hb => ?_, fun Wx hb => ?_⟩
    · have := kfind (h.below hb) hw24 hw hwf
      rw [hwi, hwl] at this
      exact this
    · have hd := K.inv.wks.wks.num (w.wk R.paths) (I.perm.mem_iff.1 (List.mem_map_of_mem (List.mem_of_getElem? hw)))
      refine (kfits (h.below hb) I (lf := k) hk (w.wk R.paths) (by simp [KW.wk, hwl]) hd.1 hd.2).mono ?_
      rintro e w' ⟨⟨b, rfl, hb1⟩, hb2⟩
      refine ⟨⟨b, rfl, fun hj0 => ?_⟩, hb2⟩
      have h0 := hwz hj0
      rw [hwk] at h0
      cases b
      · rfl
      · rw [hb1 rfl] at h0; cases h0
theorem idle_work {P : Nat → Prop} {bt : Nat} {vp vw vl : Value} (h : RunM F W rb R P bt vp vw vl) (I : RunI n R) {k : Nat} (hk : k < R.works.length) : ∃ (g c gp cp lf : Nat) (num d0 d1 : Int) (inn : Bool) (pth : ByteArray), vw = .slice (some ⟨g, 0, none⟩) R.works.length c ∧ vp = .slice (some ⟨gp, 0, none⟩) 8 cp ∧ (g < W.heap.size ∧ gp < W.heap.size ∧ R.works.length ≤ c ∧ c ≤ maxLen ∧ lf < 8 ∧ 8 ≤ cp ∧ cp ≤ maxLen) ∧
    W.cell? ⟨g, k * 6, none⟩ = some (.int .i64 num) ∧ W.cell? ⟨g, k * 6 + 1, none⟩ = some (.int .i64 lf) ∧ W.cell? ⟨g, k * 6 + 2, none⟩ = some (.int .i64 d0) ∧ W.cell? ⟨g, k * 6 + 3, none⟩ = some (.int .i64 d1) ∧ W.cell? ⟨g, k * 6 + 4, none⟩ = some (.bool inn) ∧ W.cell? ⟨gp, lf, none⟩ = some (.string pth) ∧
    (∀ Wx, Below W.heap.size W Wx → Calls Tryz.prog 22 #[.pointer (some ⟨bt, 0, none⟩), .int .i64 num] Wx fun e w' => e = .returned (.tuple #[.agg #[.string pth, .int .i64 d0, .int .i64 d1, .bool inn], .int .i64 0]) ∧ Below Wx.heap.size Wx w') ∧
    outK R (k + 1) = outK R k + (if inn then 0 else 1) := by
  obtain ⟨x, hx⟩ : ∃ x, R.works[k]? = some x := ⟨_, List.getElem?_eq_getElem hk⟩
  have hxm := List.mem_of_getElem? hx
  have hxl := I.idx x hxm
  obtain ⟨p, hp⟩ : ∃ p, R.paths[x.leaf]? = some p := ⟨_, List.getElem?_eq_getElem (by rw [I.len]; omega)⟩
  obtain ⟨gp, cp, hvp, hgl, hgne, hcp1, hcp2, q0⟩ := h.path hp
  obtain ⟨g, c, hvw, hg, hgn, hc1, hc2, p0, p1, p2, p3, p4, p5⟩ := h.tk.cells hx
  rw [I.len] at hvp hcp1
  refine ⟨g, c, gp, cp, x.leaf, x.num, x.d0, x.d1, x.inn, _, hvw, hvp, ⟨hg, hgl, hc1, hc2, by omega, hcp1, hcp2⟩, p0, p1, p2, p3, p4, q0, fun Wx hb => ?_, outK_succ hx⟩
  have hwm : KW.wk R.paths x ∈ R.k.Ws := I.perm.mem_iff.1 (List.mem_map_of_mem hxm)
  have hky : (KW.wk R.paths x).key = p := by simp [KW.wk, List.getD, hp]
  have hst : decide (0 < (KW.wk R.paths x).st) = x.inn := by
    unfold KW.wk
    cases hi : x.inn
    · simp
    · have := I.pos x hxm hi
      simp [this]
  have := k_work (h.below hb).tw x.num hwm rfl
  rw [hky, hst] at this
  exact this
end
end Go.Proofs.YtphclnolomgjoaaGreatDoor
