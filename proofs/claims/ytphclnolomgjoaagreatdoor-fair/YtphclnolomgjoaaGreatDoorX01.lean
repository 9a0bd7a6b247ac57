import Derived.Test.YtphclnolomgjoaaGreatDoorB37
import Derived.BigQuiet
set_option linter.unusedVariables false
set_option linter.unusedSimpArgs false
namespace Go.Proofs.YtphclnolomgjoaaGreatDoor
open Go.RowKit
theorem tkOne_len {s s' : List KW × Int} {e : Int × Int} (h : qng s e = some s') : s'.1.length = s.1.length ∧ s.2 ≤ s'.2 ∧ s'.2 ≤ s.2 + 1 := by
  obtain ⟨k, x, _, _, _, h | h⟩ := qrp h
  · rw [h.2.2]; simp; omega
  · rw [h.2.2]; simp; omega
theorem tkAll_len : ∀ {es : List (Int × Int)} {s s' : List KW × Int}, qdj s es = some s' → s'.1.length = s.1.length ∧ s.2 ≤ s'.2 ∧ s'.2 ≤ s.2 + es.length
  | [], s, s', h => by simp only [qdj, Option.some.injEq] at h; subst h; simp
  | e :: es, s, s', h => by
    unfold qdj at h
    cases h1 : qng s e with
    | none => rw [h1] at h; cases h
    | some s1 =>
      rw [h1] at h
      have a := tkOne_len h1
      have b := tkAll_len (s := s1) h
      simp only [List.length_cons]
      omega
end Go.Proofs.YtphclnolomgjoaaGreatDoor
namespace Go.Proofs.YtphclnolomgjoaaGreatDoor
open Go.RowKit
def w0Vals : Array Value := #[.string ⟨#[]⟩, .int .i64 0, .int .i64 0, .bool false]
def WrkR (ws as_ : List Pw) (num : Int) (w : World) (e : Ending) (w' : World) : Prop :=
  match qgd as_ num with
  | some p => e = .returned (.tuple #[.agg #[.string (sb (qaa p.x.key)), .int .i64 p.x.d0, .int .i64 p.x.d1, .bool true], .int .i64 0]) ∧ Below w.heap.size w w'
  | none => match qgd ws num with
    | some p => e = .returned (.tuple #[.agg #[.string (sb (qaa p.x.key)), .int .i64 p.x.d0, .int .i64 p.x.d1, .bool false], .int .i64 0]) ∧ Below w.heap.size w w'
    | none => e = .returned (.tuple #[.agg w0Vals, .int .i64 12]) ∧ Below w.heap.size w w'
set_option maxRecDepth 100000 in
set_option maxHeartbeats 2000000 in
theorem workT_some {nodes : List Node} (T0 : Tree nodes) {w : World} {bt : Nat} {r : Node} {lst vw va : Value} {ws as_ : List Pw} (h : TwAt w nodes bt r lst vw va ws as_) (num : Int) {p : Pw} (hp : p ∈ ws ++ as_) {b : Bool} (hb : qgr ws as_ num = (nptr p.blk, b)) :
    Calls Tryz.prog 22 #[.pointer (some ⟨bt, 0, none⟩), .int .i64 num] w fun e w' => e = .returned (.tuple #[.agg #[.string (sb (qaa p.x.key)), .int .i64 p.x.d0, .int .i64 p.x.d1, .bool b], .int .i64 0]) ∧ Below w.heap.size w w' := by
  have hfind := fun W (hW : Below w.heap.size w W) => qmf (h.below hW).bk num
  obtain ⟨n, hn, hnq, hnk⟩ := h.lf p hp
  have hpath := fun W (hW : Below w.heap.size w W) => qig T0 n.key.length n hn rfl W (h.below hW).ins
  have hwk : ∀ W, Below w.heap.size w W → Blk W p.blk 105 p.cells := fun W hW => (h.below hW).bk.works p hp
  rw [hb] at hfind
  rw [hnk, hnq] at hpath
  unfold nptr at hfind hpath
  have b0 : Blk (w.alloc (.cells w0Vals 52)) w.heap.size 52 w0Vals := Blk.new w 52 _
  unfold w0Vals at b0
  have hbt := h.bk.at_.lt
  generalize sb (qaa p.x.key) = pth at *
  unfold Pw.cells nptr at hwk
  have hpl := (h.bk.works p hp).lt
  have b00 : Blk (w.alloc (.cells #[.string ⟨#[]⟩, .int .i64 0, .int .i64 0, .bool false] 52)).drew w.heap.size 52 #[.string ⟨#[]⟩, .int .i64 0, .int .i64 0, .bool false] := Blk.new w 52 _
  have c1 := (hwk w (Below.refl _ _)).cell 1
  have c2 := (hwk w (Below.refl _ _)).cell 2
  have c3 := (hwk w (Below.refl _ _)).cell 3
  simp only [List.getElem?_toArray, List.getElem?_cons_zero, List.getElem?_cons_succ] at c1 c2 c3
  have n1 := World.new_ne w _ c1
  have n2 := World.new_ne w _ c2
  have n3 := World.new_ne w _ c3
  go_enter Tryz.func22, Tryz.ntmps22
  go_upto_region 4 with (first
    | (go_at_call 46; refine (hfind _ ?_).mono ?_; (focus exact bel2); rintro e w1 ⟨rfl, hw1⟩; subst hw1))
  go_region_held3 (fun w' => w'.cell? ⟨p.blk, 1, none⟩ = some (.pointer (some ⟨p.q, 0, none⟩)) ∧ w'.cell? ⟨p.blk, 2, none⟩ = some (.int .i64 p.x.d0) ∧ w'.cell? ⟨p.blk, 3, none⟩ = some (.int .i64 p.x.d1)) (go_keep)
    (first
      | (go_at_call 47; refine (hpath _ ?_).mono ?_; (focus exact bel2); rintro e w2 ⟨rfl, hb2⟩; have hB2 : Below w.heap.size w w2 := qab (by exact bel2) hb2; have hblk := b00.below hb2 (by simp); have hcl := hblk.cell; have hfr := hblk.frozen; have d1 := (hwk w2 hB2).cell 1; have d2 := (hwk w2 hB2).cell 2; have d3 := (hwk w2 hB2).cell 3; simp only [List.getElem?_toArray, List.getElem?_cons_zero, List.getElem?_cons_succ] at d1 d2 d3))
  go_wp2_with fail
  have hfin := (((hblk.set 0 (.string pth)).set 1 (.int .i64 p.x.d0)).set 2 (.int .i64 p.x.d1)).set 3 (.bool b)
  have hc := hfin.cell
  clear hcl hfr
  exact bodyPost_ret (v := .tuple #[.agg #[.string pth, .int .i64 p.x.d0, .int .i64 p.x.d1, .bool b], .int .i64 0]) (by simp [results, Tryz.results22, go_sem, hc]) rfl ⟨rfl, by exact bel2⟩
set_option maxRecDepth 100000 in
set_option maxHeartbeats 2000000 in
theorem workT_none {nodes : List Node} {w : World} {bt : Nat} {r : Node} {lst vw va : Value} {ws as_ : List Pw} (h : TwAt w nodes bt r lst vw va ws as_) (num : Int) (hb : qgr ws as_ num = (.pointer none, false)) :
    Calls Tryz.prog 22 #[.pointer (some ⟨bt, 0, none⟩), .int .i64 num] w fun e w' => e = .returned (.tuple #[.agg w0Vals, .int .i64 12]) ∧ Below w.heap.size w w' := by
  have hfind := fun W (hW : Below w.heap.size w W) => qmf (h.below hW).bk num
  rw [hb] at hfind
  have b0 : Blk (w.alloc (.cells w0Vals 52)) w.heap.size 52 w0Vals := Blk.new w 52 _
  unfold w0Vals at b0 ⊢
  have hbt := h.bk.at_.lt
  have hcl := b0.cell
  have hfr := b0.frozen
  go_enter Tryz.func22, Tryz.ntmps22
  go_wp2_with (first
    | (go_at_call 46; refine (hfind _ ?_).mono ?_; (focus exact bel2); rintro e w1 ⟨rfl, hw1⟩; subst hw1))
  have hfin := (((b0.set 0 (.string ⟨#[]⟩)).set 1 (.int .i64 0)).set 2 (.int .i64 0)).set 3 (.bool false)
  have hc := hfin.cell
  clear hcl hfr
  exact bodyPost_ret (v := .tuple #[.agg #[.string ⟨#[]⟩, .int .i64 0, .int .i64 0, .bool false], .int .i64 12]) (by simp [results, Tryz.results22, go_sem, hc]) rfl ⟨rfl, by exact bel2⟩
theorem workT_prog {nodes : List Node} (T0 : Tree nodes) {w : World} {bt : Nat} {r : Node} {lst vw va : Value} {ws as_ : List Pw} (h : TwAt w nodes bt r lst vw va ws as_) (num : Int) :
    Calls Tryz.prog 22 #[.pointer (some ⟨bt, 0, none⟩), .int .i64 num] w (WrkR ws as_ num w) := by
  cases ha : qgd as_ num with
  | some p =>
    refine (workT_some T0 h num (p := p) (List.mem_append_right _ (List.mem_of_find?_eq_some ha)) (b := true) (by simp [qgr, ha])).mono ?_
    intro e w' h1
    simp only [WrkR, ha]
    exact h1
  | none =>
    cases hw : qgd ws num with
    | some p =>
      refine (workT_some T0 h num (p := p) (List.mem_append_left _ (List.mem_of_find?_eq_some hw)) (b := false) (by simp [qgr, ha, hw, optP])).mono ?_
      intro e w' h1
      simp only [WrkR, ha, hw]
      exact h1
    | none =>
      refine (workT_none h num (by simp [qgr, ha, hw, optP])).mono ?_
      intro e w' h1
      simp only [WrkR, ha, hw]
      exact h1
end Go.Proofs.YtphclnolomgjoaaGreatDoor
namespace Go.Proofs.YtphclnolomgjoaaGreatDoor
open Go.RowKit
def WorkR (Ws : List Wk) (m : Int) (e : Ending) : Prop :=
  (∃ x ∈ Ws, x.num = m ∧ e = .returned (.tuple #[.agg #[.string (sb (qaa x.key)), .int .i64 x.d0, .int .i64 x.d1, .bool (decide (0 < x.st))], .int .i64 0])) ∨
  ((∀ x ∈ Ws, x.num ≠ m) ∧ e = .returned (.tuple #[.agg #[.string ⟨#[]⟩, .int .i64 0, .int .i64 0, .bool false], .int .i64 12]))
end Go.Proofs.YtphclnolomgjoaaGreatDoor
namespace Go.Proofs.YtphclnolomgjoaaGreatDoor
open Go.RowKit
theorem Rel.work {nodes : List Node} {Ws : List Wk} {ws as_ : List Pw} (R : Rel nodes Ws ws as_) {st : Int} (hS : WkS Ws st) {m : Int} {w w' : World} {e e' : Ending} (h1 : WrkR ws as_ m w e w') (h2 : WorkR Ws m e') : e = e' ∧ Below w.heap.size w w' := by
  obtain ⟨az, a1, a2, _⟩ := R.a
  unfold WrkR at h1
  rcases h2 with ⟨x, hx, hxm, rfl⟩ | ⟨hno, rfl⟩
  · cases ha : qgd as_ m with
    | some p =>
      simp only [ha] at h1
      have hp : p ∈ as_ := List.mem_of_find?_eq_some ha
      have hpn : p.x.num = m := by have := List.find?_some ha; simpa using this
      have hpx : p.x ∈ az.map (·.adm 0) := by rw [← a1]; exact List.mem_map_of_mem hp
      obtain ⟨z, hz, hze⟩ := List.mem_map.1 hpx
      have hz2 := List.mem_filter.1 (a2.mem_iff.1 hz)
      have hzx : z = x := qlo hS.nums hz2.1 hx (by rw [hxm, ← hpn, ← hze]; rfl)
      subst hzx
      have hs0 : decide (0 < z.st) = true := hz2.2
      rw [← hze] at h1
      rw [hs0]
      exact h1
    | none =>
      simp only [ha] at h1
      cases hw : qgd ws m with
      | some p =>
        simp only [hw] at h1
        have hp : p ∈ ws := List.mem_of_find?_eq_some hw
        have hpn : p.x.num = m := by have := List.find?_some hw; simpa using this
        have hpx : p.x ∈ Ws.filter fun x => x.st == 0 := by rw [← R.w]; exact List.mem_map_of_mem hp
        have hz2 := List.mem_filter.1 hpx
        have hzx : p.x = x := qlo hS.nums hz2.1 hx (by rw [hxm, hpn])
        have hs0 : decide (0 < x.st) = false := by have h0 := hz2.2; rw [hzx] at h0; simp at h0; simp [h0]
        rw [hzx] at h1
        rw [hs0]
        exact h1
      | none =>
        exfalso
        have := (R.nums (fun x hx => (hS.st x hx).1)).mem_iff.2 (List.mem_map_of_mem hx)
        obtain ⟨q, hq, hqe⟩ := List.mem_map.1 this
        rcases List.mem_append.1 hq with h3 | h3
        · have := List.find?_eq_none.1 hw q h3; simp [hqe, hxm] at this
        · have := List.find?_eq_none.1 ha q h3; simp [hqe, hxm] at this
  · have hl := R.lost hS hno
    have ha : qgd as_ m = none := by
      cases ha : qgd as_ m with
      | none => rfl
      | some p => simp [qgr, ha, nptr] at hl
    have hw : qgd ws m = none := by
      cases hw : qgd ws m with
      | none => rfl
      | some p => simp [qgr, ha, hw, optP, nptr] at hl
    simp only [ha, hw] at h1
    exact h1
end Go.Proofs.YtphclnolomgjoaaGreatDoor
namespace Go.Proofs.YtphclnolomgjoaaGreatDoor
open Go.RowKit
section
variable {P : Nat → Prop} {W w' : World} {bt : Nat} {k : KS}
theorem k_work (h : KT P W bt k) (m : Int) {x : Wk} (hx : x ∈ k.Ws) (hm : x.num = m) :
    Calls Tryz.prog 22 #[.pointer (some ⟨bt, 0, none⟩), .int .i64 m] W fun e w' => e = .returned (.tuple #[.agg #[.string (sb (qaa x.key)), .int .i64 x.d0, .int .i64 x.d1, .bool (decide (0 < x.st))], .int .i64 0]) ∧ Below W.heap.size W w' := by
  obtain ⟨τ, nodes, vw, va, ws, as_, h1, h2, h3, C⟩ := h
  obtain ⟨r, hr0, hb⟩ := h2.bk
  refine (workT_prog h2.pr.tree hb m).mono ?_
  intro e w' hq
  exact C.rel.work C.inv.wks hq (Or.inl ⟨x, hx, hm, rfl⟩)
end
end Go.Proofs.YtphclnolomgjoaaGreatDoor
namespace Go.Proofs.YtphclnolomgjoaaGreatDoor
open Go.RowKit
section
variable {F : Nat → Prop} {W w' : World} {rb : Nat} {R : KR}
set_option maxRecDepth 100000 in
set_option maxHeartbeats 4000000 in
theorem qn6 (h : qau F W rb R) {x : Ent} (hx : qeq R.k.L [] = some x) (hxk : x.key = []) :
    Calls Tryz.prog 19 #[.pointer (some ⟨rb, 0, none⟩), .int .i64 (-1)] W (qpz R x W) := by
  obtain ⟨P, bt, vp, vw, vl, h⟩ := h
  have hpth : sb (qaa []) = (⟨#[]⟩ : ByteArray) := rfl
  have hnil : bl (⟨#[]⟩ : ByteArray) = [] := rfl
  have hcall : ∀ Wx, Below W.heap.size W Wx → Calls Tryz.prog 34 #[.pointer (some ⟨bt, 0, none⟩), .string (⟨#[]⟩)] Wx fun e w1 => ∃ a1 c1, e = .returned (.tuple #[.agg #[.string (⟨#[]⟩), .bool x.leaf, .int .i64 (es0 (qai R.k.L (qaa x.key))), .int .i64 (es1 (qai R.k.L (qaa x.key))), .int .i64 x.b0, .int .i64 x.b1, .int .i64 (ws0 (qae R.k.Ws (qaa x.key))), .int .i64 (ws1 (qae R.k.Ws (qaa x.key))), .slice a1 (R.k.waits x).length c1], .int .i64 0]) ∧ Below Wx.heap.size Wx w1 ∧ Hid (w1.ownsRow 0 3 1 (.slice a1 (R.k.waits x).length c1) (R.k.waits x).length (qjb (R.k.waits x)) ∧ ∀ b, (Value.slice a1 (R.k.waits x).length c1).ownBlock = some b → Wx.heap.size ≤ b) := fun Wx hb => by
    have hx' : qeq R.k.L (qac (bl (⟨#[]⟩ : ByteArray))) = some x := hx
    refine (qn5 (h.below hb).tw ⟨#[]⟩ (by decide) rfl hx').mono ?_
    rintro e w1 ⟨v, rfl, g1, g2, g3⟩
    obtain ⟨a1, c1, rfl, _, _⟩ := qa7 g1
    refine ⟨a1, c1, ?_, g2, g1, g3⟩
    unfold KS.told
    rw [hxk, hpth]
  have HQ : Hid (∀ (e : Ending) (w' : World) (a1 : Option Addr) (c1 : Nat), e = .returned (.tuple #[.agg #[.string (⟨#[]⟩), .bool x.leaf, .int .i64 (es0 (qai R.k.L (qaa x.key))), .int .i64 (es1 (qai R.k.L (qaa x.key))), .int .i64 x.b0, .int .i64 x.b1, .int .i64 (ws0 (qae R.k.Ws (qaa x.key))), .int .i64 (ws1 (qae R.k.Ws (qaa x.key))), .slice a1 (R.k.waits x).length c1], .bool true]) → w'.ownsRow 0 3 1 (.slice a1 (R.k.waits x).length c1) (R.k.waits x).length (qjb (R.k.waits x)) → Below W.heap.size W w' → (∀ b, (Value.slice a1 (R.k.waits x).length c1).ownBlock = some b → W.heap.size ≤ b) → qpz R x W e w') := fun e w' a1 c1 he h1 h2 h3 => ⟨_, by rw [he]; unfold KS.told; rw [hxk, hpth], h1, h2, h3⟩
  have c0 := h.at_.cell 0
  simp only [List.getElem?_toArray, List.getElem?_cons_zero, List.getElem?_cons_succ] at c0
  have hrl := h.at_.lt
  have n0' := World.new_ne W _ c0
  have b0 : Blk (W.alloc (.cells #[.string ⟨#[]⟩, .bool false, .int .i64 0, .int .i64 0, .int .i64 0, .int .i64 0, .int .i64 0, .int .i64 0, .slice none 0 0] 37)) W.heap.size 37 #[.string ⟨#[]⟩, .bool false, .int .i64 0, .int .i64 0, .int .i64 0, .int .i64 0, .int .i64 0, .int .i64 0, .slice none 0 0] := Blk.new W 37 _
  generalize es0 (qai R.k.L (qaa x.key)) = s0 at *
  generalize es1 (qai R.k.L (qaa x.key)) = s1 at *
  generalize ws0 (qae R.k.Ws (qaa x.key)) = u0 at *
  generalize ws1 (qae R.k.Ws (qaa x.key)) = u1 at *
  generalize (R.k.waits x).length = nw at *
  clear h hx hxk
  go_enter Tryz.func19, Tryz.ntmps19
  go_upto_region 5 with (go_at_call 34; refine (hcall _ ?_).mono ?_; (focus exact bel2); rintro e w1 ⟨a1, c1', rfl, hb1, hfin⟩; have b1 := b0.below hb1 (by simp); have f1 := b1.frozen; have l1 := b1.lt)
  obtain ⟨o9, ho9⟩ : ∃ o9, o9 = Obj.cells #[Value.string ⟨#[]⟩, .bool x.leaf, .int .i64 s0, .int .i64 s1, .int .i64 x.b0, .int .i64 x.b1, .int .i64 u0, .int .i64 u1, .slice a1 nw c1'] 37 := ⟨_, rfl⟩
  have hb9 : Blk (w1.alloc o9) w1.heap.size 37 #[Value.string ⟨#[]⟩, .bool x.leaf, .int .i64 s0, .int .i64 s1, .int .i64 x.b0, .int .i64 x.b1, .int .i64 u0, .int .i64 u1, .slice a1 nw c1'] := by rw [ho9]; exact Blk.new w1 37 _
  have b9 := b1.alloc o9
  have hB1 : Below W.heap.size W w1 := qab (by exact bel2) hb1
  have hA := Below.alloc (Below.refl w1.heap.size w1) (Nat.le_refl _) o9
  have hB9 : Below W.heap.size W (w1.alloc o9) := qab hB1 hA
  have hrow9 := qfq hfin.out.1 hA
  have hnb : w1.heap.size ≠ W.heap.size := by omega
  have hne9 : ∀ b, (Value.slice a1 nw c1').ownBlock = some b → b < w1.heap.size := fun b hb => qap hfin.out.1 hb
  rw [← ho9]
  have HF9 : Hid (∀ b, (Value.slice a1 nw c1').ownBlock = some b → W.heap.size < b) := fun b hb => by have := hfin.out.2 b hb; simp at this; omega
  have HR9 : Hid ((w1.alloc o9).ownsRow 0 3 1 (.slice a1 nw c1') nw (qjb (R.k.waits x))) := hrow9
  have l9 := b9.lt
  have hg9 : W.heap.size < w1.heap.size := by omega
  clear hfin hrow9 hne9 hB1 hA b1 f1 l1
  generalize w1.alloc o9 = W9 at hb9 b9 hB9 HR9 l9 ⊢
  generalize w1.heap.size = g9 at hb9 hg9 hnb ⊢
  have z0 := hb9.cell 0
  have z1 := hb9.cell 1
  have z2 := hb9.cell 2
  have z3 := hb9.cell 3
  have z4 := hb9.cell 4
  have z5 := hb9.cell 5
  have z6 := hb9.cell 6
  have z7 := hb9.cell 7
  have z8 := hb9.cell 8
  have y0 := b9.cell
  have y1 := b9.frozen
  simp only [List.getElem?_toArray, List.getElem?_cons_zero, List.getElem?_cons_succ] at z0 z1 z2 z3 z4 z5 z6 z7 z8
  go_region
  go_wp2_with fail
  have hfin := (((((((((b9.set 0 (.string ⟨#[]⟩)).set 1 (.bool x.leaf)).set 2 (.int .i64 s0)).set 3 (.int .i64 s1)).set 4 (.int .i64 x.b0)).set 5 (.int .i64 x.b1)).set 6 (.int .i64 u0)).set 7 (.int .i64 u1)).set 8 (.slice a1 nw c1')).drew
  have hc := hfin.cell
  have hk := ((((((((((Keep.refl (fun b => b = W.heap.size) W9).setCell (p := ⟨W.heap.size, 0, none⟩) rfl (.string ⟨#[]⟩)).setCell (p := ⟨W.heap.size, 1, none⟩) rfl (.bool x.leaf)).setCell (p := ⟨W.heap.size, 2, none⟩) rfl (.int .i64 s0)).setCell (p := ⟨W.heap.size, 3, none⟩) rfl (.int .i64 s1)).setCell (p := ⟨W.heap.size, 4, none⟩) rfl (.int .i64 x.b0)).setCell (p := ⟨W.heap.size, 5, none⟩) rfl (.int .i64 x.b1)).setCell (p := ⟨W.heap.size, 6, none⟩) rfl (.int .i64 u0)).setCell (p := ⟨W.heap.size, 7, none⟩) rfl (.int .i64 u1)).setCell (p := ⟨W.heap.size, 8, none⟩) rfl (.slice a1 nw c1')).drew
  clear y0 y1 z0 z1 z2 z3 z4 z5 z6 z7 z8
  refine bodyPost_ret (v := .tuple #[.agg #[.string ⟨#[]⟩, .bool x.leaf, .int .i64 s0, .int .i64 s1, .int .i64 x.b0, .int .i64 x.b1, .int .i64 u0, .int .i64 u1, .slice a1 nw c1'], .bool true]) ?_ rfl (HQ.out _ _ a1 c1' rfl (qaf HR9.out hk (fun b hb e => by have := HF9.out b hb; omega)) (hB9.trans (hk.toBelow hB9.size (fun b hb e => by omega))) (fun b hb => by have := HF9.out b hb; omega))
  simp [results, Tryz.results19, go_sem, hc]
end
end Go.Proofs.YtphclnolomgjoaaGreatDoor
namespace Go.Proofs.YtphclnolomgjoaaGreatDoor
open Go.RowKit
section
variable {F : Nat → Prop} {W w' : World} {rb : Nat} {R : KR} {n : Nat} {nodes : List Node}
def entK (L : List Ent) (p : List Bs) : Ent := (qeq L p).getD ⟨[], false, 0, 0, 0, 0⟩
theorem qiw (K : KInv nodes R.k) {e : Ent} (he : e ∈ R.k.L) : qeq R.k.L e.key = some e := by
  rw [← K.L] at he ⊢
  obtain ⟨m, hm, rfl⟩ := List.mem_map.1 he
  rw [qb4, qb0 K.tree hm (k := m.ent.key) rfl]
  rfl
theorem qsj (K : KInv nodes R.k) (I : RunI n R) : R.k.L.Perm (([] :: R.paths).map (entK R.k.L)) := by
  have h := I.keys.map (entK R.k.L)
  have e : (R.k.L.map (·.key)).map (entK R.k.L) = R.k.L := by
    rw [List.map_map]
    conv => rhs; rw [← List.map_id R.k.L]
    refine List.map_congr_left fun e he => ?_
    show entK R.k.L e.key = e
    unfold entK
    rw [qiw K he]
    rfl
  rw [e] at h
  exact h
theorem qpq (K : KInv nodes R.k) : ∃ r, r ∈ R.k.L ∧ r.key = [] ∧ r.leaf = false ∧ qeq R.k.L [] = some r ∧ r.b0 = 0 ∧ r.b1 = 0 := by
  obtain ⟨r, hr, hk, hl, h0, h1⟩ := K.tree.root
  have hm : r.ent ∈ R.k.L := by rw [← K.L]; exact List.mem_map_of_mem (List.mem_of_getElem? hr)
  have := qiw K hm
  rw [show r.ent.key = [] from hk] at this
  exact ⟨r.ent, hm, hk, hl, this, h0, h1⟩
def keyI (R : KR) : Nat → List Bs
  | 0 => []
  | i + 1 => R.paths.getD i []
theorem qs6 (h : qau F W rb R) (K : KInv nodes R.k) (I : RunI n R) {i : Nat} (hi : i ≤ 8) : ∃ x, x ∈ R.k.L ∧ x.key = keyI R i ∧ x.leaf = decide (1 ≤ i ∧ i ≤ 5) ∧ (sb (qaa (keyI R i))).size ≤ 2000000 ∧ ∀ Wx, Below W.heap.size W Wx → Calls Tryz.prog 19 #[.pointer (some ⟨rb, 0, none⟩), .int .i64 ((i : Int) - 1)] Wx (qpz R x Wx) := by
  match i, hi with
  | 0, _ =>
    obtain ⟨r, h1, h2, h3, h4, _⟩ := qpq K
    refine ⟨r, h1, h2, h3, by show (sb (qaa [])).size ≤ _; decide, fun Wx hb => ?_⟩
    exact qn6 (h.below hb) h4 h2
  | i + 1, hi =>
    obtain ⟨p, hp⟩ : ∃ p, R.paths[i]? = some p := ⟨_, List.getElem?_eq_getElem (by rw [I.len]; omega)⟩
    obtain ⟨hpk, hp0, hp4, m, hm, hfe, hmk, hml⟩ := I.path K hp
    have hk : keyI R (i + 1) = p := by simp [keyI, List.getD, hp]
    refine ⟨m.ent, by rw [← K.L]; exact List.mem_map_of_mem hm, hmk.trans hk.symm, ?_, by rw [hk]; exact I.small K hp, fun Wx hb => ?_⟩
    · show m.leaf = _
      rw [hml]
      simp; omega
    · have := qzh (h.below hb) hp hpk (I.small K hp) (by rw [I.len]; omega) hfe hmk
      rw [show ((i + 1 : Nat) : Int) - 1 = i by omega]
      exact this
end
end Go.Proofs.YtphclnolomgjoaaGreatDoor
namespace Go.Proofs.YtphclnolomgjoaaGreatDoor
open Go.RowKit
section
variable {F : Nat → Prop} {W : World} {rb : Nat} {R : KR} {n : Nat} {nodes : List Node}
theorem Hid.mk' {p : Prop} (h : p) : Hid p := h
def Told (R : KR) (pth : ByteArray) (lf : Bool) (N0 N1 b0 b1 U0 U1 : Int) (nw : Nat) (i : Int) (rb : Nat) (W : World) : Prop := ∀ Wx, Below W.heap.size W Wx → Calls Tryz.prog 19 #[.pointer (some ⟨rb, 0, none⟩), .int .i64 i] Wx fun e w1 => ∃ a1 c1, e = .returned (.tuple #[.agg #[.string pth, .bool lf, .int .i64 N0, .int .i64 N1, .int .i64 b0, .int .i64 b1, .int .i64 U0, .int .i64 U1, .slice a1 nw c1], .bool true]) ∧ Below Wx.heap.size Wx w1
theorem quf {x : Ent} {i : Int} (h : ∀ Wx, Below W.heap.size W Wx → Calls Tryz.prog 19 #[.pointer (some ⟨rb, 0, none⟩), .int .i64 i] Wx (qpz R x Wx)) : Told R (sb (qaa x.key)) x.leaf (es0 (qai R.k.L (qaa x.key))) (es1 (qai R.k.L (qaa x.key))) x.b0 x.b1 (ws0 (qae R.k.Ws (qaa x.key))) (ws1 (qae R.k.Ws (qaa x.key))) (R.k.waits x).length i rb W := fun Wx hb => by
  refine (h Wx hb).mono ?_
  rintro e w3 ⟨v, rfl, g1, g2, g3⟩
  obtain ⟨a1, c1, rfl, _, _⟩ := qa7 g1
  exact ⟨a1, c1, rfl, g2⟩
end
end Go.Proofs.YtphclnolomgjoaaGreatDoor
