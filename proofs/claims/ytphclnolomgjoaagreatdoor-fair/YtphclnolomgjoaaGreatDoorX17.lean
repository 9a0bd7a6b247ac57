import Derived.Test.YtphclnolomgjoaaGreatDoorX16
import Derived.Test.YtphclnolomgjoaaGreatDoorB37
import Derived.Test.YtphclnolomgjoaaGreatDoorX01
import Derived.BigQuiet
set_option linter.unusedVariables false
set_option linter.unusedSimpArgs false
namespace Go.Proofs.YtphclnolomgjoaaGreatDoor
open Go.RowKit
theorem kws_comes {W : World} {g c n : Nat} {l : List KW} (hr : W.ownsRow 0 41 6 (.slice (some ⟨g, 0, none⟩) n c) n (qak l)) {k : Nat} {x : KW} (hk : l[k]? = some x) (t : Int) :
    ((W.setCell ⟨g, k * 6 + 4, none⟩ (.bool true)).setCell ⟨g, k * 6 + 5, none⟩ (.int .i64 t)).ownsRow 0 41 6 (.slice (some ⟨g, 0, none⟩) n c) n (qak (l.set k { x with inn := true, qav := t })) := by
  have r1 := (hr.stored (k * 6 + 4) (.bool true)).1
  have r4 := (r1.stored (k * 6 + 5) (.int .i64 t)).1
  have e1 : qak (l.set k { x with inn := true }) = (qak l).set (k * 6 + 4) (.bool true) := qeb l k 4 x _ _ hk (by omega) rfl
  have hk2 : (l.set k { x with inn := true })[k]? = some { x with inn := true } := by rw [List.getElem?_set_self (List.getElem?_eq_some_iff.1 hk).1]
  have e2 : qak ((l.set k { x with inn := true }).set k { x with inn := true, qav := t }) = (qak (l.set k { x with inn := true })).set (k * 6 + 5) (.int .i64 t) := qeb _ k 5 _ _ _ hk2 (by omega) rfl
  rw [List.set_set, e1] at e2
  rw [e2]
  exact r4
theorem kws_goes {W : World} {g c n : Nat} {l : List KW} (hr : W.ownsRow 0 41 6 (.slice (some ⟨g, 0, none⟩) n c) n (qak l)) {k : Nat} {x : KW} (hk : l[k]? = some x) :
    (W.setCell ⟨g, k * 6 + 4, none⟩ (.bool false)).ownsRow 0 41 6 (.slice (some ⟨g, 0, none⟩) n c) n (qak (l.set k { x with inn := false })) := by
  have r1 := (hr.stored (k * 6 + 4) (.bool false)).1
  rw [qeb l k 4 x { x with inn := false } (.bool false) hk (by omega) rfl]
  exact r1
def RpR (L : List Ent) (paths : List (List Bs)) (last : List (Int × Int)) (s0 : Int) (n : Nat) (v : Value) (W : World) (c7 c8 c9 : Value) (wr : World) : Prop := ∃ (i : Nat) (p : Bool) (st : Int) (l : List KW), i ≤ last.length ∧ c7 = .bool p ∧ c8 = .int .i64 st ∧ c9 = .int .i64 i ∧ (0 ≤ st ∧ st ≤ s0 + i) ∧ l.length = n ∧ wr.ownsRow 0 41 6 v n (qak l) ∧ Keep (fun b => v.ownBlock = some b) W wr ∧ Hid (∃ A B t', Rpl L paths l A st ∧ Ev L p A st (last.drop i) B t')
def FrR (C0 C1 : Prop) (W : World) (c15 c16 : Value) (wx : World) : Prop := ∃ (j : Nat) (b : Bool), j ≤ 2 ∧ c15 = .bool b ∧ c16 = .int .i64 j ∧ (1 ≤ j → C0 → b = true) ∧ (2 ≤ j → C1 → b = true) ∧ Below W.heap.size W wx
def TolL (R : KR) (rb : Nat) (lf : Nat) (N0 N1 : Int) (W : World) : Prop := ∃ (pth : ByteArray) (lb : Bool) (b0 b1 U0 U1 : Int) (nw : Nat), Told R pth lb N0 N1 b0 b1 U0 U1 nw lf rb W
section
variable {F : Nat → Prop} {W : World} {rb : Nat} {R : KR} {P : Nat → Prop} {bt : Nat} {vp vw vl : Value} {n : Nat}
theorem rp_told (h : RunM F W rb R P bt vp vw vl) (I : RunI n R) {lf : Nat} (hlf : lf < 5) : TolL R rb lf (es0 (qai R.k.L (qaa (R.paths.getD lf [])))) (es1 (qai R.k.L (qaa (R.paths.getD lf [])))) W ∧ (0 ≤ es0 (qai R.k.L (qaa (R.paths.getD lf []))) ∧ es0 (qai R.k.L (qaa (R.paths.getD lf []))) ≤ 20000) ∧ (0 ≤ es1 (qai R.k.L (qaa (R.paths.getD lf []))) ∧ es1 (qai R.k.L (qaa (R.paths.getD lf []))) ≤ 20000) := by
  have hA : qau F W rb R := ⟨_, _, _, _, _, h⟩
  obtain ⟨nodes, K⟩ := hA.kinv
  obtain ⟨x, hx, hxk, hxl, hsz, hq⟩ := qs6 hA K I (i := lf + 1) (by omega)
  have hbn := qiu K.tree.ents
  rw [K.L] at hbn
  have hk : x.key = R.paths.getD lf [] := by rw [hxk]; rfl
  have hki : (((lf + 1 : Nat) : Int) - 1) = (lf : Int) := by omega
  rw [hki] at hq
  have hT := quf hq
  rw [hk] at hT
  exact ⟨⟨_, _, _, _, _, _, _, hT⟩, (hbn _).1, (hbn _).2⟩
set_option maxRecDepth 100000 in
set_option maxHeartbeats 4000000 in
theorem kreplayed (h : RunM F W rb R P bt vp vw vl) (I : RunI n R) (hn : n ≤ 100) (hll : R.last.length ≤ 1000) {v : Value} {l : List KW} (hr : W.ownsRow 0 41 6 v l.length (qak l)) (hv : ∀ b, v.ownBlock = some b → F b) {A B : List Wk} {t' : Int} (hRp : Rpl R.k.L R.paths l A R.qav) (hE : Ev R.k.L false A R.qav R.last B t') :
    Calls Tryz.prog 25 #[.pointer (some ⟨rb, 0, none⟩), v, vl] W fun e w' => e = .returned (.bool true) ∧ Keep (fun b => v.ownBlock = some b) W w' := by
  have hst : 0 ≤ R.qav ∧ R.qav ≤ 5000 := by
    have := hRp.st0
    have h1 := I.qav
    have h2 := I.st
    omega
  have hl24 := hRp.l24
  have HQ : Hid (∀ Wx, Keep (fun b => v.ownBlock = some b) W Wx → ∀ lf, lf < 5 → TolL R rb lf (es0 (qai R.k.L (qaa (R.paths.getD lf [])))) (es1 (qai R.k.L (qaa (R.paths.getD lf [])))) Wx ∧ (0 ≤ es0 (qai R.k.L (qaa (R.paths.getD lf []))) ∧ es0 (qai R.k.L (qaa (R.paths.getD lf []))) ≤ 20000) ∧ (0 ≤ es1 (qai R.k.L (qaa (R.paths.getD lf []))) ∧ es1 (qai R.k.L (qaa (R.paths.getD lf []))) ≤ 20000)) := fun Wx hk lf hlf =>
    rp_told (h.keep hk (fun b hb e => h.lo b hb (hv b e))) I hlf
  obtain ⟨al, cl, hvl, hl1, hl2⟩ := qa7 h.lrow
  have hlr := h.lrow
  rw [hvl] at hlr
  have HEV : Hid (∀ Wx, Keep (fun b => v.ownBlock = some b) W Wx → ∀ (i : Nat) e, R.last[i]? = some e → ∃ g, al = some ⟨g, 0, none⟩ ∧ g < Wx.heap.size ∧ (¬ (v.ownBlock = some g)) ∧ Wx.cell? ⟨g, i * 2, none⟩ = some (.int .i64 e.1) ∧ Wx.cell? ⟨g, i * 2 + 1, none⟩ = some (.int .i64 e.2)) := fun Wx hk i e hi => by
    obtain ⟨g, rfl, hg, q0, q1⟩ := qo8 hlr i e hi
    have hT : ¬ (v.ownBlock = some g) := fun e => h.lo g (.inr (.inr (.inr (.inr (by rw [hvl]; rfl))))) (hv g e)
    exact ⟨g, rfl, by have := hk.size; omega, hT, (hk.cell (p := ⟨g, i * 2, none⟩) hg hT).trans q0, (hk.cell (p := ⟨g, i * 2 + 1, none⟩) hg hT).trans q1⟩
  have c3 := h.at_.cell 3
  simp only [List.getElem?_toArray, List.getElem?_cons_zero, List.getElem?_cons_succ] at c3
  obtain ⟨av, cv, hvv, hc1, hc2⟩ := qa7 hr
  have H0 : Hid (RpR R.k.L R.paths R.last R.qav l.length v W (.bool false) (.int .i64 R.qav) (.int .i64 0) W) := ⟨0, false, R.qav, l, Nat.zero_le _, rfl, rfl, rfl, ⟨hst.1, by simp⟩, rfl, hr, Keep.refl _ _, A, B, t', hRp, hE⟩
  rw [hvv] at H0 HQ HEV ⊢
  rw [hvl]
  clear hr hv hRp hE h hlr hvl hvv I
  generalize l.length = nl at *
  go_enter Tryz.func25, Tryz.ntmps25
  go_wp2_with fail
  go_loopw [7, 8, 9] (fun c7 c8 c9 wr => RpR R.k.L R.paths R.last R.qav nl (.slice av nl cv) W c7 c8 c9 wr) (fun _ _ i _ => R.last.length - (intOf i).toNat)
  case atStart => exact H0.out
  case round =>
    obtain ⟨i, p, st, l, hi, rfl, rfl, rfl, hsi, hln, hrow, hK, hH⟩ := hrel
    clear H0
    by_cases hil : i < R.last.length
    · obtain ⟨A, B, t', hRp, hE⟩ := hH.out
      obtain ⟨e, he⟩ : ∃ e, R.last[i]? = some e := ⟨_, List.getElem?_eq_getElem hil⟩
      rw [qns he] at hE
      obtain ⟨c, m⟩ := e
      obtain ⟨k, w, hk, hwn, hfst, hcase⟩ := hRp.event hE
      have hkl := (List.getElem?_eq_some_iff.1 hk).1
      have hwm := List.mem_of_getElem? hk
      have hlf := hRp.idx w hwm
      have hb0 := hRp.d0
      have hb1 := hRp.d1
      have hbw0 := hb0 w hwm
      have hbw1 := hb1 w hwm
      obtain ⟨hTq, hn0, hn1⟩ := HQ.out wr hK w.leaf hlf
      have hub0 := usK_bd hb0 hb1 w.leaf l.length
      have hu0e : (usK l w.leaf l.length).1 = us0 l w.leaf := by unfold usK; rw [List.take_length]
      have hu1e : (usK l w.leaf l.length).2 = us1 l w.leaf := by unfold usK; rw [List.take_length]
      rw [hu0e, hu1e, hln] at hub0
      have hrow' : wr.ownsRow 0 41 6 (.slice av nl cv) l.length (qak l) := by rw [hln]; exact hrow
      obtain ⟨g, c', hvv, hg, _, _, p0, p1, p2, p3, p4, p5⟩ := kws_at hrow' hk
      injection hvv with hav hl' hc'
      subst hav
      clear hl' hc'
      subst hwn
      have HC : Hid (∀ q, q < k → ∃ y : Int, wr.cell? ⟨g, q * 6, none⟩ = some (.int .i64 y) ∧ y ≠ w.num) := fun q hq => by
        obtain ⟨y, hy⟩ : ∃ y, l[q]? = some y := ⟨_, List.getElem?_eq_getElem (by omega)⟩
        obtain ⟨g', c2, hv2, _, _, _, r0, _⟩ := kws_at hrow' hy
        injection hv2 with e1
        injection e1 with e1
        injection e1 with e1
        subst e1
        exact ⟨y.num, r0, hfst q y hq hy⟩
      obtain ⟨ge, hal, hgel, hgne, r0, r1⟩ := HEV.out wr hK i _ he
      subst hal
      simp only at r0 r1
      have hge : ¬ (ge = g) := fun e => hgne (by rw [e]; rfl)
      have hii : (i : Int) < R.last.length := by omega
      have hki : (k : Int) < nl := by omega
      have hus : Hid (∀ Wx, Below wr.heap.size wr Wx → Calls Tryz.prog 49 #[.slice (some ⟨g, 0, none⟩) nl cv, .int .i64 w.leaf] Wx fun e w' => e = .returned (.agg #[.int .i64 (us0 l w.leaf), .int .i64 (us1 l w.leaf)]) ∧ Below Wx.heap.size Wx w') := fun Wx hb => kused (qfq hrow' hb) (by omega) hb0 hb1 w.leaf
      have hnew0 : Hid (∀ Wx, Below wr.heap.size wr Wx → Calls Tryz.prog 50 #[.slice (some ⟨g, 0, none⟩) nl cv, .agg #[.int .i64 w.num, .int .i64 w.leaf, .int .i64 w.d0, .int .i64 w.d1, .bool w.inn, .int .i64 w.qav], .int .i64 0] Wx (NewOut l w 0 Wx)) := fun Wx hb => knewest (j := 0) (qfq hrow' hb) (by omega) w (by omega)
      have hnew1 : Hid (∀ Wx, Below wr.heap.size wr Wx → Calls Tryz.prog 50 #[.slice (some ⟨g, 0, none⟩) nl cv, .agg #[.int .i64 w.num, .int .i64 w.leaf, .int .i64 w.d0, .int .i64 w.d1, .bool w.inn, .int .i64 w.qav], .int .i64 1] Wx (NewOut l w 1 Wx)) := fun Wx hb => knewest (j := 1) (qfq hrow' hb) (by omega) w (by omega)
      have HRW := Hid.mk' (And.intro hk hrow)
      have HNX1 : Hid (∀ A' w', Rpl R.k.L R.paths (l.set k { w with inn := true, qav := st + 1 }) A' (st + 1) ∧ Ev R.k.L false A' (st + 1) (R.last.drop (i + 1)) B t' → w'.ownsRow 0 41 6 (.slice (some ⟨g, 0, none⟩) nl cv) nl (qak (l.set k { w with inn := true, qav := st + 1 })) → Keep (fun b => (Value.slice (some ⟨g, 0, none⟩) nl cv).ownBlock = some b) W w' → RpR R.k.L R.paths R.last R.qav nl (.slice (some ⟨g, 0, none⟩) nl cv) W (.bool false) (.int .i64 (st + 1)) (.int .i64 ((i : Int) + 1)) w') := fun A' w' hx hy hz => by
        refine ⟨i + 1, false, st + 1, _, by omega, rfl, rfl, by simp, by omega, by rw [List.length_set]; exact hln, hy, hz, A', B, t', hx⟩
      have HNX2 : Hid (∀ A' w', Rpl R.k.L R.paths (l.set k { w with inn := false }) A' st ∧ Ev R.k.L true A' st (R.last.drop (i + 1)) B t' → w'.ownsRow 0 41 6 (.slice (some ⟨g, 0, none⟩) nl cv) nl (qak (l.set k { w with inn := false })) → Keep (fun b => (Value.slice (some ⟨g, 0, none⟩) nl cv).ownBlock = some b) W w' → RpR R.k.L R.paths R.last R.qav nl (.slice (some ⟨g, 0, none⟩) nl cv) W (.bool true) (.int .i64 st) (.int .i64 ((i : Int) + 1)) w') := fun A' w' hx hy hz => by
        refine ⟨i + 1, true, st, _, by omega, rfl, rfl, by simp, by omega, by rw [List.length_set]; exact hln, hy, hz, A', B, t', hx⟩
      have HCS := Hid.mk' hcase
      have hkl24 : k < 24 := by omega
      clear hln hkl
      clear hcase hfst hE hRp hH HQ HEV he hb0 hb1 hu0e hu1e hrow hrow' hk hwm
      generalize es0 (qai R.k.L (qaa (R.paths.getD w.leaf []))) = N0 at *
      generalize es1 (qai R.k.L (qaa (R.paths.getD w.leaf []))) = N1 at *
      obtain ⟨pth, lb, b0, b1, U0, U1, nw, hTq⟩ := hTq
      go_upto_region 7 with fail
      obtain ⟨w0, hw0⟩ : ∃ w0, w0 = wr := ⟨_, rfl⟩
      rw [← hw0] at hK hTq hus hnew0 hnew1 HRW HC hg hgel r0 r1 p0 p1 p2 p3 p4 p5 ⊢
      clear hw0
      go_loopw [10] (fun j w2 => ∃ q : Nat, q ≤ k ∧ j = .int .i64 q ∧ ∃ mm, w2 = w0.drewN mm) (fun j _ => k - (intOf j).toNat)
      case atStart => exact ⟨0, Nat.zero_le _, rfl, 0, rfl⟩
      case round =>
        obtain ⟨q, hq, rfl, mm, rfl⟩ := hrel
        have hqi : (q : Int) < nl := by omega
        have hqi0 : (0 : Int) ≤ q := by omega
        have hii0 : (0 : Int) ≤ i := by omega
        have hlc : (R.last.length : Int) ≤ cl := by omega
        by_cases hqk : q < k
        · obtain ⟨y, hy, hyn⟩ := HC.out q hqk
          clear HC HRW HNX1 HNX2 HCS hus hnew0 hnew1 hTq
          go_wp2_with fail
          go_quiet (fail)
          go_wp2_with fail
          exact ⟨⟨q + 1, by omega, by go_num, mm + nq, rfl⟩, by simp [intOf]; omega⟩
        · obtain rfl : q = k := by omega
          have hqn : ¬ ((q : Int) = nl) := by omega
          clear HC
          go_wp2_with fail
          go_quiet (fail)
          obtain ⟨W4, hW4⟩ : ∃ W4, W4 = (w0.drewN mm).drewN nq := ⟨_, rfl⟩
          have hB4 : Below w0.heap.size w0 W4 := by rw [hW4]; exact below_drewN (below_drewN (Below.refl _ _) _) _
          rw [← hW4]
          clear hW4
          have hbc := fun (a : Nat) => hB4.cell (p := ⟨g, a, none⟩) hg
          have s0 := (hbc _).trans p0
          have s1 := (hbc _).trans p1
          have s2 := (hbc _).trans p2
          have s3 := (hbc _).trans p3
          have s4 := (hbc _).trans p4
          have s5 := (hbc _).trans p5
          clear hbc p0 p1 p2 p3 p4 p5
          go_upto_region 16 with (first
            | (go_at_call 49; refine (hus.out _ (qab hB4 ?_)).mono ?_; (focus exact bel2); rintro e w6 ⟨rfl, hb6⟩; have hB6 : Below W4.heap.size W4 w6 := qab (by exact bel2) hb6; have cw6 := ((Blk.new W4 41 #[.int .i64 w.num, .int .i64 w.leaf, .int .i64 w.d0, .int .i64 w.d1, .bool w.inn, .int .i64 w.qav]).below hb6 (by simp)).cell 1; simp only [List.getElem?_toArray, List.getElem?_cons_zero, List.getElem?_cons_succ] at cw6; have nz6 : W4.heap.size < w6.heap.size := (by have := hb6.size; simp at this; omega); have nz6' : ¬ (W4.heap.size = w6.heap.size) := (by omega))
            | (go_at_call 19; refine (hTq _ (qab hB4 (qab hB6 ?_))).mono ?_; (focus exact bel2); rintro e w7 ⟨a7, c7', rfl, hb7⟩))
          obtain ⟨W8, hW8⟩ : ∃ W8, W8 = w7.alloc (.cells #[.string pth, .bool lb, .int .i64 N0, .int .i64 N1, .int .i64 b0, .int .i64 b1, .int .i64 U0, .int .i64 U1, .slice a7 nw c7'] 37) := ⟨_, rfl⟩
          have bw : Blk W8 W4.heap.size 41 #[.int .i64 w.num, .int .i64 w.leaf, .int .i64 w.d0, .int .i64 w.d1, .bool w.inn, .int .i64 w.qav] := by
            rw [hW8]
            exact ((((Blk.new W4 41 _).below hb6 (by simp)).alloc _).below hb7 (by have := hb6.size; simp at this ⊢; omega)).alloc _
          have bu : Blk W8 w6.heap.size 35 #[.int .i64 (us0 l w.leaf), .int .i64 (us1 l w.leaf)] := by
            rw [hW8]
            exact ((Blk.new w6 35 _).below hb7 (by simp)).alloc _
          have bq : Blk W8 w7.heap.size 37 #[.string pth, .bool lb, .int .i64 N0, .int .i64 N1, .int .i64 b0, .int .i64 b1, .int .i64 U0, .int .i64 U1, .slice a7 nw c7'] := by rw [hW8]; exact Blk.new w7 37 _
          have hB67 : Below W4.heap.size W4 w7 := qab (hB6.alloc hB6.size _) hb7
          have hB48 : Below W4.heap.size W4 W8 := by rw [hW8]; exact hB67.alloc hB67.size _
          have hB08 : Below w0.heap.size w0 W8 := hB4.trans (hB48.mono hB4.size)
          have hK8 : Keep (fun b => (Value.slice (some ⟨g, 0, none⟩) nl cv).ownBlock = some b) W W8 := hK.trans (Keep.new hB08)
          obtain ⟨hk, hrow0⟩ := HRW.out
          have row8 := qfq hrow0 hB08
          have r0' := (hB08.cell (p := ⟨ge, i * 2, none⟩) hgel).trans r0
          rw [← hW8]
          have hg8 : g < W8.heap.size := Nat.lt_of_lt_of_le hg hB08.size
          have hl4 := bw.lt
          have hl6 := bu.lt
          have hl7 := bq.lt
          clear hW8 hb6 hb7 hB6 hB67 hB48 hrow0 hus hTq r0 r1 s0 s1 s2 s3 s4 s5 HRW cw6 nz6 nz6'
          have ng4 : ¬ (g = W4.heap.size) := by have := hB4.size; omega
          clear hB4
          generalize W4.heap.size = g4 at *
          generalize w6.heap.size = g6 at *
          generalize w7.heap.size = g7 at *
          have f4 := row8.frozenAt (q * 6 + 4)
          have f5 := row8.frozenAt (q * 6 + 5)
          have d4 : W8.cell? ⟨g, q * 6 + 4, none⟩ = some (.bool w.inn) := by
            have := row8.cells (g := g) rfl (q * 6 + 4) _ ((qhz l q 4 w hk (by omega)).trans rfl)
            rw [Addr.add_lit, Nat.zero_add] at this
            exact this
          have d5 : W8.cell? ⟨g, q * 6 + 5, none⟩ = some (.int .i64 w.qav) := by
            have := row8.cells (g := g) rfl (q * 6 + 5) _ ((qhz l q 5 w hk (by omega)).trans rfl)
            rw [Addr.add_lit, Nat.zero_add] at this
            exact this
          have x2 := bw.cell 2
          have x3 := bw.cell 3
          have y0 := bu.cell 0
          have y1 := bu.cell 1
          have z2 := bq.cell 2
          have z3 := bq.cell 3
          simp only [List.getElem?_toArray, List.getElem?_cons_zero, List.getElem?_cons_succ] at x2 x3 y0 y1 z2 z3
          rcases HCS.out with ⟨hc1', hown, A', hR', hE'⟩ | ⟨hc2', hfair, A', hR', hE'⟩
          · subst hc1'
            have HN : Hid (∀ w', w'.ownsRow 0 41 6 (.slice (some ⟨g, 0, none⟩) nl cv) nl (qak (l.set q { w with inn := true, qav := st + 1 })) → Keep (fun b => (Value.slice (some ⟨g, 0, none⟩) nl cv).ownBlock = some b) W w' → RpR R.k.L R.paths R.last R.qav nl (.slice (some ⟨g, 0, none⟩) nl cv) W (.bool false) (.int .i64 (st + 1)) (.int .i64 ((i : Int) + 1)) w') := fun w' h1 h2 => HNX1.out A' w' ⟨hR', hE'⟩ h1 h2
            have HR8 := Hid.mk' (And.intro hk row8)
            clear HNX1 HNX2 HCS hR' hE' hnew0 hnew1 row8 hk bw bu bq
            have hw0 : IntKind.i64.wrap (us0 l w.leaf + w.d0) = us0 l w.leaf + w.d0 := by rw [IntKind.wrap_i64]; omega
            have hw1 : IntKind.i64.wrap (us1 l w.leaf + w.d1) = us1 l w.leaf + w.d1 := by rw [IntKind.wrap_i64]; omega
            have hws : IntKind.i64.wrap (st + 1) = st + 1 := by rw [IntKind.wrap_i64]; omega
            by_cases q0 : us0 l w.leaf + w.d0 ≤ N0
            · by_cases q1 : us1 l w.leaf + w.d1 ≤ N1
              · cases p
                all_goals
                  go_wp2_with fail
                  refine ⟨?_, by simp [intOf]; omega⟩
                  have h9 := HN.out _ (kws_comes HR8.out.2 HR8.out.1 (st + 1)) ((hK8.setCell (p := ⟨g, q * 6 + 4, none⟩) rfl _).setCell (p := ⟨g, q * 6 + 5, none⟩) rfl _)
                  simpa using h9
              · have hpf : p = false := by
                  cases p
                  · rfl
                  · exact absurd (hown rfl).2 q1
                subst hpf
                go_wp2_with fail
                refine ⟨?_, by simp [intOf]; omega⟩
                have h9 := HN.out _ (kws_comes HR8.out.2 HR8.out.1 (st + 1)) ((hK8.setCell (p := ⟨g, q * 6 + 4, none⟩) rfl _).setCell (p := ⟨g, q * 6 + 5, none⟩) rfl _)
                simpa using h9
            · have hpf : p = false := by
                cases p
                · rfl
                · exact absurd (hown rfl).1 q0
              subst hpf
              go_wp2_with fail
              refine ⟨?_, by simp [intOf]; omega⟩
              have h9 := HN.out _ (kws_comes HR8.out.2 HR8.out.1 (st + 1)) ((hK8.setCell (p := ⟨g, q * 6 + 4, none⟩) rfl _).setCell (p := ⟨g, q * 6 + 5, none⟩) rfl _)
              simpa using h9
          · subst hc2'
            have HN : Hid (∀ w', w'.ownsRow 0 41 6 (.slice (some ⟨g, 0, none⟩) nl cv) nl (qak (l.set q { w with inn := false })) → Keep (fun b => (Value.slice (some ⟨g, 0, none⟩) nl cv).ownBlock = some b) W w' → RpR R.k.L R.paths R.last R.qav nl (.slice (some ⟨g, 0, none⟩) nl cv) W (.bool true) (.int .i64 st) (.int .i64 ((i : Int) + 1)) w') := fun w' h1 h2 => HNX2.out A' w' ⟨hR', hE'⟩ h1 h2
            have HF : Hid ((us0 l w.leaf > N0 ∧ w.d0 > 0 ∧ Last l w 0) ∨ (us1 l w.leaf > N1 ∧ w.d1 > 0 ∧ Last l w 1)) := by
              rcases hfair with ⟨e1, e2, e3⟩ | ⟨e1, e2, e3⟩
              · exact .inl ⟨e1, e2, fun y hy h1 h2 h3 => e3 y hy h1 h2 h3⟩
              · exact .inr ⟨e1, e2, fun y hy h1 h2 h3 => e3 y hy h1 h2 h3⟩
            have HR8 := Hid.mk' (And.intro hk row8)
            clear HNX1 HNX2 HCS hR' hE' hfair row8 hk x2 x3 y0 y1 z2 z3
            go_upto_region 19 with fail
            go_loopw [15, 16] (fun c15 c16 wx => FrR (us0 l w.leaf > N0 ∧ w.d0 > 0 ∧ Last l w 0) (us1 l w.leaf > N1 ∧ w.d1 > 0 ∧ Last l w 1) W8 c15 c16 wx) (fun _ j _ => 2 - (intOf j).toNat)
            case atStart => exact ⟨0, false, by omega, rfl, rfl, fun h => (by omega), fun h => (by omega), Below.refl _ _⟩
            case round =>
              obtain ⟨j, b, hj, rfl, rfl, h1, h2, hBx⟩ := hrel
              have HH := Hid.mk' h1
              have HH2 := Hid.mk' h2
              clear h1 h2
              have bw' := bw.below hBx bw.lt
              have bu' := bu.below hBx bu.lt
              have bq' := bq.below hBx bq.lt
              have hB0x := hB08.trans (hBx.mono hB08.size)
              have x0 := bw'.cell 0
              have x1 := bw'.cell 1
              have x2 := bw'.cell 2
              have x3 := bw'.cell 3
              have x4 := bw'.cell 4
              have x5 := bw'.cell 5
              have y0 := bu'.cell 0
              have y1 := bu'.cell 1
              have z2 := bq'.cell 2
              have z3 := bq'.cell 3
              simp only [List.getElem?_toArray, List.getElem?_cons_zero, List.getElem?_cons_succ] at x0 x1 x2 x3 x4 x5 y0 y1 z2 z3
              rcases (show j = 0 ∨ j = 1 ∨ j = 2 by omega) with rfl | rfl | rfl
              · clear hnew1 HF HN HR8 HH2
                cases b
                · by_cases a0 : us0 l w.leaf > N0
                  · by_cases a1 : w.d0 > 0
                    · go_upto_region 21 with fail
                      go_region_held3 (fun w' => w'.cell? ⟨g6, 0, none⟩ = some (.int .i64 (us0 l w.leaf)) ∧ w'.cell? ⟨g7, 2, none⟩ = some (.int .i64 N0) ∧ w'.cell? ⟨g4, 0, none⟩ = some (.int .i64 w.num) ∧ w'.cell? ⟨g4, 1, none⟩ = some (.int .i64 w.leaf) ∧ w'.cell? ⟨g4, 2, none⟩ = some (.int .i64 w.d0) ∧ w'.cell? ⟨g4, 3, none⟩ = some (.int .i64 w.d1) ∧ w'.cell? ⟨g4, 4, none⟩ = some (.bool w.inn) ∧ w'.cell? ⟨g4, 5, none⟩ = some (.int .i64 w.qav)) (go_keep)
                        (first
                          | (go_at_call 50; refine (hnew0.out _ (qab hB0x ?_)).mono ?_; (focus exact bel2); rintro e w9 ⟨⟨b9, rfl, hb9⟩, hbl9⟩; have hB9 : Below wr.heap.size wr w9 := qab (by exact bel2) hbl9; have bw9 := bw'.below hB9 bw'.lt; have bu9 := bu'.below hB9 bu'.lt; have bq9 := bq'.below hB9 bq'.lt; have k0 := bu9.cell 0; have k1 := bq9.cell 2; have k2 := bw9.cell 0; have k3 := bw9.cell 1; have k4 := bw9.cell 2; have k5 := bw9.cell 3; have k6 := bw9.cell 4; have k7 := bw9.cell 5; simp only [List.getElem?_toArray, List.getElem?_cons_zero, List.getElem?_cons_succ] at k0 k1 k2 k3 k4 k5 k6 k7))
                      have HB9 := Hid.mk' hb9
                      clear hb9
                      go_wp2_with fail
                      exact ⟨⟨1, b9, by omega, rfl, rfl, fun _ hC => HB9.out hC.2.2, fun h => (by omega), hBx.trans (hB9.mono hBx.size)⟩, by simp [intOf]⟩
                    · have a1d : decide (0 < w.d0) = false := decide_eq_false a1
                      go_upto_region 21 with fail
                      go_quiet (fail)
                      go_wp2_with fail
                      exact ⟨⟨1, false, by omega, rfl, rfl, fun _ hC => absurd hC.2.1 a1, fun h => (by omega), below_drewN hBx _⟩, by simp [intOf]⟩
                  · have a0d : decide (N0 < us0 l w.leaf) = false := decide_eq_false a0
                    go_upto_region 21 with fail
                    go_quiet (fail)
                    go_wp2_with fail
                    exact ⟨⟨1, false, by omega, rfl, rfl, fun _ hC => absurd hC.1 a0, fun h => (by omega), below_drewN hBx _⟩, by simp [intOf]⟩
                · go_upto_region 21 with fail
                  go_quiet (fail)
                  go_wp2_with fail
                  exact ⟨⟨1, true, by omega, rfl, rfl, fun _ hC => rfl, fun h => (by omega), below_drewN hBx _⟩, by simp [intOf]⟩
              · clear hnew0 HF HN HR8 HH2
                cases b
                · by_cases a0 : us1 l w.leaf > N1
                  · by_cases a1 : w.d1 > 0
                    · go_upto_region 21 with fail
                      go_region_held3 (fun w' => w'.cell? ⟨g6, 1, none⟩ = some (.int .i64 (us1 l w.leaf)) ∧ w'.cell? ⟨g7, 3, none⟩ = some (.int .i64 N1) ∧ w'.cell? ⟨g4, 0, none⟩ = some (.int .i64 w.num) ∧ w'.cell? ⟨g4, 1, none⟩ = some (.int .i64 w.leaf) ∧ w'.cell? ⟨g4, 2, none⟩ = some (.int .i64 w.d0) ∧ w'.cell? ⟨g4, 3, none⟩ = some (.int .i64 w.d1) ∧ w'.cell? ⟨g4, 4, none⟩ = some (.bool w.inn) ∧ w'.cell? ⟨g4, 5, none⟩ = some (.int .i64 w.qav)) (go_keep)
                        (first
                          | (go_at_call 50; refine (hnew1.out _ (qab hB0x ?_)).mono ?_; (focus exact bel2); rintro e w9 ⟨⟨b9, rfl, hb9⟩, hbl9⟩; have hB9 : Below wr.heap.size wr w9 := qab (by exact bel2) hbl9; have bw9 := bw'.below hB9 bw'.lt; have bu9 := bu'.below hB9 bu'.lt; have bq9 := bq'.below hB9 bq'.lt; have k0 := bu9.cell 1; have k1 := bq9.cell 3; have k2 := bw9.cell 0; have k3 := bw9.cell 1; have k4 := bw9.cell 2; have k5 := bw9.cell 3; have k6 := bw9.cell 4; have k7 := bw9.cell 5; simp only [List.getElem?_toArray, List.getElem?_cons_zero, List.getElem?_cons_succ] at k0 k1 k2 k3 k4 k5 k6 k7))
                      have HB9 := Hid.mk' hb9
                      clear hb9
                      go_wp2_with fail
                      exact ⟨⟨2, b9, by omega, rfl, rfl, fun _ hC => (by have := HH.out (by omega) hC; cases this), fun _ hC => HB9.out hC.2.2, hBx.trans (hB9.mono hBx.size)⟩, by simp [intOf]⟩
                    · have a1d : decide (0 < w.d1) = false := decide_eq_false a1
                      go_upto_region 21 with fail
                      go_quiet (fail)
                      go_wp2_with fail
                      exact ⟨⟨2, false, by omega, rfl, rfl, fun _ hC => (by have := HH.out (by omega) hC; cases this), fun _ hC => absurd hC.2.1 a1, below_drewN hBx _⟩, by simp [intOf]⟩
                  · have a0d : decide (N1 < us1 l w.leaf) = false := decide_eq_false a0
                    go_upto_region 21 with fail
                    go_quiet (fail)
                    go_wp2_with fail
                    exact ⟨⟨2, false, by omega, rfl, rfl, fun _ hC => (by have := HH.out (by omega) hC; cases this), fun _ hC => absurd hC.1 a0, below_drewN hBx _⟩, by simp [intOf]⟩
                · go_upto_region 21 with fail
                  go_quiet (fail)
                  go_wp2_with fail
                  exact ⟨⟨2, true, by omega, rfl, rfl, fun _ hC => rfl, fun _ hC => rfl, below_drewN hBx _⟩, by simp [intOf]⟩
              · have hbt : b = true := by
                  rcases HF.out with hC | hC
                  · exact HH.out (by omega) hC
                  · exact HH2.out (by omega) hC
                subst hbt
                have row9 := qfq HR8.out.2 hBx
                have g9 := row9.frozenAt (q * 6 + 4)
                have d9 := (hBx.cell (p := ⟨g, q * 6 + 4, none⟩) hg8).trans d4
                have HR9 := Hid.mk' row9
                clear hnew0 hnew1 HF HH HH2 row9
                go_wp2_with fail
                refine ⟨?_, by simp [intOf]; omega⟩
                have h9 := HN.out _ (kws_goes HR9.out HR8.out.1) ((hK8.trans (Keep.new hBx)).setCell (p := ⟨g, q * 6 + 4, none⟩) rfl _)
                simpa using h9
    · have hii : ¬ ((i : Int) < R.last.length) := by omega
      have hp : p = false := by
        obtain ⟨A, B, t', hRp, hE⟩ := hH.out
        rw [List.drop_of_length_le (by omega)] at hE
        exact ev_end hE
      subst hp
      clear hH HQ HEV
      go_wp2_with fail
      go_ret
      exact ⟨rfl, hK⟩
end
end Go.Proofs.YtphclnolomgjoaaGreatDoor
