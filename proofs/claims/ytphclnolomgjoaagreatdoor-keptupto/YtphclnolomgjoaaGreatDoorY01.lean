import Derived.Test.YtphclnolomgjoaaGreatDoorB37
import Derived.BigQuiet
set_option linter.unusedVariables false
set_option linter.unusedSimpArgs false
namespace Go.Proofs.YtphclnolomgjoaaGreatDoor
open Go.RowKit
section
variable {F : Nat → Prop} {W : World} {rb : Nat} {R : KR} {n : Nat}
theorem qox (l : List Wk) (x : Wk) (s : Bs) : ws0 (qae (l ++ [x]) s) = ws0 (qae l s) + (if decide (0 < x.st) && inB (qaa x.key) s then x.d0 else 0) ∧ ws1 (qae (l ++ [x]) s) = ws1 (qae l s) + (if decide (0 < x.st) && inB (qaa x.key) s then x.d1 else 0) := by
  unfold qae ws0 ws1
  rw [List.filter_append]
  cases h : (decide (0 < x.st) && inB (qaa x.key) s) <;> simp [h]
def useK (R : KR) (s : Bs) (k : Nat) : Int × Int := (ws0 (qae ((R.works.take k).map (KW.wk R.paths)) s), ws1 (qae ((R.works.take k).map (KW.wk R.paths)) s))
theorem qpu (I : RunI n R) (s : Bs) : (useK R s R.works.length).1 = ws0 (qae R.k.Ws s) ∧ (useK R s R.works.length).2 = ws1 (qae R.k.Ws s) := by
  unfold useK
  rw [List.take_length]
  exact ⟨qe8 (qdb I.perm s), qe9 (qdb I.perm s)⟩
theorem qun (I : RunI n R) (s : Bs) {k : Nat} {x : KW} (hx : R.works[k]? = some x) {p : List Bs} (hp : R.paths[x.leaf]? = some p) :
    (useK R s (k + 1)).1 = (useK R s k).1 + (if inB (qaa p) s && x.inn then x.d0 else 0) ∧ (useK R s (k + 1)).2 = (useK R s k).2 + (if inB (qaa p) s && x.inn then x.d1 else 0) := by
  have hlt := (List.getElem?_eq_some_iff.1 hx).1
  have ht : R.works.take (k + 1) = R.works.take k ++ [x] := by
    rw [List.take_succ_eq_append_getElem hlt]; rw [List.getElem?_eq_getElem hlt] at hx; cases hx; rfl
  have hst : decide (0 < (KW.wk R.paths x).st) = x.inn := by
    unfold KW.wk
    cases hi : x.inn
    · simp
    · have := I.pos x (List.mem_of_getElem? hx) hi
      simp [this]
  have hky : (KW.wk R.paths x).key = p := by
    unfold KW.wk
    simp [List.getD, hp]
  unfold useK
  rw [ht, List.map_append]
  have := qox ((R.works.take k).map (KW.wk R.paths)) (KW.wk R.paths x) s
  rw [hst, hky, Bool.and_comm] at this
  exact this
theorem qyb {nodes : List Node} (K : KInv nodes R.k) (I : RunI n R) (s : Bs) (k : Nat) : (0 ≤ (useK R s k).1 ∧ (useK R s k).1 ≤ 24000) ∧ (0 ≤ (useK R s k).2 ∧ (useK R s k).2 ≤ 24000) := by
  have hmem : ∀ e ∈ qae ((R.works.take k).map (KW.wk R.paths)) s, e ∈ R.k.Ws := fun e he => by
    obtain ⟨w, hw, rfl⟩ := List.mem_map.1 (List.mem_filter.1 he).1
    exact I.perm.mem_iff.1 (List.mem_map_of_mem (List.mem_of_mem_take hw))
  have hlen : (qae ((R.works.take k).map (KW.wk R.paths)) s).length ≤ 24 := by
    refine Nat.le_trans (List.length_filter_le _ _) ?_
    have := I.wlen
    have h24 : R.k.Ws.length ≤ 24 := K.inv.wks.wks.len
    simp; omega
  have s0 := qur _ (fun e he => (K.inv.wks.wks.num e (hmem e he)).1)
  have s1 := qus _ (fun e he => (K.inv.wks.wks.num e (hmem e he)).2)
  unfold useK
  simp only
  omega
set_option maxRecDepth 100000 in
set_option maxHeartbeats 4000000 in
theorem qzj (h : qau F W rb R) (I : RunI n R) (s : ByteArray) (hs : s.size ≤ 2000000) :
    Calls Tryz.prog 45 #[.pointer (some ⟨rb, 0, none⟩), .string s] W fun e w' => e = .returned (.agg #[.int .i64 (ws0 (qae R.k.Ws (bl s))), .int .i64 (ws1 (qae R.k.Ws (bl s)))]) ∧ Below W.heap.size W w' := by
  obtain ⟨nodes, K⟩ := h.kinv
  have hw24 : R.works.length ≤ 24 := by rw [I.wlen]; exact K.inv.wks.wks.len
  obtain ⟨P, bt, vp, vw, vl, h⟩ := h
  have HA : Hid (∀ e w', e = Ending.returned (.agg #[.int .i64 (useK R (bl s) R.works.length).1, .int .i64 (useK R (bl s) R.works.length).2]) → Below W.heap.size W w' → e = .returned (.agg #[.int .i64 (ws0 (qae R.k.Ws (bl s))), .int .i64 (ws1 (qae R.k.Ws (bl s)))]) ∧ Below W.heap.size W w') := fun e w' h1 h2 => by
    rw [(qpu I (bl s)).1, (qpu I (bl s)).2] at h1
    exact ⟨h1, h2⟩
  have HK : Hid (∀ wr, Below W.heap.size W wr → ∀ k, k < R.works.length → ∃ (g c gp cp lf np : Nat) (d0 d1 : Int) (inn is : Bool) (pth : ByteArray), vw = .slice (some ⟨g, 0, none⟩) R.works.length c ∧ vp = .slice (some ⟨gp, 0, none⟩) np cp ∧ (g < W.heap.size ∧ gp < W.heap.size ∧ R.works.length ≤ c ∧ c ≤ maxLen ∧ lf < np ∧ np ≤ cp ∧ cp ≤ maxLen) ∧ wr.cell? ⟨g, k * 6 + 1, none⟩ = some (.int .i64 lf) ∧ wr.cell? ⟨g, k * 6 + 2, none⟩ = some (.int .i64 d0) ∧ wr.cell? ⟨g, k * 6 + 3, none⟩ = some (.int .i64 d1) ∧ wr.cell? ⟨g, k * 6 + 4, none⟩ = some (.bool inn) ∧ wr.cell? ⟨gp, lf, none⟩ = some (.string pth) ∧ (∀ w, Calls Tryz.prog 35 #[.string pth, .string s] w fun e w' => e = .returned (.bool is) ∧ w' = w) ∧ ((0 ≤ d0 ∧ d0 ≤ 1000) ∧ (0 ≤ d1 ∧ d1 ≤ 1000)) ∧ Hid ((useK R (bl s) (k + 1)).1 = (useK R (bl s) k).1 + (if is && inn then d0 else 0) ∧ (useK R (bl s) (k + 1)).2 = (useK R (bl s) k).2 + (if is && inn then d1 else 0))) := by
    intro wr hb k hk
    obtain ⟨x, hx⟩ : ∃ x, R.works[k]? = some x := ⟨_, List.getElem?_eq_getElem hk⟩
    have hxm := List.mem_of_getElem? hx
    have hxl := I.idx x hxm
    obtain ⟨p, hp⟩ : ∃ p, R.paths[x.leaf]? = some p := ⟨_, List.getElem?_eq_getElem (by rw [I.len]; omega)⟩
    obtain ⟨gp, cp, hvp, hgl, hgne, hcp1, hcp2, q0⟩ := h.path hp
    obtain ⟨g, c, hvw, hg, hgn, hc1, hc2, p0, p1, p2, p3, p4, p5⟩ := h.tk.cells hx
    have hb0 := fun (a : Nat) => hb.cell (p := ⟨g, a, none⟩) hg
    have hin := fun w => qph (sb (qaa p)) s w (I.small K hp) hs
    rw [qbs] at hin
    exact ⟨g, c, gp, cp, x.leaf, R.paths.length, x.d0, x.d1, x.inn, _, _, hvw, hvp, ⟨hg, hgl, hc1, hc2, by rw [I.len]; omega, hcp1, hcp2⟩, (hb0 _).trans p1, (hb0 _).trans p2, (hb0 _).trans p3, (hb0 _).trans p4, (hb.cell (p := ⟨gp, x.leaf, none⟩) hgl).trans q0, hin, K.inv.wks.wks.num (x.wk R.paths) (I.perm.mem_iff.1 (List.mem_map_of_mem hxm)), qun I (bl s) hx hp⟩
  have hbd := qyb K I (bl s)
  have h0 : useK R (bl s) 0 = (0, 0) := by simp [useK, qae, ws0, ws1]
  have c1 := h.at_.cell 1
  have c2 := h.at_.cell 2
  simp only [List.getElem?_toArray, List.getElem?_cons_zero, List.getElem?_cons_succ] at c1 c2
  obtain ⟨aw, cw, hvw, hcw1, hcw2⟩ := qa7 h.wrow
  rw [hvw] at c2 HK
  have hrl := h.at_.lt
  clear h I K
  obtain ⟨u, hu⟩ : ∃ u, u = useK R (bl s) := ⟨_, rfl⟩
  rw [← hu] at HA HK hbd h0
  clear hu
  generalize R.works.length = nv at *
  go_enter Tryz.func45, Tryz.ntmps45
  go_wp2
  go_loopw [6] (fun i wr => ∃ k : Nat, k ≤ nv ∧ i = .int .i64 k ∧ Below W.heap.size W wr ∧ Blk wr W.heap.size 35 #[.int .i64 0, .int .i64 0] ∧ Blk wr (W.heap.size + 1) 35 #[.int .i64 (u k).1, .int .i64 (u k).2])
    (fun i _ => nv - (intOf i).toNat)
  case atStart => exact ⟨0, Nat.zero_le _, rfl, by exact bel2, by exact blk2, by rw [h0]; refine Blk.new' ?_; simp⟩
  case round =>
    obtain ⟨k, hk, rfl, hbel, hb4, hb5⟩ := hrel
    have r1 := (hbel.cell (p := ⟨rb, 1, none⟩) hrl).trans c1
    have r2 := (hbel.cell (p := ⟨rb, 2, none⟩) hrl).trans c2
    have hbk := hbd k
    by_cases hlt : k < nv
    · obtain ⟨g, c, gp, cp, lf, np, d0, d1, inn, is, pth, e1, e2, ⟨l1, l2, l3, l4, l5, l6, l7⟩, p1, p2, p3, p4, q0, hin, hd, hnx⟩ := HK.out wr hbel k hlt
      injection e1 with e1 _ e3
      subst e1 e2 e3
      have hki : (k : Int) < nv := by omega
      have hki0 : (0 : Int) ≤ k := by omega
      have hli : (lf : Int) < np := by omega
      have hli0 : (0 : Int) ≤ lf := by omega
      have y0 := hb5.cell 0
      have y1 := hb5.cell 1
      have f0 := hb5.frozen 0
      have f1 := hb5.frozen 1
      simp only [List.getElem?_toArray, List.getElem?_cons_zero, List.getElem?_cons_succ] at y0 y1
      have hbg : ¬ (g = W.heap.size + 1) := fun e => by omega
      have hbb : ¬ (rb = W.heap.size + 1) := fun e => by omega
      have HB5 : Hid (Blk wr (W.heap.size + 1) 35 #[.int .i64 (u k).1, .int .i64 (u k).2]) := hb5
      have HU : Hid (∀ w, Blk w (W.heap.size + 1) 35 #[.int .i64 ((u k).1 + (if is && inn then d0 else 0)), .int .i64 ((u k).2 + (if is && inn then d1 else 0))] → Blk w (W.heap.size + 1) 35 #[.int .i64 (u (k + 1)).1, .int .i64 (u (k + 1)).2]) := fun w hw => by
        rw [hnx.out.1, hnx.out.2]; exact hw
      clear hb5 hnx HK HA
      generalize (u k).1 = e0 at *
      generalize (u k).2 = e1 at *
      cases is <;> cases inn
      all_goals
        go_upto_region 5 with fail
        go_quiet ((go_at_call 35; exact Calls.quiet_of_same (hin _)))
        clear hin
        go_wp2_with fail
      · refine ⟨⟨k + 1, by omega, by go_num, below_drewN hbel _, hb4.drewN _, HU.out _ ?_⟩, by simp [intOf]; omega⟩
        simpa using HB5.out.drewN nq
      · refine ⟨⟨k + 1, by omega, by go_num, below_drewN hbel _, hb4.drewN _, HU.out _ ?_⟩, by simp [intOf]; omega⟩
        simpa using HB5.out.drewN nq
      · refine ⟨⟨k + 1, by omega, by go_num, below_drewN hbel _, hb4.drewN _, HU.out _ ?_⟩, by simp [intOf]; omega⟩
        simpa using HB5.out.drewN nq
      · go_region
        go_wp2_with fail
        go_region
        go_wp2_with fail
        refine ⟨⟨k + 1, by omega, by go_num, (((below_drewN hbel _).setCell (by simp) _).setCell (by simp) _).drew, (((hb4.drewN _).other _ _ (by simp)).other _ _ (by simp)).drew, HU.out _ ?_⟩, by simp [intOf]; omega⟩
        have := (((HB5.out.drewN (nq + 1)).set 0 (.int .i64 (e0 + d0))).set 1 (.int .i64 (e1 + d1))).drew
        simpa using this
    · have hkn : k = nv := by omega
      subst hkn
      have hki : ¬ ((k : Int) < k) := by omega
      have y0 := hb5.cell 0
      have y1 := hb5.cell 1
      have z0 := hb4.frozen 0
      have z1 := hb4.frozen 1
      have z2 := hb4.cell 0
      have z3 := hb4.cell 1
      simp only [List.getElem?_toArray, List.getElem?_cons_zero, List.getElem?_cons_succ] at y0 y1 z2 z3
      go_wp2_with fail
      have hb4' := (hb4.set 0 (.int .i64 (u k).1)).set 1 (.int .i64 (u k).2)
      have hc' := hb4'.cell
      refine bodyPost_ret (v := .agg #[.int .i64 (u k).1, .int .i64 (u k).2]) ?_ rfl (HA.out _ _ rfl (by exact bel2))
      simp [results, Tryz.results45, go_sem, hc']
end
end Go.Proofs.YtphclnolomgjoaaGreatDoor
namespace Go.Proofs.YtphclnolomgjoaaGreatDoor
open Go.RowKit
section
variable {F : Nat → Prop} {W w' : World} {rb : Nat} {R : KR}
set_option maxRecDepth 100000 in
set_option maxHeartbeats 4000000 in
theorem qn6 (h : qau F W rb R) {x : Ent} (hx : qeq R.k.L [] = some x) (hxk : x.key = []) :
    Calls Tryz.prog 19 #[.pointer (some ⟨rb, 0, none⟩), .int .i64 (-1)] W (qpz R x W) := by
  obtain ⟨P, bt, vp, vw, vl, h⟩ := h
  have hpth : sb (qaa []) = (⟨#[]⟩ : ByteArray) := rfl
  have hnil : bl (⟨#[]⟩ : ByteArray) = [] := rfl
  have hcall : ∀ Wx, Below W.heap.size W Wx → Calls Tryz.prog 34 #[.pointer (some ⟨bt, 0, none⟩), .string (⟨#[]⟩)] Wx fun e w1 => ∃ a1 c1, e = .returned (.tuple #[.agg #[.string (⟨#[]⟩), .bool x.leaf, .int .i64 (es0 (qai R.k.L (qaa x.key))), .int .i64 (es1 (qai R.k.L (qaa x.key))), .int .i64 x.b0, .int .i64 x.b1, .int .i64 (ws0 (qae R.k.Ws (qaa x.key))), .int .i64 (ws1 (qae R.k.Ws (qaa x.key))), .slice a1 (R.k.waits x).length c1], .int .i64 0]) ∧ Below Wx.heap.size Wx w1 ∧ Hid (w1.ownsRow 0 3 1 (.slice a1 (R.k.waits x).length c1) (R.k.waits x).length (qjb (R.k.waits x)) ∧ ∀ b, (Value.slice a1 (R.k.waits x).length c1).ownBlock = some b → Wx.heap.size ≤ b) := fun Wx hb => by
    have hx' : qeq R.k.L (qac (bl (⟨#[]⟩ : ByteArray))) = some x := hx
    refine (qn5 (h.below hb).tw ⟨#[]⟩ (by decide) rfl hx').mono ?_
    rintro e w1 ⟨v, rfl, g1, g2, g3⟩
    obtain ⟨a1, c1, rfl, _, _⟩ := qa7 g1
    refine ⟨a1, c1, ?_, g2, g1, g3⟩
    unfold KS.told
    rw [hxk, hpth]
  have HQ : Hid (∀ (e : Ending) (w' : World) (a1 : Option Addr) (c1 : Nat), e = .returned (.tuple #[.agg #[.string (⟨#[]⟩), .bool x.leaf, .int .i64 (es0 (qai R.k.L (qaa x.key))), .int .i64 (es1 (qai R.k.L (qaa x.key))), .int .i64 x.b0, .int .i64 x.b1, .int .i64 (ws0 (qae R.k.Ws (qaa x.key))), .int .i64 (ws1 (qae R.k.Ws (qaa x.key))), .slice a1 (R.k.waits x).length c1], .bool true]) → w'.ownsRow 0 3 1 (.slice a1 (R.k.waits x).length c1) (R.k.waits x).length (qjb (R.k.waits x)) → Below W.heap.size W w' → (∀ b, (Value.slice a1 (R.k.waits x).length c1).ownBlock = some b → W.heap.size ≤ b) → qpz R x W e w') := fun e w' a1 c1 he h1 h2 h3 => ⟨_, by rw [he]; unfold KS.told; rw [hxk, hpth], h1, h2, h3⟩
  have c0 := h.at_.cell 0
  simp only [List.getElem?_toArray, List.getElem?_cons_zero, List.getElem?_cons_succ] at c0
  have hrl := h.at_.lt
  have n0' := World.new_ne W _ c0
  have b0 : Blk (W.alloc (.cells #[.string ⟨#[]⟩, .bool false, .int .i64 0, .int .i64 0, .int .i64 0, .int .i64 0, .int .i64 0, .int .i64 0, .slice none 0 0] 37)) W.heap.size 37 #[.string ⟨#[]⟩, .bool false, .int .i64 0, .int .i64 0, .int .i64 0, .int .i64 0, .int .i64 0, .int .i64 0, .slice none 0 0] := Blk.new W 37 _
  generalize es0 (qai R.k.L (qaa x.key)) = s0 at *
  generalize es1 (qai R.k.L (qaa x.key)) = s1 at *
  generalize ws0 (qae R.k.Ws (qaa x.key)) = u0 at *
  generalize ws1 (qae R.k.Ws (qaa x.key)) = u1 at *
  generalize (R.k.waits x).length = nw at *
  clear h hx hxk
  go_enter Tryz.func19, Tryz.ntmps19
  go_upto_region 5 with (go_at_call 34; refine (hcall _ ?_).mono ?_; (focus exact bel2); rintro e w1 ⟨a1, c1', rfl, hb1, hfin⟩; have b1 := b0.below hb1 (by simp); have f1 := b1.frozen; have l1 := b1.lt)
  obtain ⟨o9, ho9⟩ : ∃ o9, o9 = Obj.cells #[Value.string ⟨#[]⟩, .bool x.leaf, .int .i64 s0, .int .i64 s1, .int .i64 x.b0, .int .i64 x.b1, .int .i64 u0, .int .i64 u1, .slice a1 nw c1'] 37 := ⟨_, rfl⟩
  have hb9 : Blk (w1.alloc o9) w1.heap.size 37 #[Value.string ⟨#[]⟩, .bool x.leaf, .int .i64 s0, .int .i64 s1, .int .i64 x.b0, .int .i64 x.b1, .int .i64 u0, .int .i64 u1, .slice a1 nw c1'] := by rw [ho9]; exact Blk.new w1 37 _
  have b9 := b1.alloc o9
  have hB1 : Below W.heap.size W w1 := qab (by exact bel2) hb1
  have hA := Below.alloc (Below.refl w1.heap.size w1) (Nat.le_refl _) o9
  have hB9 : Below W.heap.size W (w1.alloc o9) := qab hB1 hA
  have hrow9 := qfq hfin.out.1 hA
  have hnb : w1.heap.size ≠ W.heap.size := by omega
  have hne9 : ∀ b, (Value.slice a1 nw c1').ownBlock = some b → b < w1.heap.size := fun b hb => qap hfin.out.1 hb
  rw [← ho9]
  have HF9 : Hid (∀ b, (Value.slice a1 nw c1').ownBlock = some b → W.heap.size < b) := fun b hb => by have := hfin.out.2 b hb; simp at this; omega
  have HR9 : Hid ((w1.alloc o9).ownsRow 0 3 1 (.slice a1 nw c1') nw (qjb (R.k.waits x))) := hrow9
  have l9 := b9.lt
  have hg9 : W.heap.size < w1.heap.size := by omega
  clear hfin hrow9 hne9 hB1 hA b1 f1 l1
  generalize w1.alloc o9 = W9 at hb9 b9 hB9 HR9 l9 ⊢
  generalize w1.heap.size = g9 at hb9 hg9 hnb ⊢
  have z0 := hb9.cell 0
  have z1 := hb9.cell 1
  have z2 := hb9.cell 2
  have z3 := hb9.cell 3
  have z4 := hb9.cell 4
  have z5 := hb9.cell 5
  have z6 := hb9.cell 6
  have z7 := hb9.cell 7
  have z8 := hb9.cell 8
  have y0 := b9.cell
  have y1 := b9.frozen
  simp only [List.getElem?_toArray, List.getElem?_cons_zero, List.getElem?_cons_succ] at z0 z1 z2 z3 z4 z5 z6 z7 z8
  go_region
  go_wp2_with fail
  have hfin := (((((((((b9.set 0 (.string ⟨#[]⟩)).set 1 (.bool x.leaf)).set 2 (.int .i64 s0)).set 3 (.int .i64 s1)).set 4 (.int .i64 x.b0)).set 5 (.int .i64 x.b1)).set 6 (.int .i64 u0)).set 7 (.int .i64 u1)).set 8 (.slice a1 nw c1')).drew
  have hc := hfin.cell
  have hk := ((((((((((Keep.refl (fun b => b = W.heap.size) W9).setCell (p := ⟨W.heap.size, 0, none⟩) rfl (.string ⟨#[]⟩)).setCell (p := ⟨W.heap.size, 1, none⟩) rfl (.bool x.leaf)).setCell (p := ⟨W.heap.size, 2, none⟩) rfl (.int .i64 s0)).setCell (p := ⟨W.heap.size, 3, none⟩) rfl (.int .i64 s1)).setCell (p := ⟨W.heap.size, 4, none⟩) rfl (.int .i64 x.b0)).setCell (p := ⟨W.heap.size, 5, none⟩) rfl (.int .i64 x.b1)).setCell (p := ⟨W.heap.size, 6, none⟩) rfl (.int .i64 u0)).setCell (p := ⟨W.heap.size, 7, none⟩) rfl (.int .i64 u1)).setCell (p := ⟨W.heap.size, 8, none⟩) rfl (.slice a1 nw c1')).drew
  clear y0 y1 z0 z1 z2 z3 z4 z5 z6 z7 z8
  refine bodyPost_ret (v := .tuple #[.agg #[.string ⟨#[]⟩, .bool x.leaf, .int .i64 s0, .int .i64 s1, .int .i64 x.b0, .int .i64 x.b1, .int .i64 u0, .int .i64 u1, .slice a1 nw c1'], .bool true]) ?_ rfl (HQ.out _ _ a1 c1' rfl (qaf HR9.out hk (fun b hb e => by have := HF9.out b hb; omega)) (hB9.trans (hk.toBelow hB9.size (fun b hb e => by omega))) (fun b hb => by have := HF9.out b hb; omega))
  simp [results, Tryz.results19, go_sem, hc]
end
end Go.Proofs.YtphclnolomgjoaaGreatDoor
namespace Go.Proofs.YtphclnolomgjoaaGreatDoor
open Go.RowKit
section
variable {F : Nat → Prop} {W w' : World} {rb : Nat} {R : KR} {n : Nat} {nodes : List Node}
theorem qqd (f : Ent → Bool) (l : List Ent) : es0 (l.filter f) = (l.map fun e => if f e then e.n0 else 0).sum := by
  unfold es0
  induction l with
  | nil => rfl
  | cons a l ih => cases h : f a <;> simp [List.filter_cons, h, ih]
theorem qqe (f : Ent → Bool) (l : List Ent) : es1 (l.filter f) = (l.map fun e => if f e then e.n1 else 0).sum := by
  unfold es1
  induction l with
  | nil => rfl
  | cons a l ih => cases h : f a <;> simp [List.filter_cons, h, ih]
theorem qsm {a b : List Ent} (h : a.Perm b) : es0 a = es0 b := by
  unfold es0
  induction h with
  | nil => rfl
  | cons x _ ih => simp [ih]
  | swap x y l => simp; omega
  | trans _ _ h1 h2 => exact h1.trans h2
theorem qsn {a b : List Ent} (h : a.Perm b) : es1 a = es1 b := by
  unfold es1
  induction h with
  | nil => rfl
  | cons x _ ih => simp [ih]
  | swap x y l => simp; omega
  | trans _ _ h1 h2 => exact h1.trans h2
def entK (L : List Ent) (p : List Bs) : Ent := (qeq L p).getD ⟨[], false, 0, 0, 0, 0⟩
theorem qiw (K : KInv nodes R.k) {e : Ent} (he : e ∈ R.k.L) : qeq R.k.L e.key = some e := by
  rw [← K.L] at he ⊢
  obtain ⟨m, hm, rfl⟩ := List.mem_map.1 he
  rw [qb4, qb0 K.tree hm (k := m.ent.key) rfl]
  rfl
theorem qsj (K : KInv nodes R.k) (I : RunI n R) : R.k.L.Perm (([] :: R.paths).map (entK R.k.L)) := by
  have h := I.keys.map (entK R.k.L)
  have e : (R.k.L.map (·.key)).map (entK R.k.L) = R.k.L := by
    rw [List.map_map]
    conv => rhs; rw [← List.map_id R.k.L]
    refine List.map_congr_left fun e he => ?_
    show entK R.k.L e.key = e
    unfold entK
    rw [qiw K he]
    rfl
  rw [e] at h
  exact h
theorem qsi (K : KInv nodes R.k) (I : RunI n R) {i : Nat} {p : List Bs} (hp : R.paths[i]? = some p) : entK R.k.L p ∈ R.k.L ∧ (entK R.k.L p).key = p ∧ (entK R.k.L p).leaf = decide (i < 5) ∧ (i < 5 → qai R.k.L (qaa p) = [entK R.k.L p]) := by
  obtain ⟨e, he, hk, hl⟩ := I.leaf i p hp
  have h1 := qiw K he
  rw [hk] at h1
  have h2 : entK R.k.L p = e := by unfold entK; rw [h1]; rfl
  rw [h2]
  refine ⟨he, hk, hl, fun h5 => ?_⟩
  have he' := he
  rw [← K.L] at he'
  have := qhp K.tree he' (by rw [hl]; simp [h5])
  rw [K.L, hk] at this
  exact this
theorem qpq (K : KInv nodes R.k) : ∃ r, r ∈ R.k.L ∧ r.key = [] ∧ r.leaf = false ∧ qeq R.k.L [] = some r ∧ r.b0 = 0 ∧ r.b1 = 0 := by
  obtain ⟨r, hr, hk, hl, h0, h1⟩ := K.tree.root
  have hm : r.ent ∈ R.k.L := by rw [← K.L]; exact List.mem_map_of_mem (List.mem_of_getElem? hr)
  have := qiw K hm
  rw [show r.ent.key = [] from hk] at this
  exact ⟨r.ent, hm, hk, hl, this, h0, h1⟩
def nomK (R : KR) (s : Bs) : Nat → Int × Int
  | 0 => (0, 0)
  | k + 1 => ((nomK R s k).1 + (if inB (qaa (R.paths.getD k [])) s then es0 (qai R.k.L (qaa (R.paths.getD k []))) else 0), (nomK R s k).2 + (if inB (qaa (R.paths.getD k [])) s then es1 (qai R.k.L (qaa (R.paths.getD k []))) else 0))
theorem q0r {α : Type} {l : List α} (h : l.length = 8) : ∃ a b c d e f g i, l = [a, b, c, d, e, f, g, i] := by
  match l, h with
  | [a, b, c, d, e, f, g, i], _ => exact ⟨a, b, c, d, e, f, g, i, rfl⟩
theorem qvx (K : KInv nodes R.k) (I : RunI n R) (s : Bs) : nomK R s 5 = (es0 (qai R.k.L s), es1 (qai R.k.L s)) := by
  obtain ⟨a, b, c, d, e, f, g, i, hl⟩ := q0r I.len
  have hp := qsj K I
  have hr : (entK R.k.L []).leaf = false := by
    obtain ⟨r, _, _, h3, h4, _⟩ := qpq K
    unfold entK; rw [h4]; exact h3
  have E := fun i p h => qsi K I (i := i) (p := p) h
  rw [hl] at hp
  have q0 := E 0 a (by rw [hl]; rfl)
  have q1 := E 1 b (by rw [hl]; rfl)
  have q2 := E 2 c (by rw [hl]; rfl)
  have q3 := E 3 d (by rw [hl]; rfl)
  have q4 := E 4 e (by rw [hl]; rfl)
  have q5 := E 5 f (by rw [hl]; rfl)
  have q6 := E 6 g (by rw [hl]; rfl)
  have q7 := E 7 i (by rw [hl]; rfl)
  clear E
  have z0 : es0 (qai R.k.L s) = _ := (qsm (hp.filter _)).trans (qqd _ _)
  have z1 : es1 (qai R.k.L s) = _ := (qsn (hp.filter _)).trans (qqe _ _)
  rw [z0, z1]
  have o : ∀ x : Ent, es0 [x] = x.n0 ∧ es1 [x] = x.n1 := fun x => by simp [es0, es1]
  simp only [nomK, hl, List.getD, List.getElem?_cons_zero, List.getElem?_cons_succ, Option.getD_some, q0.2.2.2 (by omega), q1.2.2.2 (by omega), q2.2.2.2 (by omega), q3.2.2.2 (by omega), q4.2.2.2 (by omega), List.map_cons, List.map_nil, List.sum_cons, List.sum_nil, hr, q0.2.1, q1.2.1, q2.2.1, q3.2.1, q4.2.1, q0.2.2.1, q1.2.2.1, q2.2.2.1, q3.2.2.1, q4.2.2.1, q5.2.2.1, q6.2.2.1, q7.2.2.1, (o _).1, (o _).2]
  simp
  constructor <;> omega
def keyI (R : KR) : Nat → List Bs
  | 0 => []
  | i + 1 => R.paths.getD i []
theorem qs6 (h : qau F W rb R) (K : KInv nodes R.k) (I : RunI n R) {i : Nat} (hi : i ≤ 8) : ∃ x, x ∈ R.k.L ∧ x.key = keyI R i ∧ x.leaf = decide (1 ≤ i ∧ i ≤ 5) ∧ (sb (qaa (keyI R i))).size ≤ 2000000 ∧ ∀ Wx, Below W.heap.size W Wx → Calls Tryz.prog 19 #[.pointer (some ⟨rb, 0, none⟩), .int .i64 ((i : Int) - 1)] Wx (qpz R x Wx) := by
  match i, hi with
  | 0, _ =>
    obtain ⟨r, h1, h2, h3, h4, _⟩ := qpq K
    refine ⟨r, h1, h2, h3, by show (sb (qaa [])).size ≤ _; decide, fun Wx hb => ?_⟩
    exact qn6 (h.below hb) h4 h2
  | i + 1, hi =>
    obtain ⟨p, hp⟩ : ∃ p, R.paths[i]? = some p := ⟨_, List.getElem?_eq_getElem (by rw [I.len]; omega)⟩
    obtain ⟨hpk, hp0, hp4, m, hm, hfe, hmk, hml⟩ := I.path K hp
    have hk : keyI R (i + 1) = p := by simp [keyI, List.getD, hp]
    refine ⟨m.ent, by rw [← K.L]; exact List.mem_map_of_mem hm, hmk.trans hk.symm, ?_, by rw [hk]; exact I.small K hp, fun Wx hb => ?_⟩
    · show m.leaf = _
      rw [hml]
      simp; omega
    · have := qzh (h.below hb) hp hpk (I.small K hp) (by rw [I.len]; omega) hfe hmk
      rw [show ((i + 1 : Nat) : Int) - 1 = i by omega]
      exact this
end
end Go.Proofs.YtphclnolomgjoaaGreatDoor
namespace Go.Proofs.YtphclnolomgjoaaGreatDoor
open Go.RowKit
section
variable {F : Nat → Prop} {W : World} {rb : Nat} {R : KR} {n : Nat} {nodes : List Node}
theorem Hid.mk' {p : Prop} (h : p) : Hid p := h
def Told (R : KR) (pth : ByteArray) (lf : Bool) (N0 N1 b0 b1 U0 U1 : Int) (nw : Nat) (i : Int) (rb : Nat) (W : World) : Prop := ∀ Wx, Below W.heap.size W Wx → Calls Tryz.prog 19 #[.pointer (some ⟨rb, 0, none⟩), .int .i64 i] Wx fun e w1 => ∃ a1 c1, e = .returned (.tuple #[.agg #[.string pth, .bool lf, .int .i64 N0, .int .i64 N1, .int .i64 b0, .int .i64 b1, .int .i64 U0, .int .i64 U1, .slice a1 nw c1], .bool true]) ∧ Below Wx.heap.size Wx w1
theorem quf {x : Ent} {i : Int} (h : ∀ Wx, Below W.heap.size W Wx → Calls Tryz.prog 19 #[.pointer (some ⟨rb, 0, none⟩), .int .i64 i] Wx (qpz R x Wx)) : Told R (sb (qaa x.key)) x.leaf (es0 (qai R.k.L (qaa x.key))) (es1 (qai R.k.L (qaa x.key))) x.b0 x.b1 (ws0 (qae R.k.Ws (qaa x.key))) (ws1 (qae R.k.Ws (qaa x.key))) (R.k.waits x).length i rb W := fun Wx hb => by
  refine (h Wx hb).mono ?_
  rintro e w3 ⟨v, rfl, g1, g2, g3⟩
  obtain ⟨a1, c1, rfl, _, _⟩ := qa7 g1
  exact ⟨a1, c1, rfl, g2⟩
theorem qrm (h : qau F W rb R) (I : RunI n R) {k : Nat} (hk : k ≤ 8) : ∃ (pth : ByteArray) (lf : Bool) (N0 N1 b0 b1 U0 U1 : Int) (nw : Nat) (u : Nat → Int × Int), Told R pth lf N0 N1 b0 b1 U0 U1 nw ((k : Int) - 1) rb W ∧
    (∀ Wx, Below W.heap.size W Wx → Calls Tryz.prog 45 #[.pointer (some ⟨rb, 0, none⟩), .string pth] Wx fun e w' => e = .returned (.agg #[.int .i64 U0, .int .i64 U1]) ∧ Below Wx.heap.size Wx w') ∧
    u 0 = (0, 0) ∧ u 5 = (N0, N1) ∧ lf = decide (1 ≤ k ∧ k ≤ 5) ∧ U0 ≤ N0 + b0 ∧ U1 ≤ N1 + b1 ∧ ((0 ≤ N0 ∧ N0 ≤ 20000) ∧ (0 ≤ N1 ∧ N1 ≤ 20000) ∧ (0 ≤ b0 ∧ b0 ≤ 1000) ∧ (0 ≤ b1 ∧ b1 ≤ 1000) ∧ (0 ≤ U0 ∧ U0 ≤ 24000) ∧ (0 ≤ U1 ∧ U1 ≤ 24000)) ∧
    (∀ j : Nat, j ≤ 5 → (0 ≤ (u j).1 ∧ (u j).1 ≤ 100000) ∧ (0 ≤ (u j).2 ∧ (u j).2 ≤ 100000)) ∧
    (∀ j : Nat, j < 5 → ∃ (pj : ByteArray) (lj is : Bool) (M0 M1 e0 e1 V0 V1 : Int) (nj : Nat), Told R pj lj M0 M1 e0 e1 V0 V1 nj (j : Int) rb W ∧ (∀ w, Calls Tryz.prog 35 #[.string pj, .string pth] w fun e w' => e = .returned (.bool is) ∧ w' = w) ∧ ((0 ≤ M0 ∧ M0 ≤ 20000) ∧ (0 ≤ M1 ∧ M1 ≤ 20000)) ∧ (u (j + 1)).1 = (u j).1 + (if is then M0 else 0) ∧ (u (j + 1)).2 = (u j).2 + (if is then M1 else 0)) := by
  obtain ⟨nodes, K⟩ := h.kinv
  obtain ⟨x, hx, hxk, hxl, hsz, hq⟩ := qs6 h K I hk
  have hbn := qiu K.tree.ents
  rw [K.L] at hbn
  have hbw := qyf K.inv.wks.wks (qaa x.key)
  have hnb := I.nb x hx
  have hxb : (0 ≤ x.b0 ∧ x.b0 ≤ 1000) ∧ (0 ≤ x.b1 ∧ x.b1 ≤ 1000) := by
    rw [← K.L] at hx
    obtain ⟨m, hm, rfl⟩ := List.mem_map.1 hx
    exact ⟨(K.tree.num m hm).2.2.1, (K.tree.num m hm).2.2.2.1⟩
  have hsz' : (sb (qaa x.key)).size ≤ 2000000 := by rw [hxk]; exact hsz
  have hn0 : ∀ j, 0 ≤ (nomK R (qaa x.key) j).1 ∧ (nomK R (qaa x.key) j).1 ≤ 20000 * j ∧ 0 ≤ (nomK R (qaa x.key) j).2 ∧ (nomK R (qaa x.key) j).2 ≤ 20000 * j := fun j => by
    induction j with
    | zero => simp [nomK]
    | succ j ih =>
      have := hbn (qaa (R.paths.getD j []))
      simp only [nomK]
      split <;> omega
  refine ⟨_, _, _, _, _, _, _, _, _, nomK R (qaa x.key), quf hq, fun Wx hb => ?_, rfl, qvx K I _, hxl, hnb.1, hnb.2, ⟨(hbn _).1, (hbn _).2, hxb.1, hxb.2, hbw.1, hbw.2⟩, fun j hj => ?_, fun j hj => ?_⟩
  · have := qzj (h.below hb) I (sb (qaa x.key)) hsz'
    rw [qbs] at this
    exact this
  · have := hn0 j; omega
  · obtain ⟨y, hy, hyk, hyl, hysz, hyq⟩ := qs6 h K I (i := j + 1) (by omega)
    rw [show ((j + 1 : Nat) : Int) - 1 = j by omega] at hyq
    have hin := fun w => qph (sb (qaa y.key)) (sb (qaa x.key)) w (by rw [hyk]; exact hysz) hsz'
    rw [qbs, qbs] at hin
    refine ⟨_, _, _, _, _, _, _, _, _, _, quf hyq, hin, ⟨(hbn _).1, (hbn _).2⟩, ?_, ?_⟩
    · rw [hyk]; rfl
    · rw [hyk]; rfl
set_option maxRecDepth 100000 in
set_option maxHeartbeats 4000000 in
theorem q0p (h : qau F W rb R) (I : RunI n R) : Calls Tryz.prog 18 #[.pointer (some ⟨rb, 0, none⟩)] W fun e w' => e = .returned (.bool true) ∧ Below W.heap.size W w' := by
  have HR := Hid.mk' (fun (k : Nat) (hk : k ≤ 8) => qrm h I hk)
  obtain ⟨P, bt, vp, vw, vl, h⟩ := h
  obtain ⟨ap, cp, hvp, hcp1, hcp2⟩ := qa7 h.prow
  have c1 := h.at_.cell 1
  simp only [List.getElem?_toArray, List.getElem?_cons_zero, List.getElem?_cons_succ] at c1
  rw [hvp, I.len] at c1
  have hrl := h.at_.lt
  clear h I hvp hcp1 hcp2
  go_enter Tryz.func18, Tryz.ntmps18
  go_wp2
  go_loopw [3] (fun i wr => ∃ k : Nat, k ≤ 9 ∧ i = .int .i64 ((k : Int) - 1) ∧ Below W.heap.size W wr) (fun i _ => (8 - intOf i).toNat)
  case atStart => exact ⟨0, by omega, rfl, Below.refl _ _⟩
  case round =>
    obtain ⟨k, hk, rfl, hB⟩ := hrel
    have r1 := (hB.cell (p := ⟨rb, 1, none⟩) hrl).trans c1
    by_cases hlt : k < 9
    · obtain ⟨pth, lf, N0, N1, b0, b1, U0, U1, nw, u, hq, hu, hu0, hu5, hlf, hU0, hU1, ⟨n0, n1, n2, n3, n4, n5⟩, hub, hin⟩ := HR.out k (by omega)
      have HIN := Hid.mk' hin
      have HUB := Hid.mk' hub
      have HLF := Hid.mk' hlf
      clear hin HR hub hlf
      have hki : (k : Int) - 1 < 8 := by omega
      go_upto_region 10 with (first
        | (go_at_call 19; refine (hq _ hB).mono ?_; rintro e w1 ⟨a1, c1', rfl, hb1⟩; have hB1 := hB.trans (hb1.mono hB.size))
        | (go_at_call 45; refine (hu _ (hB1.alloc hB1.size _)).mono ?_; rintro e w2 ⟨rfl, hb2⟩))
      have hl1 : w1.heap.size < w2.heap.size := by have := hb2.size; simp at this; omega
      have hl0 : W.heap.size ≤ w1.heap.size := hB1.size
      obtain ⟨W5, hW5⟩ : ∃ W5, W5 = (w2.alloc (.cells #[.int .i64 U0, .int .i64 U1] 35)).alloc (.cells #[.int .i64 0, .int .i64 0] 35) := ⟨_, rfl⟩
      have bq : Blk W5 w1.heap.size 37 #[.string pth, .bool lf, .int .i64 N0, .int .i64 N1, .int .i64 b0, .int .i64 b1, .int .i64 U0, .int .i64 U1, .slice a1 nw c1'] := by
        rw [hW5]; exact (((Blk.new w1 37 _).below hb2 (by simp)).alloc _).alloc _
      have bu : Blk W5 w2.heap.size 35 #[.int .i64 U0, .int .i64 U1] := by rw [hW5]; exact blk2
      have bn : Blk W5 (w2.heap.size + 1) 35 #[.int .i64 0, .int .i64 0] := by rw [hW5]; exact blk2
      have hB2 : Below W.heap.size W w2 := (hB1.alloc hB1.size _).trans (hb2.mono (by simp; omega))
      have hB5 : Below W.heap.size W W5 := by rw [hW5]; exact (hB2.alloc hB2.size _).alloc (by simp; have := hB2.size; omega) _
      rw [← hW5]
      clear hW5 hb2 hb1 hB2 hB1 hq hu r1
      generalize w1.heap.size = g1 at *
      generalize w2.heap.size = g2 at *
      go_loopw [8] (fun i wx => ∃ j : Nat, j ≤ 5 ∧ i = .int .i64 j ∧ Blk wx (g2 + 1) 35 #[.int .i64 (u j).1, .int .i64 (u j).2] ∧ Keep (fun b => b = g2 + 1) W5 wx) (fun i _ => 5 - (intOf i).toNat)
      case atStart => exact ⟨0, by omega, rfl, by rw [hu0]; exact bn, Keep.refl _ _⟩
      case round =>
        obtain ⟨j, hj, rfl, hbn, hKx⟩ := hrel
        have hBr : Below W.heap.size W wr := hB5.trans (hKx.toBelow hB5.size (fun b hb e => by omega))
        have bq' := bq.keep hKx (by omega)
        have bu' := bu.keep hKx (by omega)
        have hlq := bq'.lt
        have hlb := hbn.lt
        have y0 := bq'.cell 0
        simp only [List.getElem?_toArray, List.getElem?_cons_zero, List.getElem?_cons_succ] at y0
        by_cases hj5 : j < 5
        · obtain ⟨pj, lj, is, M0, M1, e0, e1, V0, V1, nj, hq, hbl, ⟨m0, m1⟩, s0, s1⟩ := HIN.out j hj5
          obtain ⟨v0, v1⟩ := HUB.out j hj
          have HS := Hid.mk' (And.intro s0 s1)
          clear s0 s1
          have hji : (j : Int) < 5 := by omega
          have HBN := Hid.mk' hbn
          clear hbn
          generalize (u j).1 = f0 at *
          generalize (u j).2 = f1 at *
          go_upto_region 13 with (go_at_call 19; refine (hq _ hBr).mono ?_; rintro e w6 ⟨a6, c6, rfl, hb6⟩)
          have hl6 := hb6.size
          obtain ⟨W7, hW7⟩ : ∃ W7, W7 = w6.alloc (.cells #[.string pj, .bool lj, .int .i64 M0, .int .i64 M1, .int .i64 e0, .int .i64 e1, .int .i64 V0, .int .i64 V1, .slice a6 nj c6] 37) := ⟨_, rfl⟩
          have b7 : Blk W7 w6.heap.size 37 #[.string pj, .bool lj, .int .i64 M0, .int .i64 M1, .int .i64 e0, .int .i64 e1, .int .i64 V0, .int .i64 V1, .slice a6 nj c6] := by rw [hW7]; exact Blk.new w6 37 _
          have hB7 : Below wr.heap.size wr W7 := by rw [hW7]; exact hb6.alloc hl6 _
          rw [← hW7]
          clear hW7 hb6 hq
          have bn7 := HBN.out.below hB7 (by omega)
          have bq7 := bq'.below hB7 (by omega)
          have hK7 : Keep (fun b => b = g2 + 1) W5 W7 := hKx.trans (Keep.new hB7)
          generalize w6.heap.size = g6 at *
          have x0 := b7.cell 0
          have x2 := b7.cell 2
          have x3 := b7.cell 3
          have z0 := bq7.cell 0
          have d0 := bn7.cell 0
          have d1 := bn7.cell 1
          have t0 := bn7.frozen 0
          have t1 := bn7.frozen 1
          simp only [List.getElem?_toArray, List.getElem?_cons_zero, List.getElem?_cons_succ] at x0 x2 x3 z0 d0 d1
          have hg6 : ¬ (g6 = g2 + 1) := by omega
          have hg1 : ¬ (g1 = g2 + 1) := by omega
          clear bq7
          cases is
          · go_wp2_with (go_at_call 35; refine (hbl _).mono ?_; rintro e wz ⟨rfl, hwz⟩; subst hwz)
            refine ⟨⟨j + 1, by omega, by go_num, ?_, hK7⟩, by simp [intOf]; omega⟩
            rw [HS.out.1, HS.out.2]
            simpa using bn7
          · go_wp2_with (go_at_call 35; refine (hbl _).mono ?_; rintro e wz ⟨rfl, hwz⟩; subst hwz)
            refine ⟨⟨j + 1, by omega, by go_num, ?_, (hK7.setCell (p := ⟨g2 + 1, 0, none⟩) rfl _).setCell (p := ⟨g2 + 1, 1, none⟩) rfl _⟩, by simp [intOf]; omega⟩
            rw [HS.out.1, HS.out.2]
            have := (bn7.set 0 (.int .i64 (f0 + M0))).set 1 (.int .i64 (f1 + M1))
            simpa using this
        · have hj5' : j = 5 := by omega
          subst hj5'
          rw [hu5] at hbn
          have y1 := bq'.cell 1
          have y2 := bq'.cell 2
          have y3 := bq'.cell 3
          have y4 := bq'.cell 4
          have y5 := bq'.cell 5
          have y6 := bq'.cell 6
          have y7 := bq'.cell 7
          have x0 := bu'.cell 0
          have x1 := bu'.cell 1
          have d0 := hbn.cell 0
          have d1 := hbn.cell 1
          simp only [List.getElem?_toArray, List.getElem?_cons_zero, List.getElem?_cons_succ] at y1 y2 y3 y4 y5 y6 y7 x0 x1 d0 d1
          have hkc : (lf = true ∧ (0 : Int) ≤ (k : Int) - 1 ∧ (k : Int) - 1 < 5) ∨ (lf = false ∧ ¬ ((0 : Int) ≤ (k : Int) - 1)) ∨ (lf = false ∧ (0 : Int) ≤ (k : Int) - 1 ∧ ¬ ((k : Int) - 1 < 5)) := by
            rw [HLF.out]; simp; omega
          clear HIN HUB HLF
          have heq : ∀ (a b : Int) W, (Op.equalIn 10000 35 (.agg #[.int .i64 a, .int .i64 b]) (.agg #[.int .i64 a, .int .i64 b])).run Tryz.prog W = .ok true W := fun a b W => by
            have := eq35 9998 a b a b W
            simpa using this
          have HQB := Hid.mk' bq'
          have hc0 : U0 ≤ N0 + b0 := hU0
          clear bq' bu' hbn
          rcases hkc with ⟨q1, q2, q3⟩ | ⟨q1, q2⟩ | ⟨q1, q2, q3⟩
          all_goals subst q1
          all_goals go_upto_region 21 with fail
          all_goals
            obtain ⟨wx0, hwx0⟩ : ∃ wx0, wx0 = wr := ⟨_, rfl⟩
            rw [← hwx0]
            go_loopw [13] (fun i wx => ∃ j : Nat, j ≤ 2 ∧ i = .int .i64 j ∧ ∃ m, wx = wr.drewN m) (fun i _ => 2 - (intOf i).toNat)
            case atStart => exact ⟨0, by omega, rfl, 0, by rw [hwx0]; rfl⟩
            case round =>
              obtain ⟨j, hj2, rfl, m, rfl⟩ := hrel
              have bqm := HQB.out.drewN m
              have z2 := bqm.cell 2
              have z3 := bqm.cell 3
              have z4 := bqm.cell 4
              have z5 := bqm.cell 5
              have z6 := bqm.cell 6
              have z7 := bqm.cell 7
              simp only [List.getElem?_toArray, List.getElem?_cons_zero, List.getElem?_cons_succ] at z2 z3 z4 z5 z6 z7
              have w0 : IntKind.i64.wrap (N0 + b0) = N0 + b0 := by rw [IntKind.wrap_i64]; omega
              have w1' : IntKind.i64.wrap (N1 + b1) = N1 + b1 := by rw [IntKind.wrap_i64]; omega
              rcases (show j = 0 ∨ j = 1 ∨ j = 2 by omega) with rfl | rfl | rfl
              · have hng : ¬ (N0 + b0 < U0) := by omega
                go_upto_region 23 with fail
                go_quiet (fail)
                go_wp2_with fail
                exact ⟨⟨1, by omega, rfl, m + nq, rfl⟩, by simp [intOf]⟩
              · have hng : ¬ (N1 + b1 < U1) := by omega
                go_upto_region 23 with fail
                go_quiet (fail)
                go_wp2_with fail
                exact ⟨⟨2, by omega, rfl, m + nq, rfl⟩, by simp [intOf]⟩
              · go_wp2_with fail
                refine ⟨⟨k + 1, by omega, by go_num, below_drewN hBr _⟩, ?_⟩
                simp [intOf]
                omega
    · have hki : ¬ ((k : Int) - 1 < 8) := by omega
      go_wp2_with fail
      go_ret
      exact ⟨rfl, hB⟩
end
end Go.Proofs.YtphclnolomgjoaaGreatDoor
