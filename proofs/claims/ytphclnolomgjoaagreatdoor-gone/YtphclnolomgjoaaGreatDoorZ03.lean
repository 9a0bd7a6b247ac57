import Derived.Test.YtphclnolomgjoaaGreatDoorZ02
import Derived.Test.YtphclnolomgjoaaGreatDoorB37
import Derived.Test.YtphclnolomgjoaaGreatDoorZ01
set_option linter.unusedVariables false
set_option linter.unusedSimpArgs false
namespace Go.Proofs.YtphclnolomgjoaaGreatDoor
open Go.RowKit
section
variable {F : Nat → Prop} {W w' : World} {rb : Nat} {R : KR} {P : Nat → Prop} {bt : Nat} {vp vw vl : Value}
set_option maxRecDepth 100000 in
set_option maxHeartbeats 4000000 in
theorem kfinishB (h : RunB bt F W rb R) {i : Nat} {x : KW} (hi : R.works[i]? = some x) (hn24 : R.works.length ≤ 24) (hst : 0 ≤ R.qav ∧ R.qav ≤ 1000000) {o : Out} (ho : R.k.finish x.num = o) (he : o.err = 0) (hm : o.evs.length ≤ 1000) {ws' : List KW} {st' : Int} (htk : qdj (R.works.take i ++ R.works.drop (i + 1), R.qav) o.evs = some (ws', st')) :
    Calls Tryz.prog 42 #[.pointer (some ⟨rb, 0, none⟩), .int .i64 i] W fun e w' => e = .returned (.bool true) ∧ RunB bt F w' rb ⟨o.ks, R.paths, ws', st', o.evs⟩ ∧ Keep (fun b => ¬ F b) W w' := by
  obtain ⟨P, vp, vw, vl, h⟩ := h
  obtain ⟨gw, cw, hvw, hgl, hgne, hcw1, hcw2, q0, _⟩ := h.tk.cells hi
  have hil := (List.getElem?_eq_some_iff.1 hi).1
  have hz := h.size
  have hPlt := h.tw.lt
  obtain ⟨n, hn⟩ : ∃ n, n = R.works.length := ⟨_, rfl⟩
  rw [← hn] at hvw hcw1 hil hn24
  have HN : Hid (n = R.works.length) := hn
  have hfin : ∀ Wx, Below W.heap.size W Wx → Calls Tryz.prog 28 #[.pointer (some ⟨bt, 0, none⟩), .int .i64 x.num] Wx fun e w1 => ∃ a1 c1 P1, e = .returned (.tuple #[.slice a1 o.evs.length c1, .int .i64 0]) ∧ Blk w1 rb 50 #[.pointer (some ⟨bt, 0, none⟩), vp, vw, .int .i64 R.qav, vl] ∧ w1.cell? ⟨gw, i * 6, none⟩ = some (.int .i64 x.num) ∧
      Hid (RunM F w1 rb { R with k := o.ks } P1 bt vp vw vl ∧ w1.ownsRow 0 60 2 (.slice a1 o.evs.length c1) o.evs.length (qam o.evs) ∧ (∀ b, (Value.slice a1 o.evs.length c1).ownBlock = some b → W.heap.size ≤ b ∧ ¬ P1 b) ∧ Keep (fun b => ¬ F b) W w1 ∧ W.heap.size ≤ w1.heap.size) := fun Wx hb => by
    have hx := h.below hb
    refine (qpg hx.tw x.num).mono ?_
    rw [ho, he]
    rintro e w1 ⟨ev, rfl, hO⟩
    obtain ⟨P1, g1, g2, g3, g4⟩ := hx.called hO
    obtain ⟨a1, c1, rfl, _, _⟩ := qa7 g2
    obtain ⟨_, _, e1, _, _, _, _, q1, _⟩ := g1.tk.cells (k := i) (x := x) hi
    have e1' := hvw.symm.trans e1
    injection e1' with e2
    injection e2 with e2
    injection e2 with e2
    subst e2
    obtain ⟨_, _, _, _, _, k5⟩ := hO
    exact ⟨a1, c1, P1, rfl, g1.at_, q1, g1, g2, fun b hb' => ⟨Nat.le_trans hb.size (g3 b hb').1, (g3 b hb').2⟩, (Keep.new hb).trans g4, Nat.le_trans hb.size k5.size⟩
  have hcl : ∀ (w1 : World) (P1 : Nat → Prop), RunM F w1 rb { R with k := o.ks } P1 bt vp vw vl → ∀ Wx, Below w1.heap.size w1 Wx → ∀ j u, (qak R.works)[j]? = some u → Wx.cell? ⟨gw, j, none⟩ = some u := fun w1 P1 hR Wx hW j u hu => by
    have h1 := hR.wrow
    rw [hvw] at h1
    have := h1.cells (g := gw) rfl j u hu
    rw [Addr.add_lit, Nat.zero_add] at this
    exact (hW.cell (p := ⟨gw, j, none⟩) (qap h1 rfl)).trans this
  have ap1 : ∀ (w1 : World) (P1 : Nat → Prop), Hid (RunM F w1 rb { R with k := o.ks } P1 bt vp vw vl) → ∃ v' w', (∀ ty, (Builtin.append_ #[47, 47] ty #[.slice none 0 0, .slice (some ⟨gw, 0, none⟩) i cw]).run Tryz.prog w1 = .ok v' w') ∧ ∃ a' cap', v' = .slice a' i cap' ∧ AppO w1 (Value.slice none 0 0).ownBlock 41 6 i (qak (R.works.take i)) a' cap' w' := fun w1 P1 hR => by
    have := qr1 un47 qxn (by omega) w1 none 0 0 (Nat.le_refl _) (Nat.zero_le _) [] (World.ownsRow_nil _ _ _ _) (some ⟨gw, 0, none⟩) i cw (qak (R.works.take i)) (by rw [qh0, List.length_take]; rw [Nat.min_eq_left (by omega)])
      (fun _ => ⟨_, rfl, fun j u hu => by
        rw [Addr.add_lit, Nat.zero_add]
        refine hcl w1 P1 hR.out w1 (Below.refl _ _) j u ?_
        rw [qvo] at hu
        rw [List.getElem?_take] at hu
        split at hu
        · exact hu
        · cases hu⟩) (qn7 _) (by unfold maxLen; omega) (by omega)
    simpa only [Nat.zero_add, List.nil_append] using this
  have hb1 : ∀ (w1 : World) a1 q1 w2, AppO w1 (Value.slice none 0 0).ownBlock 41 6 i (qak (R.works.take i)) a1 q1 w2 → Below w1.heap.size w1 w2 := fun w1 a1 q1 w2 R => ⟨R.keep.os, R.keep.tape, R.keep.output, R.keep.size, fun k hk => R.keep.block k hk (by simp [Value.ownBlock])⟩
  have ap2 : ∀ (w1 : World) (P1 : Nat → Prop), Hid (RunM F w1 rb { R with k := o.ks } P1 bt vp vw vl) → ∀ a1 q1 w2, AppO w1 (Value.slice none 0 0).ownBlock 41 6 i (qak (R.works.take i)) a1 q1 w2 → ∀ (x2 : Option Addr) (c2 : Nat), (0 < n - (i + 1) → x2 = some ⟨gw, (i + 1) * 6, none⟩) →
      ∃ v' w', (∀ ty, (Builtin.append_ #[47, 47] ty #[.slice a1 i q1, .slice x2 (n - (i + 1)) c2]).run Tryz.prog w2 = .ok v' w') ∧ ∃ a' cap', v' = .slice a' (i + (n - (i + 1))) cap' ∧ AppO w2 (Value.slice a1 i q1).ownBlock 41 6 (i + (n - (i + 1))) (qak (R.works.take i) ++ qak (R.works.drop (i + 1))) a' cap' w' :=
    fun w1 P1 hR a1 q1 w2 RR x2 c2 hx2 => qr1 un47 qxn (by omega) w2 a1 i q1 RR.le RR.mx _ RR.own x2 (n - (i + 1)) c2 (qak (R.works.drop (i + 1))) (by rw [qh0, List.length_drop, ← HN.out])
      (fun hm => ⟨_, hx2 hm, fun j u hu => by
        rw [qvn, List.getElem?_drop] at hu
        rw [Addr.add_lit]
        exact hcl w1 P1 hR.out w2 (hb1 _ _ _ _ RR) _ u hu⟩) (qn7 _) (by unfold maxLen; omega) (by omega)
  have hpost : ∀ (w1 : World) (P1 : Nat → Prop) (ae : Option Addr) (ce : Nat), Hid (RunM F w1 rb { R with k := o.ks } P1 bt vp vw vl ∧ w1.ownsRow 0 60 2 (.slice ae o.evs.length ce) o.evs.length (qam o.evs) ∧ (∀ b, (Value.slice ae o.evs.length ce).ownBlock = some b → W.heap.size ≤ b ∧ ¬ P1 b) ∧ Keep (fun b => ¬ F b) W w1 ∧ W.heap.size ≤ w1.heap.size) → ∀ a1 q1 w2 a2 q2 w3, AppO w1 (Value.slice none 0 0).ownBlock 41 6 i (qak (R.works.take i)) a1 q1 w2 → AppO w2 (Value.slice a1 i q1).ownBlock 41 6 (i + (n - (i + 1))) (qak (R.works.take i) ++ qak (R.works.drop (i + 1))) a2 q2 w3 →
      Hid (Calls Tryz.prog 48 #[.pointer (some ⟨rb, 0, none⟩), .slice ae o.evs.length ce] (w3.setCell ⟨rb, 2, none⟩ (.slice a2 (i + (n - (i + 1))) q2)) fun e w4 => e = .returned (.bool true) ∧ Hid (RunB bt F w4 rb ⟨o.ks, R.paths, ws', st', o.evs⟩ ∧ Keep (fun b => ¬ F b) W w4)) ∧ Blk w3 rb 50 #[.pointer (some ⟨bt, 0, none⟩), vp, vw, .int .i64 R.qav, vl] := fun w1 P1 ae ce hH a1 q1 w2 a2 q2 w3 R1 R2 => by
    obtain ⟨g1, g2, g3, g4, g5⟩ := hH.out
    have hB1 := hb1 _ _ _ _ R1
    have hz1 := g1.size
    have hnew1 : ∀ y, (Value.slice a1 i q1).ownBlock = some y → w1.heap.size ≤ y := fun y hy => by
      rcases R1.new y hy with e | e
      · simp [Value.ownBlock] at e
      · exact e
    have hB2 : Below w1.heap.size w1 w3 := hB1.trans ⟨R2.keep.os, R2.keep.tape, R2.keep.output, R2.keep.size, fun k hk => R2.keep.block k (by have := hB1.size; omega) (fun e => by have := hnew1 k e; omega)⟩
    have hnew2 : ∀ y, (Value.slice a2 (i + (n - (i + 1))) q2).ownBlock = some y → w1.heap.size ≤ y := fun y hy => by
      rcases R2.new y hy with e | e
      · exact hnew1 y e
      · have := hB1.size; omega
    have hlen : (R.works.take i ++ R.works.drop (i + 1)).length = i + (n - (i + 1)) := by
      have := HN.out
      simp; omega
    have hk : Keep (fun y => y = rb) w1 (w3.setCell ⟨rb, 2, none⟩ (.slice a2 (i + (n - (i + 1))) q2)) := (Keep.new (T := fun y => y = rb) hB2).setCell (p := ⟨rb, 2, none⟩) rfl _
    have hb3 := g1.at_.below hB2 hz1.2
    have hM := g1.setw (works := R.works.take i ++ R.works.drop (i + 1)) hk (by have := hb3.set 2 (.slice a2 (i + (n - (i + 1))) q2); simpa using this) (by rw [hlen, qfi]; exact ownsRow_setCell_other R2.own (fun e => by have := hnew2 _ e; simp at this; omega) _) hnew2
    have hev : ∀ b, (Value.slice ae o.evs.length ce).ownBlock = some b → ¬ F b ∧ ¬ P1 b ∧ b ≠ rb ∧ vp.ownBlock ≠ some b ∧ (Value.slice a2 (i + (n - (i + 1))) q2).ownBlock ≠ some b := fun b hb => by
      have h1 := g3 b hb
      have h2 := qap g2 hb
      refine ⟨fun e => by have := h.fo b e; omega, h1.2, by omega, fun e => ?_, fun e => ?_⟩
      · have := qap h.prow e; omega
      · have := hnew2 b e; omega
    refine ⟨?_, hb3⟩
    refine (hM.takes (qaf g2 hk (fun b hb e => (hev b hb).2.2.1 e)) hev (by rw [hlen]; omega) hm hst htk).mono ?_
    rintro e w4 ⟨rfl, t1, t2⟩
    exact ⟨rfl, ⟨_, _, _, _, t1⟩, (g4.trans (hk.mono (fun b e => by rw [e]; exact hz.1))).trans t2⟩
  have c0 := h.at_.cell 0
  have c2 := h.at_.cell 2
  simp only [List.getElem?_toArray, List.getElem?_cons_zero, List.getElem?_cons_succ] at c0 c2
  rw [hvw] at c2
  have hii : (i : Int) < n := by omega
  have hi0 : (0 : Int) ≤ i := by omega
  have hi1 : ¬ ((i : Int) < 0) := by omega
  have hicw : (i : Int) ≤ cw := by omega
  clear htk hm he ho h hi hcl hn
  go_enter Tryz.func42, Tryz.ntmps42
  go_upto_region 1 with fail
  go_region_held3 (fun w' => w'.cell? ⟨rb, 0, none⟩ = some (.pointer (some ⟨bt, 0, none⟩)) ∧ w'.cell? ⟨rb, 2, none⟩ = some (.slice (some ⟨gw, 0, none⟩) n cw) ∧ w'.cell? ⟨gw, i * 6, none⟩ = some (.int .i64 x.num)) (go_keep)
    (first
      | (go_at_call 28; refine (hfin _ ?_).mono ?_; (focus exact bel2); rintro e w1 ⟨a1, c1', P1, rfl, hbr1, hq1, hfin1⟩; have d0 := hbr1.cell 0; have d2 := hbr1.cell 2; simp only [List.getElem?_toArray, List.getElem?_cons_zero, List.getElem?_cons_succ] at d0 d2; rw [hvw] at d2))
  clear c0 c2 hfin q0
  have hp1 := hpost w1 P1 a1 c1' hfin1
  have hR1 : Hid (RunM F w1 rb { R with k := o.ks } P1 bt vp vw vl) := hfin1.out.1
  have ap1' := ap1 w1 P1 hR1
  have ap2' := ap2 w1 P1 hR1
  clear ap1 ap2 hpost
  go_upto_region 4 with (at_builtin; refine qbd (by rfl) _ _ _ _ rfl _ _ rfl (by rfl) ap1' ?_; rintro v1 w2 ⟨a2, q2, rfl, R1⟩)
  have hB1 := hb1 _ _ _ _ R1
  have e2 := (hB1.cell (p := ⟨rb, 2, none⟩) hbr1.lt).trans d2
  have hap2 := ap2' _ _ _ R1
  have hp2 := fun a3 q3 w3 => hp1 _ _ _ a3 q3 w3 R1
  have hq1 := R1.le
  have hq2 := R1.mx
  clear ap1' ap2' hb1 hp1 d0 d2 hfin1 hR1
  by_cases hcap : i + 1 = cw
  · have hap3 := hap2 (some ⟨gw, 0, none⟩) 0 (fun h => by omega)
    have hn0 : n - (i + 1) = 0 := by omega
    have hni : n = i + 1 := by omega
    subst hcap
    rw [hn0] at hap3
    rw [hn0] at hp2
    rw [Nat.add_zero] at hap3 hp2
    clear hap2 hn0
    go_wp2_with (first
      | (at_builtin; refine qbd (by rfl) _ _ _ _ rfl _ _ rfl (by rfl) hap3 ?_; rintro v2 w3 ⟨a3, q3, rfl, R2⟩; obtain ⟨hcall, hb3⟩ := hp2 _ _ _ R2; have f3 := hb3.frozen 2; have z3 := hb3.cell 2; simp only [List.getElem?_toArray, List.getElem?_cons_zero, List.getElem?_cons_succ] at z3)
      | (go_at_call 48; refine hcall.out.mono ?_; rintro e w4 ⟨rfl, hend⟩))
    go_ret
    exact ⟨rfl, hend.out⟩
  · have hcap' : ¬ ((i : Int) + 1 = cw) := by omega
    have hap3 := hap2 (some ⟨gw, (i + 1) * 6, none⟩) (cw - (i + 1)) (fun _ => rfl)
    clear hap2
    go_wp2_with (first
      | (at_builtin; refine qbd (by rfl) _ _ _ _ rfl _ _ rfl (by rfl) hap3 ?_; rintro v2 w3 ⟨a3, q3, rfl, R2⟩; obtain ⟨hcall, hb3⟩ := hp2 _ _ _ R2; have f3 := hb3.frozen 2; have z3 := hb3.cell 2; simp only [List.getElem?_toArray, List.getElem?_cons_zero, List.getElem?_cons_succ] at z3)
      | (go_at_call 48; refine hcall.out.mono ?_; rintro e w4 ⟨rfl, hend⟩))
    go_ret
    exact ⟨rfl, hend.out⟩
end
end Go.Proofs.YtphclnolomgjoaaGreatDoor
