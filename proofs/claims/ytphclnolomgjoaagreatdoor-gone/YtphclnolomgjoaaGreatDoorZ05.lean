import Derived.Test.YtphclnolomgjoaaGreatDoorZ02
import Derived.Test.YtphclnolomgjoaaGreatDoorB37
import Derived.Test.YtphclnolomgjoaaGreatDoorZ01
set_option linter.unusedVariables false
set_option linter.unusedSimpArgs false
namespace Go.Proofs.YtphclnolomgjoaaGreatDoor
open Go.RowKit
section
variable {F : Nat → Prop} {W w' : World} {rb : Nat} {R : KR} {P : Nat → Prop} {bt : Nat} {vp vw vl : Value}
set_option maxRecDepth 100000 in
set_option maxHeartbeats 4000000 in
theorem kmove_noB (h : RunB bt F W rb R) {i : Nat} {p : List Bs} (hp : R.paths[i]? = some p) (hps : (sb (qaa p)).size ≤ 2000000) (hpl : R.paths.length ≤ 100) (ts : ByteArray) (hts : ts.size ≤ 2000000) {o : Out} (ho : R.k.move (qaa p) (bl ts) = o) (he : o.err ≠ 0) (hev : o.evs = []) (hks : o.ks = R.k) :
    Calls Tryz.prog 44 #[.pointer (some ⟨rb, 0, none⟩), .int .i64 i, .string ts] W fun e w' => e = .returned (.bool true) ∧ RunB bt F w' rb R ∧ Keep (fun b => ¬ F b) W w' := by
  obtain ⟨P, vp, vw, vl, h⟩ := h
  obtain ⟨gp, cp, hvp, hgl, hgne, hcp1, hcp2, q0⟩ := h.path hp
  have hll := (List.getElem?_eq_some_iff.1 hp).1
  have hz := h.size
  have hcall : ∀ Wx, Below W.heap.size W Wx → Calls Tryz.prog 30 #[.pointer (some ⟨bt, 0, none⟩), .string (sb (qaa p)), .string ts] Wx fun e w1 => ∃ a1 c1, e = .returned (.tuple #[.slice a1 0 c1, .int .i64 o.err]) ∧ Blk w1 rb 50 #[.pointer (some ⟨bt, 0, none⟩), vp, vw, .int .i64 R.qav, vl] ∧ w1.cell? ⟨gp, i, none⟩ = some (.string (sb (qaa p))) ∧ Hid (RunB bt F w1 rb R ∧ Keep (fun b => ¬ F b) W w1) := fun Wx hb => by
    have hx := h.below hb
    refine (qs2 hx.tw (sb (qaa p)) ts hps hts).mono ?_
    rw [qbs, ho]
    rintro e w1 ⟨ev, rfl, hO⟩
    obtain ⟨P1, g1, g2, g3, g4⟩ := hx.called hO
    rw [hev] at g2
    obtain ⟨a1, c1, rfl, _, _⟩ := qa7 g2
    obtain ⟨_, _, e1, _, _, _, _, q1⟩ := g1.path (i := i) (p := p) hp
    have e1' := hvp.symm.trans e1
    injection e1' with e2
    injection e2 with e2
    injection e2 with e2
    subst e2
    rw [hks] at g1
    exact ⟨a1, c1, rfl, g1.at_, q1, ⟨_, _, _, _, g1⟩, (Keep.new hb).trans g4⟩
  have c0 := h.at_.cell 0
  have c1 := h.at_.cell 1
  simp only [List.getElem?_toArray, List.getElem?_cons_zero, List.getElem?_cons_succ] at c0 c1
  rw [hvp] at c1
  have hli : (i : Int) < R.paths.length := by omega
  have hli0 : (0 : Int) ≤ i := by omega
  generalize R.paths.length = np at *
  generalize o.err = er at *
  clear h hp ho hev hks
  go_enter Tryz.func44, Tryz.ntmps44
  go_upto_region 1 with fail
  go_region_held3 (fun w' => w'.cell? ⟨rb, 0, none⟩ = some (.pointer (some ⟨bt, 0, none⟩)) ∧ w'.cell? ⟨rb, 1, none⟩ = some (.slice (some ⟨gp, 0, none⟩) np cp) ∧ w'.cell? ⟨gp, i, none⟩ = some (.string (sb (qaa p)))) (go_keep)
    (first
      | (go_at_call 30; refine (hcall _ ?_).mono ?_; (focus exact bel2); rintro e w1 ⟨a1, c1', rfl, hbr1, hq1, hfin1⟩; have d0 := hbr1.cell 0; have d1 := hbr1.cell 1; simp only [List.getElem?_toArray, List.getElem?_cons_zero, List.getElem?_cons_succ] at d0 d1; rw [hvp] at d1))
  go_wp2_with fail
  go_ret
  exact ⟨rfl, hfin1.out⟩
end
end Go.Proofs.YtphclnolomgjoaaGreatDoor
namespace Go.Proofs.YtphclnolomgjoaaGreatDoor
open Go.RowKit
section
variable {F : Nat → Prop} {W w' : World} {rb : Nat} {R : KR} {P : Nat → Prop} {bt : Nat} {vp vw vl : Value}
set_option maxRecDepth 100000 in
set_option maxHeartbeats 4000000 in
theorem kmove_okB (h : RunB bt F W rb R) {i : Nat} {p tk : List Bs} (hp : R.paths[i]? = some p) (hok : ∀ q ∈ R.paths, qbx q = true ∧ q ≠ [] ∧ (sb (qaa q)).size ≤ 2000000) (hpl : R.paths.length ≤ 100) (htk0 : qbx tk = true) (hts : (sb (qaa tk)).size ≤ 2000000) (hn24 : R.works.length ≤ 24) (hst : 0 ≤ R.qav ∧ R.qav ≤ 1000000) {o : Out} (ho : R.k.move (qaa p) (qaa tk) = o) (he : o.err = 0) (hm : o.evs.length ≤ 1000) {ws' : List KW} {st' : Int} (htk : qdj (R.works, R.qav) o.evs = some (ws', st')) :
    Calls Tryz.prog 44 #[.pointer (some ⟨rb, 0, none⟩), .int .i64 i, .string (sb (qaa tk))] W fun e w' => e = .returned (.bool true) ∧ RunB bt F w' rb ⟨o.ks, R.paths.map (mvK p (tk ++ [qad p])), ws', st', o.evs⟩ ∧ Keep (fun b => ¬ F b) W w' := by
  obtain ⟨P, vp, vw, vl, h⟩ := h
  obtain ⟨gp, cp, hvp, hgl, hgne, hcp1, hcp2, q0⟩ := h.path hp
  have hll := (List.getElem?_eq_some_iff.1 hp).1
  have hz := h.size
  obtain ⟨hpk, hp0, hps⟩ := hok p (List.mem_of_getElem? hp)
  have hcall : ∀ Wx, Below W.heap.size W Wx → Calls Tryz.prog 30 #[.pointer (some ⟨bt, 0, none⟩), .string (sb (qaa p)), .string (sb (qaa tk))] Wx fun e w1 => ∃ a1 c1 P1, e = .returned (.tuple #[.slice a1 o.evs.length c1, .int .i64 0]) ∧ Blk w1 rb 50 #[.pointer (some ⟨bt, 0, none⟩), vp, vw, .int .i64 R.qav, vl] ∧ w1.cell? ⟨gp, i, none⟩ = some (.string (sb (qaa p))) ∧ gp < w1.heap.size ∧
      Hid (RunM F w1 rb { R with k := o.ks } P1 bt vp vw vl) ∧ Hid (w1.ownsRow 0 60 2 (.slice a1 o.evs.length c1) o.evs.length (qam o.evs) ∧ (∀ b, (Value.slice a1 o.evs.length c1).ownBlock = some b → W.heap.size ≤ b ∧ ¬ P1 b) ∧ Keep (fun b => ¬ F b) W w1) := fun Wx hb => by
    have hx := h.below hb
    refine (qs2 hx.tw (sb (qaa p)) (sb (qaa tk)) hps hts).mono ?_
    rw [qbs, qbs, ho, he]
    rintro e w1 ⟨ev, rfl, hO⟩
    obtain ⟨P1, g1, g2, g3, g4⟩ := hx.called hO
    obtain ⟨a1, c1, rfl, _, _⟩ := qa7 g2
    obtain ⟨_, _, e1, hgl1, _, _, _, q1⟩ := g1.path (i := i) (p := p) hp
    have e1' := hvp.symm.trans e1
    injection e1' with e2
    injection e2 with e2
    injection e2 with e2
    subst e2
    exact ⟨a1, c1, P1, rfl, g1.at_, q1, hgl1, g1, g2, fun b hb' => ⟨Nat.le_trans hb.size (g3 b hb').1, (g3 b hb').2⟩, (Keep.new hb).trans g4⟩
  have htak : ∀ (w1 w2 : World) (P1 : Nat → Prop) (a1 : Option Addr) (c1 : Nat), Hid (RunM F w1 rb { R with k := o.ks } P1 bt vp vw vl) → Hid (w1.ownsRow 0 60 2 (.slice a1 o.evs.length c1) o.evs.length (qam o.evs) ∧ (∀ b, (Value.slice a1 o.evs.length c1).ownBlock = some b → W.heap.size ≤ b ∧ ¬ P1 b) ∧ Keep (fun b => ¬ F b) W w1) → PwAt w1 vp (R.paths.map (mvK p (tk ++ [qad p]))) w2 → Calls Tryz.prog 48 #[.pointer (some ⟨rb, 0, none⟩), .slice a1 o.evs.length c1] w2 fun e w3 => e = .returned (.bool true) ∧ Hid (RunB bt F w3 rb ⟨o.ks, R.paths.map (mvK p (tk ++ [qad p])), ws', st', o.evs⟩ ∧ Keep (fun b => ¬ F b) W w3) := fun w1 w2 P1 a1 c1 hR hr hpw => by
    obtain ⟨g2, g3, g4⟩ := hr.out
    obtain ⟨m1, m2⟩ := hR.out.setp hpw
    have hpl : ∀ b, vp.ownBlock = some b → b < W.heap.size := fun b hb => qap h.prow hb
    refine (m1.takes (qaf g2 hpw.keep (fun b hb e => by have := (g3 b hb).1; have := hpl b e; omega)) (fun b hb => ?_) hn24 hm hst htk).mono ?_
    · have h1 := g3 b hb
      refine ⟨fun e => by have := h.fo b e; omega, h1.2, by omega, fun e => ?_, fun e => ?_⟩
      · have := hpl b e; omega
      · have := qap h.wrow e; omega
    · rintro e w3 ⟨rfl, t1, t2⟩
      exact ⟨rfl, ⟨_, _, _, _, t1⟩, (g4.trans m2).trans t2⟩
  have hnm := fun w => qs5 hpk hp0 hps w
  have c0 := h.at_.cell 0
  have c1 := h.at_.cell 1
  simp only [List.getElem?_toArray, List.getElem?_cons_zero, List.getElem?_cons_succ] at c0 c1
  rw [hvp] at c1
  have hli : (i : Int) < R.paths.length := by omega
  have hli0 : (0 : Int) ≤ i := by omega
  obtain ⟨np, hnp⟩ : ∃ np, np = R.paths.length := ⟨_, rfl⟩
  have HNP : Hid (np = R.paths.length) := hnp
  rw [← hnp] at c1 hli hvp hcp1 hpl hll
  have hcn : ∀ (w1 Wx : World) (P1 : Nat → Prop), Hid (RunM F w1 rb { R with k := o.ks } P1 bt vp vw vl) → ∀ ps, PwAt w1 vp ps Wx → Wx.cell? ⟨rb, 1, none⟩ = some (.slice (some ⟨gp, 0, none⟩) np cp) ∧ gp < Wx.heap.size := fun w1 Wx P1 hR ps hpw => by
    have := (hR.out.at_.keep hpw.keep hR.out.ne.1).cell 1
    simp only [List.getElem?_toArray, List.getElem?_cons_zero, List.getElem?_cons_succ] at this
    rw [hvp] at this
    exact ⟨this, by have := qap hR.out.prow (show vp.ownBlock = some gp by rw [hvp]; rfl); have := hpw.keep.size; omega⟩
  have HOK : Hid (∀ q ∈ R.paths, qbx q = true ∧ q ≠ [] ∧ (sb (qaa q)).size ≤ 2000000) := hok
  have hT0 : Hid ((tk = [] → sb (qad p) = sb (qaa (tk ++ [qad p]))) ∧ (tk ≠ [] → sb (qaa tk) ++ (⟨#[47]⟩ : ByteArray) ++ sb (qad p) = sb (qaa (tk ++ [qad p])))) := by
    refine ⟨fun e => by rw [e]; rfl, fun e => ?_⟩
    rw [qhg _ _ e, qgl, qgl]
    simp only [qbs]
    congr 1
    simp [bl]
  clear htk hm ho hp hok hnp
  go_enter Tryz.func44, Tryz.ntmps44
  go_upto_region 1 with fail
  go_region_held3 (fun w' => w'.cell? ⟨rb, 0, none⟩ = some (.pointer (some ⟨bt, 0, none⟩)) ∧ w'.cell? ⟨rb, 1, none⟩ = some (.slice (some ⟨gp, 0, none⟩) np cp) ∧ w'.cell? ⟨gp, i, none⟩ = some (.string (sb (qaa p)))) (go_keep)
    (first
      | (go_at_call 30; refine (hcall _ ?_).mono ?_; (focus exact bel2); rintro e w1 ⟨a1, c1', P1, rfl, hbr1, hq1, hgl1, hR1, hE1⟩; have d0 := hbr1.cell 0; have d1 := hbr1.cell 1; simp only [List.getElem?_toArray, List.getElem?_cons_zero, List.getElem?_cons_succ] at d0 d1; rw [hvp] at d1))
  have htak1 := fun w2 => htak w1 w2 P1 a1 c1' hR1 hE1
  have hcn1 := fun Wx => hcn w1 Wx P1 hR1
  have hpw0 : Hid (PwAt w1 vp (qbq p (tk ++ [qad p]) R.paths 0) w1) := by
    refine ⟨?_, Keep.refl _ _⟩
    have e : qbq p (tk ++ [qad p]) R.paths 0 = R.paths := by unfold qbq; simp
    rw [e]; exact hR1.out.prow
  clear htak hcn hcall hE1 hR1 c0 c1 q0
  go_upto_region 6 with (go_at_call 76; refine (hnm _).mono ?_; rintro e wq ⟨rfl, hwq⟩; subst hwq)
  have hln : (sb (qad p)).size ≤ 2000000 := by
    rw [qco]
    rcases List.eq_nil_or_concat p with e | ⟨q, n, e⟩
    · exact absurd e hp0
    · rw [List.concat_eq_append] at e
      have := (qdr (qby hpk (show n ∈ p by rw [e]; simp))).2
      rw [e, qaq]; omega
  by_cases ht0 : tk = []
  · obtain ⟨gS, hgS⟩ : ∃ gS, gS = sb (qad p) := ⟨_, rfl⟩
    have HG : Hid (gS = sb (qaa (tk ++ [qad p]))) := by show gS = _; rw [hgS]; exact hT0.out.1 ht0
    have hgs : gS.size ≤ 5000000 := by rw [hgS]; omega
    have hz : sb (qaa tk) = ⟨#[]⟩ := by rw [ht0]; rfl
    rw [hz, ← hgS]
    clear hgS hz hT0 ht0 hln hnm
    go_wp2_with fail
    go_loopw [11] (fun kk wr => ∃ k : Nat, k ≤ np ∧ kk = .int .i64 k ∧ PwAt wq vp (qbq p (tk ++ [qad p]) R.paths k) wr) (fun kk _ => np - (intOf kk).toNat)
    case atStart => exact ⟨0, Nat.zero_le _, rfl, hpw0.out⟩
    case round =>
      obtain ⟨k, hk, rfl, hpw⟩ := hrel
      obtain ⟨e1, eg⟩ := hcn1 _ _ hpw
      by_cases hlt : k < np
      · obtain ⟨q, hq⟩ : ∃ q, R.paths[k]? = some q := ⟨_, List.getElem?_eq_getElem (by rw [← HNP.out]; exact hlt)⟩
        obtain ⟨hqk, hq0, hqs⟩ := HOK.out q (List.mem_of_getElem? hq)
        have hrow := hpw.row
        rw [qfx _ _ _ (by rw [← HNP.out]; exact hk), ← HNP.out, hvp] at hrow
        have e2 : wr.cell? ⟨gp, k, none⟩ = some (.string (sb (qaa q))) := by
          have := hrow.cells (g := gp) rfl k (.string (sb (qaa q))) (by unfold qfl; rw [List.getElem?_map, qgy _ _ _ hq]; rfl)
          rw [Addr.add_lit, Nat.zero_add] at this
          exact this
        have e3 := hrow.frozenAt k
        have hki : (k : Int) < np := by omega
        have hki0 : (0 : Int) ≤ k := by omega
        have hbl := fun w => qph (sb (qaa q)) (sb (qaa p)) w hqs hps
        rw [qbs, qbs] at hbl
        have HSUC : Hid (qbq p (tk ++ [qad p]) R.paths (k + 1) = (qbq p (tk ++ [qad p]) R.paths k).set k (mvK p (tk ++ [qad p]) q)) := qi8 _ _ _ hq
        have HAT : Hid ((qbq p (tk ++ [qad p]) R.paths k)[k]? = some q) := qgy _ _ _ hq
        have HLN : Hid ((qbq p (tk ++ [qad p]) R.paths k).length = np) := by show _ = np; rw [qfx _ _ _ (by rw [← HNP.out]; exact hk), ← HNP.out]
        have HPW : Hid (PwAt wq vp (qbq p (tk ++ [qad p]) R.paths k) wr) := hpw
        have HRW : Hid (wr.ownsRow 0 9 1 (.slice (some ⟨gp, 0, none⟩) np cp) np (qfl (qbq p (tk ++ [qad p]) R.paths k))) := hrow
        rcases qpk (q := q) (t := tk ++ [qad p]) hp0 (by simp) hpk hqk with ⟨hin, hmv⟩ | ⟨hin, hle, hmv⟩
        · rw [hin] at hbl
          have HMV : Hid (mvK p (tk ++ [qad p]) q = q) := hmv
          clear hq hrow hpw hmv
          go_wp2_with (go_at_call 35; refine (hbl _).mono ?_; rintro e wz ⟨rfl, hwz⟩; subst hwz)
          refine ⟨⟨k + 1, by omega, by go_num, ?_⟩, by simp [intOf]; omega⟩
          rw [HSUC.out, HMV.out, qih HAT.out]
          exact HPW.out
        · rw [hin] at hbl
          have hle2 : ((sb (qaa p)).size : Int) ≤ (sb (qaa q)).size := by rw [qco, qco]; omega
          have hle3 : (0 : Int) ≤ (sb (qaa p)).size := by omega
          have hov : ¬ 9223372036854775807 < gS.size + ((sb (qaa q)).size - (sb (qaa p)).size) := by omega
          have HST : Hid (gS ++ (sb (qaa q)).extract (sb (qaa p)).size (sb (qaa q)).size = sb (qaa (mvK p (tk ++ [qad p]) q))) := by
            show _ = _
            rw [hmv, HG.out, qk9, qgl]
            simp only [qbs, qco]
          clear hq hrow hpw hmv
          go_wp2_with (go_at_call 35; refine (hbl _).mono ?_; rintro e wz ⟨rfl, hwz⟩; subst hwz)
          go_region
          go_wp2_with fail
          refine ⟨⟨k + 1, by omega, by go_num, ?_⟩, by simp [intOf]; omega⟩
          rw [HSUC.out, HST.out]
          have hr := (HRW.out.stored k (.string (sb (qaa (mvK p (tk ++ [qad p]) q))))).1
          refine ⟨?_, ?_⟩
          · rw [List.length_set, HLN.out, qkn, hvp]
            exact hr.drew
          · exact (HPW.out.keep.setCell (p := ⟨gp, k, none⟩) (by rw [hvp]; rfl) _).drew
      · have hkn : k = np := by omega
        subst hkn
        have hall : qbq p (tk ++ [qad p]) R.paths k = R.paths.map (mvK p (tk ++ [qad p])) := by
          unfold qbq; rw [HNP.out]; simp
        rw [hall] at hpw
        go_wp2_with (go_at_call 48; refine (htak1 _ hpw).mono ?_; rintro e w3 ⟨rfl, hend⟩)
        go_ret
        exact ⟨rfl, hend.out⟩
  · obtain ⟨gS, hgS⟩ : ∃ gS, gS = sb (qaa tk) ++ (⟨#[47]⟩ : ByteArray) ++ sb (qad p) := ⟨_, rfl⟩
    have HG : Hid (gS = sb (qaa (tk ++ [qad p]))) := by show gS = _; rw [hgS]; exact hT0.out.2 ht0
    have hgs : gS.size ≤ 5000000 := by
      rw [hgS, ByteArray.size_append, ByteArray.size_append]
      have : (⟨#[47]⟩ : ByteArray).size = 1 := rfl
      omega
    have hov1 : ¬ 9223372036854775807 < (sb (qaa tk)).size + 1 := by omega
    have hov2 : ¬ 9223372036854775807 < (sb (qaa tk) ++ (⟨#[47]⟩ : ByteArray)).size + (sb (qad p)).size := by
      rw [ByteArray.size_append]
      have : (⟨#[47]⟩ : ByteArray).size = 1 := rfl
      omega
    have hqe : ((sb (qaa tk)).toList.isEmpty) = false := by
      rw [qb3, qbs]
      cases hj : qaa tk with
      | nil => exact absurd ((qcj htk0).1 hj) ht0
      | cons a l => rfl
    have HGS : Hid (gS = sb (qaa tk) ++ (⟨#[47]⟩ : ByteArray) ++ sb (qad p)) := hgS
    generalize sb (qaa tk) = tS at *
    clear hgS hT0 ht0 hnm
    go_upto_region 8 with fail
    rw [← HGS.out]
    clear hov1 hov2 hqe HGS
    go_wp2_with fail
    go_loopw [11] (fun kk wr => ∃ k : Nat, k ≤ np ∧ kk = .int .i64 k ∧ PwAt wq vp (qbq p (tk ++ [qad p]) R.paths k) wr) (fun kk _ => np - (intOf kk).toNat)
    case atStart => exact ⟨0, Nat.zero_le _, rfl, hpw0.out⟩
    case round =>
      obtain ⟨k, hk, rfl, hpw⟩ := hrel
      obtain ⟨e1, eg⟩ := hcn1 _ _ hpw
      by_cases hlt : k < np
      · obtain ⟨q, hq⟩ : ∃ q, R.paths[k]? = some q := ⟨_, List.getElem?_eq_getElem (by rw [← HNP.out]; exact hlt)⟩
        obtain ⟨hqk, hq0, hqs⟩ := HOK.out q (List.mem_of_getElem? hq)
        have hrow := hpw.row
        rw [qfx _ _ _ (by rw [← HNP.out]; exact hk), ← HNP.out, hvp] at hrow
        have e2 : wr.cell? ⟨gp, k, none⟩ = some (.string (sb (qaa q))) := by
          have := hrow.cells (g := gp) rfl k (.string (sb (qaa q))) (by unfold qfl; rw [List.getElem?_map, qgy _ _ _ hq]; rfl)
          rw [Addr.add_lit, Nat.zero_add] at this
          exact this
        have e3 := hrow.frozenAt k
        have hki : (k : Int) < np := by omega
        have hki0 : (0 : Int) ≤ k := by omega
        have hbl := fun w => qph (sb (qaa q)) (sb (qaa p)) w hqs hps
        rw [qbs, qbs] at hbl
        have HSUC : Hid (qbq p (tk ++ [qad p]) R.paths (k + 1) = (qbq p (tk ++ [qad p]) R.paths k).set k (mvK p (tk ++ [qad p]) q)) := qi8 _ _ _ hq
        have HAT : Hid ((qbq p (tk ++ [qad p]) R.paths k)[k]? = some q) := qgy _ _ _ hq
        have HLN : Hid ((qbq p (tk ++ [qad p]) R.paths k).length = np) := by show _ = np; rw [qfx _ _ _ (by rw [← HNP.out]; exact hk), ← HNP.out]
        have HPW : Hid (PwAt wq vp (qbq p (tk ++ [qad p]) R.paths k) wr) := hpw
        have HRW : Hid (wr.ownsRow 0 9 1 (.slice (some ⟨gp, 0, none⟩) np cp) np (qfl (qbq p (tk ++ [qad p]) R.paths k))) := hrow
        rcases qpk (q := q) (t := tk ++ [qad p]) hp0 (by simp) hpk hqk with ⟨hin, hmv⟩ | ⟨hin, hle, hmv⟩
        · rw [hin] at hbl
          have HMV : Hid (mvK p (tk ++ [qad p]) q = q) := hmv
          clear hq hrow hpw hmv
          go_wp2_with (go_at_call 35; refine (hbl _).mono ?_; rintro e wz ⟨rfl, hwz⟩; subst hwz)
          refine ⟨⟨k + 1, by omega, by go_num, ?_⟩, by simp [intOf]; omega⟩
          rw [HSUC.out, HMV.out, qih HAT.out]
          exact HPW.out
        · rw [hin] at hbl
          have hle2 : ((sb (qaa p)).size : Int) ≤ (sb (qaa q)).size := by rw [qco, qco]; omega
          have hle3 : (0 : Int) ≤ (sb (qaa p)).size := by omega
          have hov : ¬ 9223372036854775807 < gS.size + ((sb (qaa q)).size - (sb (qaa p)).size) := by omega
          have HST : Hid (gS ++ (sb (qaa q)).extract (sb (qaa p)).size (sb (qaa q)).size = sb (qaa (mvK p (tk ++ [qad p]) q))) := by
            show _ = _
            rw [hmv, HG.out, qk9, qgl]
            simp only [qbs, qco]
          clear hq hrow hpw hmv
          go_wp2_with (go_at_call 35; refine (hbl _).mono ?_; rintro e wz ⟨rfl, hwz⟩; subst hwz)
          go_region
          go_wp2_with fail
          refine ⟨⟨k + 1, by omega, by go_num, ?_⟩, by simp [intOf]; omega⟩
          rw [HSUC.out, HST.out]
          have hr := (HRW.out.stored k (.string (sb (qaa (mvK p (tk ++ [qad p]) q))))).1
          refine ⟨?_, ?_⟩
          · rw [List.length_set, HLN.out, qkn, hvp]
            exact hr.drew
          · exact (HPW.out.keep.setCell (p := ⟨gp, k, none⟩) (by rw [hvp]; rfl) _).drew
      · have hkn : k = np := by omega
        subst hkn
        have hall : qbq p (tk ++ [qad p]) R.paths k = R.paths.map (mvK p (tk ++ [qad p])) := by
          unfold qbq; rw [HNP.out]; simp
        rw [hall] at hpw
        go_wp2_with (go_at_call 48; refine (htak1 _ hpw).mono ?_; rintro e w3 ⟨rfl, hend⟩)
        go_ret
        exact ⟨rfl, hend.out⟩
end
end Go.Proofs.YtphclnolomgjoaaGreatDoor
