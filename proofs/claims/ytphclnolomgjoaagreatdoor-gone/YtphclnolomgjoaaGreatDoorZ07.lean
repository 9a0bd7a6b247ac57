import Derived.Test.YtphclnolomgjoaaGreatDoorZ02
import Derived.Test.YtphclnolomgjoaaGreatDoorZ06
import Derived.Test.YtphclnolomgjoaaGreatDoorB37
import Derived.Test.YtphclnolomgjoaaGreatDoorZ01
import Derived.Test.YtphclnolomgjoaaGreatDoorZ03
import Derived.Test.YtphclnolomgjoaaGreatDoorZ04
import Derived.Test.YtphclnolomgjoaaGreatDoorZ05
set_option linter.unusedVariables false
set_option linter.unusedSimpArgs false
namespace Go.Proofs.YtphclnolomgjoaaGreatDoor
open Go.RowKit
section
variable {F : Nat → Prop} {W w' : World} {rb : Nat} {R R' : KR}
variable {bt : Nat}
set_option maxRecDepth 100000 in
set_option maxHeartbeats 4000000 in
theorem kstep_mov0B (h : RunB bt F W rb R) {k a b c : Int} (hk : I64 k) (ha : I64 a) (hb : I64 b) (hk4 : pkN k 8 = 7) (hb4 : 3 ≤ pkN b 4) (hn0 : R.paths.length = 8) (hs : ∀ (G : Nat → Prop) (Wx : World), RunB bt G Wx rb R → Calls Tryz.prog 44 #[.pointer (some ⟨rb, 0, none⟩), .int .i64 (pkN a 8), .string ⟨#[]⟩] Wx fun e w' => e = .returned (.bool true) ∧ RunB bt G w' rb R' ∧ Keep (fun b => ¬ G b) Wx w') :
    Calls Tryz.prog 17 #[.pointer (some ⟨rb, 0, none⟩), .agg #[.int .i64 k, .int .i64 a, .int .i64 b, .int .i64 c]] W fun e w' => e = .returned (.bool true) ∧ RunB bt F w' rb R' ∧ Keep (fun b => ¬ F b) W w' := by
  have h44 := h.boxed hs (t := 32) (vs := #[.int .i64 k, .int .i64 a, .int .i64 b, .int .i64 c])
  obtain ⟨P, vp, vw, vl, h⟩ := h
  obtain ⟨ap, cp, hvp, hcp1, hcp2⟩ := qa7 h.prow
  rw [hn0] at hvp
  have c1 := h.at_.cell 1
  simp only [List.getElem?_toArray, List.getElem?_cons_zero, List.getElem?_cons_succ] at c1
  rw [hvp] at c1
  have l2 := h.at_.lt
  have m1 := World.new_ne W _ c1
  have p1 := qfz k 8 hk (by omega) (by omega)
  have p2 := qfz a 8 ha (by omega) (by omega)
  have p3 := qfz b 4 hb (by omega) (by omega)
  have hk3 : (pkN k 8 : Int) = 7 := by omega
  have hb3 : ¬ ((pkN b 4 : Int) < 3) := by omega
  have b0 : Blk (W.alloc (.cells #[.int .i64 k, .int .i64 a, .int .i64 b, .int .i64 c] 32)) W.heap.size 32 #[.int .i64 k, .int .i64 a, .int .i64 b, .int .i64 c] := Blk.new W 32 _
  rw [hk3] at p1
  generalize (pkN a 8 : Int) = xa at *
  generalize (pkN b 4 : Int) = xb at *
  clear h hs hvp hk3
  go_enter Tryz.func17, Tryz.ntmps17
  go_upto_region 12 with (first
    | (go_at_call 23; refine (p1 _).mono ?_; clear p1; rintro e w1 ⟨rfl, hw1⟩; subst hw1)
    | (go_at_call 23; refine (p3 _).mono ?_; clear p3; rintro e w1 ⟨rfl, hw1⟩; subst hw1))
  go_region_with (first
    | (go_at_call 23; refine (p2 _).mono ?_; rintro e w2 ⟨rfl, hw2⟩; subst hw2)
    | (go_at_call 44; refine (h44 _ ?_ ?_).mono ?_; (focus exact bel2); (focus exact blk2); rintro e w4 ⟨rfl, hb4, hend⟩))
  all_goals go_wp2_with fail
  all_goals go_ret
  all_goals exact ⟨rfl, hend.out⟩
set_option maxRecDepth 100000 in
set_option maxHeartbeats 4000000 in
theorem kstep_mov1B (h : RunB bt F W rb R) {k a b c : Int} (hk : I64 k) (ha : I64 a) (hb : I64 b) (hk4 : pkN k 8 = 7) (hb4 : pkN b 4 < 3) (hn0 : R.paths.length = 8) {tk : List Bs} (htk : R.paths[5 + pkN b 3]? = some tk) (hs : ∀ (G : Nat → Prop) (Wx : World), RunB bt G Wx rb R → Calls Tryz.prog 44 #[.pointer (some ⟨rb, 0, none⟩), .int .i64 (pkN a 8), .string (sb (qaa tk))] Wx fun e w' => e = .returned (.bool true) ∧ RunB bt G w' rb R' ∧ Keep (fun b => ¬ G b) Wx w') :
    Calls Tryz.prog 17 #[.pointer (some ⟨rb, 0, none⟩), .agg #[.int .i64 k, .int .i64 a, .int .i64 b, .int .i64 c]] W fun e w' => e = .returned (.bool true) ∧ RunB bt F w' rb R' ∧ Keep (fun b => ¬ F b) W w' := by
  have h44 := h.boxed hs (t := 32) (vs := #[.int .i64 k, .int .i64 a, .int .i64 b, .int .i64 c])
  obtain ⟨P, vp, vw, vl, h⟩ := h
  obtain ⟨gp, cp, hvp, hgl, hgne, hcp1, hcp2, q0⟩ := h.path htk
  rw [hn0] at hvp hcp1
  have c1 := h.at_.cell 1
  simp only [List.getElem?_toArray, List.getElem?_cons_zero, List.getElem?_cons_succ] at c1
  rw [hvp] at c1
  have l2 := h.at_.lt
  have m1 := World.new_ne W _ c1
  have m2 := World.new_ne W _ q0
  have p1 := qfz k 8 hk (by omega) (by omega)
  have p2 := qfz a 8 ha (by omega) (by omega)
  have p3 := qfz b 4 hb (by omega) (by omega)
  have p4 := qfz b 3 hb (by omega) (by omega)
  have hx3 := qef b (n := 3) (by omega)
  have hk3 : (pkN k 8 : Int) = 7 := by omega
  have hb3 : (pkN b 4 : Int) < 3 := by omega
  have b0 : Blk (W.alloc (.cells #[.int .i64 k, .int .i64 a, .int .i64 b, .int .i64 c] 32)) W.heap.size 32 #[.int .i64 k, .int .i64 a, .int .i64 b, .int .i64 c] := Blk.new W 32 _
  rw [hk3] at p1
  generalize (pkN a 8 : Int) = xa at *
  generalize (pkN b 4 : Int) = xb at *
  generalize pkN b 3 = xc at *
  have z1 : (0 : Int) ≤ 5 + (xc : Int) := by omega
  have z2 : 5 + (xc : Int) < 8 := by omega
  have z3 : IntKind.i64.wrap (5 + (xc : Int)) = 5 + (xc : Int) := by rw [IntKind.wrap_i64]; omega
  have z4 : (5 + (xc : Int)).toNat = 5 + xc := by omega
  clear h hs hvp hk3 htk
  go_enter Tryz.func17, Tryz.ntmps17
  go_upto_region 11 with (first
    | (go_at_call 23; refine (p1 _).mono ?_; clear p1; rintro e w1 ⟨rfl, hw1⟩; subst hw1)
    | (go_at_call 23; refine (p3 _).mono ?_; clear p3; rintro e w1 ⟨rfl, hw1⟩; subst hw1))
  go_region_with (first
    | (go_at_call 23; refine (p4 _).mono ?_; rintro e w2 ⟨rfl, hw2⟩; subst hw2))
  all_goals go_upto_region 12 with fail
  all_goals go_region_with (first
    | (go_at_call 23; refine (p2 _).mono ?_; rintro e w2 ⟨rfl, hw2⟩; subst hw2)
    | (go_at_call 44; refine (h44 _ ?_ ?_).mono ?_; (focus exact bel2); (focus exact blk2); rintro e w4 ⟨rfl, hb4, hend⟩))
  all_goals go_wp2_with fail
  all_goals go_ret
  all_goals exact ⟨rfl, hend.out⟩
end
end Go.Proofs.YtphclnolomgjoaaGreatDoor
namespace Go.Proofs.YtphclnolomgjoaaGreatDoor
open Go.RowKit
section
variable {F : Nat → Prop} {W w' : World} {rb : Nat} {R : KR} {n : Nat}
variable {bt : Nat}
theorem kstepB (h : RunB bt F W rb R) (I : RunI n R) (hn : n ≤ 100) {k a b c : Int} (hk : I64 k) (ha : I64 a) (hb : I64 b) (hc : I64 c) :
    ∃ R', qyi R k a b c R' ∧ RunI (n + 1) R' ∧ Calls Tryz.prog 17 #[.pointer (some ⟨rb, 0, none⟩), .agg #[.int .i64 k, .int .i64 a, .int .i64 b, .int .i64 c]] W fun e w' => e = .returned (.bool true) ∧ RunB bt F w' rb R' ∧ Keep (fun b => ¬ F b) W w' := by
  obtain ⟨nodes, K⟩ := h.kinv
  have hk8 := qef k (n := 8) (by omega)
  have hw := I.wlen
  have hw24 : R.works.length ≤ 24 := by rw [hw]; exact K.inv.wks.wks.len
  have hcnt : 0 ≤ R.k.cnt ∧ R.k.cnt ≤ 1999999 := ⟨K.cnt0, by have := I.cnt; omega⟩
  have hst : 0 ≤ R.qav ∧ R.qav ≤ 1000000 := by rw [I.qav]; exact ⟨K.inv.st0, by have := I.st; omega⟩
  have h8 := I.len
  have hpth : ∀ i, i < 8 → ∃ p, R.paths[i]? = some p := fun i hi => ⟨_, List.getElem?_eq_getElem (by omega)⟩
  have hok : ∀ q ∈ R.paths, qbx q = true ∧ q ≠ [] ∧ (sb (qaa q)).size ≤ 2000000 := fun q hq => by
    obtain ⟨i, hi, e⟩ := List.getElem_of_mem hq
    have hp : R.paths[i]? = some q := by rw [List.getElem?_eq_getElem hi, e]
    obtain ⟨h1, h2, _⟩ := I.path K hp
    exact ⟨h1, h2, I.small K hp⟩
  by_cases c1 : pkN k 8 < 4
  · have ha5 := qef a (n := 5) (by omega)
    obtain ⟨p, hp⟩ := hpth (pkN a 5) (by omega)
    have hb16 := qef b (n := 16) (by omega)
    have hc16 := qef c (n := 16) (by omega)
    have hf : qao (pkN b 16) (pkN c 16) = true := qla (by omega) (by omega)
    by_cases hl : R.works.length < 24
    · obtain ⟨e1, ws', e2, e3, e4, _⟩ := I.qbk K ha5 hp hf hl
      refine ⟨_, Or.inl ⟨c1, hl, p, ws', hp, e2, rfl⟩, e3, kstep_subB h hk ha hb hc c1 (fun G Wx hR => ?_)⟩
      exact ksubmitB hR hp (I.small K hp) (by omega) _ _ e1 hl hcnt hst rfl e4 e2
    · have hl' : R.works.length = 24 := by omega
      refine ⟨R, Or.inr (Or.inr (Or.inr (Or.inr ⟨rfl, fun _ => hl'⟩))), I.mono (by omega), kstep_subB h hk ha hb hc c1 (fun G Wx hR => ?_)⟩
      exact ksubmit_fullB hR hp (I.small K hp) (by omega) _ _ (I.full K ha5 hp hf hl') hl' hcnt.2
  · by_cases c2 : pkN k 8 < 6
    · by_cases hz : R.works.length = 0
      · exact ⟨R, Or.inr (Or.inr (Or.inr (Or.inr ⟨rfl, fun e => absurd e c1⟩))), I.mono (by omega), kstep_noneB h hk ⟨by omega, c2⟩ hz⟩
      · have hlt := qef a (n := R.works.length) (by omega)
        obtain ⟨x, hx⟩ : ∃ x, R.works[pkN a R.works.length]? = some x := ⟨_, List.getElem?_eq_getElem hlt⟩
        obtain ⟨e1, ws', e2, e3, e4, _⟩ := I.finish K hx
        refine ⟨_, Or.inr (Or.inl ⟨by omega, _, x, ws', hx, e2, rfl⟩), e3, kstep_finB h hk ha ⟨by omega, c2⟩ (by omega) hw24 (fun G Wx hR => ?_)⟩
        exact kfinishB hR hx hw24 hst rfl e1 e4 e2
    · have ha8 := qef a (n := 8) (by omega)
      obtain ⟨p, hp⟩ := hpth (pkN a 8) ha8
      by_cases c3 : pkN k 8 = 6
      · have hb30 := qef b (n := 30) (by omega)
        have hc30 := qef c (n := 30) (by omega)
        have hb25 := qef b (n := 25) (by omega)
        have hc25 := qef c (n := 25) (by omega)
        have hf1 : qao (qA0 (pkN a 8) b c) (qA1 (pkN a 8) b c) = true := by
          unfold qA0 qA1
          split
          · rfl
          · exact qla (by omega) (by omega)
        have hf2 : qao (pkN c 25) (pkN b 25) = true := qla (by omega) (by omega)
        obtain ⟨e1, ws', st', e2, e3, e4, _⟩ := I.qbb K hp hf1 hf2 (fun h5 => ⟨by unfold qA0; rw [if_pos h5], by unfold qA1; rw [if_pos h5]⟩)
        refine ⟨_, Or.inr (Or.inr (Or.inl ⟨by omega, _, p, _, _, _, _, ws', st', hp, e2, rfl⟩)), e3, kstep_quoB h hk ha c3 h8 (fun G Wx hR => ?_)⟩
        exact kquotaB hR hp (I.small K hp) (by omega) hw24 hst k a b c hb hc rfl e1 e4 e2
      · have c4 : pkN k 8 = 7 := by omega
        have hmv : ∀ tk, qbx tk = true → (sb (qaa tk)).size ≤ 2000000 → ∃ R', qyi R k a b c R' ∧ RunI (n + 1) R' ∧ ∀ (G : Nat → Prop) (Wx : World), RunB bt G Wx rb R → Calls Tryz.prog 44 #[.pointer (some ⟨rb, 0, none⟩), .int .i64 (pkN a 8), .string (sb (qaa tk))] Wx fun e w' => e = .returned (.bool true) ∧ RunB bt G w' rb R' ∧ Keep (fun b => ¬ G b) Wx w' := fun tk htk hts => by
          rcases I.move K hp htk with ⟨e1, e2, e3⟩ | ⟨e1, ws', e2, e3, e4, _⟩
          · exact ⟨R, Or.inr (Or.inr (Or.inr (Or.inr ⟨rfl, fun e => absurd e c1⟩))), I.mono (by omega), fun G Wx hR => kmove_noB hR hp (I.small K hp) (by omega) (sb (qaa tk)) hts (by rw [qbs]) e1 e2 e3⟩
          · exact ⟨_, Or.inr (Or.inr (Or.inr (Or.inl ⟨by omega, _, p, tk, ws', hp, htk, e1, e2, rfl⟩))), e3, fun G Wx hR => kmove_okB hR hp hok (by omega) htk hts hw24 hst rfl e1 e4 e2⟩
        by_cases c5 : pkN b 4 < 3
        · have hb3 := qef b (n := 3) (by omega)
          obtain ⟨tk, htk⟩ := hpth (5 + pkN b 3) (by omega)
          obtain ⟨g1, g2, g3⟩ := hok tk (List.mem_of_getElem? htk)
          obtain ⟨R', r1, r2, r3⟩ := hmv tk g1 g3
          exact ⟨R', r1, r2, kstep_mov1B h hk ha hb c4 c5 h8 htk r3⟩
        · obtain ⟨R', r1, r2, r3⟩ := hmv [] rfl (by decide)
          exact ⟨R', r1, r2, kstep_mov0B h hk ha hb c4 (by omega) h8 r3⟩
end
end Go.Proofs.YtphclnolomgjoaaGreatDoor
