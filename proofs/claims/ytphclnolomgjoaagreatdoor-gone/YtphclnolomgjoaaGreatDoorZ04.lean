import Derived.Test.YtphclnolomgjoaaGreatDoorZ02
import Derived.Test.YtphclnolomgjoaaGreatDoorZ03
import Derived.Test.YtphclnolomgjoaaGreatDoorB37
import Derived.Test.YtphclnolomgjoaaGreatDoorZ01
set_option linter.unusedVariables false
set_option linter.unusedSimpArgs false
namespace Go.Proofs.YtphclnolomgjoaaGreatDoor
open Go.RowKit
section
variable {F : Nat → Prop} {W w' : World} {rb : Nat} {R : KR} {P : Nat → Prop} {bt : Nat} {vp vw vl : Value}
theorem RunM.callTakesB (h : RunM F W rb R P bt vp vw vl) {Wx w1 : World} (hb : Below W.heap.size W Wx) {o : Out} {ev : Value} (hO : KOut P Wx bt o ev w1) (hn : R.works.length ≤ 24) (hst : 0 ≤ R.qav ∧ R.qav ≤ 1000000) (hm : o.evs.length ≤ 1000) {ws' : List KW} {st' : Int} (htk : qdj (R.works, R.qav) o.evs = some (ws', st')) :
    Blk w1 rb 50 #[.pointer (some ⟨bt, 0, none⟩), vp, vw, .int .i64 R.qav, vl] ∧ (∀ g j u, vp.ownBlock = some g → Wx.cell? ⟨g, j, none⟩ = some u → w1.cell? ⟨g, j, none⟩ = some u) ∧ Hid (∀ w2, Below w1.heap.size w1 w2 → Calls Tryz.prog 48 #[.pointer (some ⟨rb, 0, none⟩), ev] w2 fun e w3 => e = .returned (.bool true) ∧ Hid (RunB bt F w3 rb ⟨o.ks, R.paths, ws', st', o.evs⟩ ∧ Keep (fun b => ¬ F b) W w3)) := by
  have hx := h.below hb
  have hz := h.size
  obtain ⟨P1, g1, g2, g3, g4⟩ := hx.called hO
  obtain ⟨_, _, _, _, _, k5⟩ := hO
  have hsz := hb.size
  refine ⟨g1.at_, fun g j u hg hc => (k5.cell (p := ⟨g, j, none⟩) (qap hx.prow hg) (hx.nP g (.inr (.inl hg)))).trans hc, fun w2 hb2 => ?_⟩
  refine ((g1.below hb2).takes (qfq g2 hb2) (fun b hb' => ?_) hn hm hst htk).mono ?_
  · have h1 := g3 b hb'
    refine ⟨fun e => by have := h.fo b e; omega, h1.2, by omega, fun e => ?_, fun e => ?_⟩
    · have := qap h.prow e; omega
    · have := qap h.wrow e; omega
  · rintro e w3 ⟨rfl, t1, t2⟩
    exact ⟨rfl, ⟨_, _, _, _, t1⟩, ((Keep.new hb).trans (g4.trans (Keep.new hb2))).trans t2⟩
set_option maxRecDepth 100000 in
set_option maxHeartbeats 4000000 in
theorem kquotaB (h : RunB bt F W rb R) {i : Nat} {p : List Bs} (hp : R.paths[i]? = some p) (hps : (sb (qaa p)).size ≤ 2000000) (hpl : R.paths.length ≤ 100) (hn24 : R.works.length ≤ 24) (hst : 0 ≤ R.qav ∧ R.qav ≤ 1000000) (K A B C : Int) (hB : I64 B) (hC : I64 C) {o : Out} (ho : R.k.qbb (qaa p) (qA0 i B C) (qA1 i B C) (pkN C 25) (pkN B 25) = o) (he : o.err = 0 ∨ (o.err = 11 ∧ o.evs = [])) (hm : o.evs.length ≤ 1000) {ws' : List KW} {st' : Int} (htk : qdj (R.works, R.qav) o.evs = some (ws', st')) :
    Calls Tryz.prog 43 #[.pointer (some ⟨rb, 0, none⟩), .int .i64 i, .agg #[.int .i64 K, .int .i64 A, .int .i64 B, .int .i64 C]] W fun e w' => e = .returned (.bool true) ∧ RunB bt F w' rb ⟨o.ks, R.paths, ws', st', o.evs⟩ ∧ Keep (fun b => ¬ F b) W w' := by
  obtain ⟨P, vp, vw, vl, h⟩ := h
  obtain ⟨gp, cp, hvp, hgl, hgne, hcp1, hcp2, q0⟩ := h.path hp
  have hll := (List.getElem?_eq_some_iff.1 hp).1
  have hz := h.size
  have hcall : ∀ Wx, Below W.heap.size W Wx → ∀ x0 x1, x0 = qA0 i B C → x1 = qA1 i B C → Calls Tryz.prog 29 #[.pointer (some ⟨bt, 0, none⟩), .string (sb (qaa p)), .agg #[.int .i64 x0, .int .i64 x1], .agg #[.int .i64 (pkN C 25), .int .i64 (pkN B 25)]] Wx fun e w1 => ∃ a1 c1, e = .returned (.tuple #[.slice a1 o.evs.length c1, .int .i64 o.err]) ∧ Blk w1 rb 50 #[.pointer (some ⟨bt, 0, none⟩), vp, vw, .int .i64 R.qav, vl] ∧ w1.cell? ⟨gp, i, none⟩ = some (.string (sb (qaa p))) ∧ Keep P Wx w1 ∧ Hid (∀ w2, Below w1.heap.size w1 w2 → Calls Tryz.prog 48 #[.pointer (some ⟨rb, 0, none⟩), .slice a1 o.evs.length c1] w2 fun e w3 => e = .returned (.bool true) ∧ Hid (RunB bt F w3 rb ⟨o.ks, R.paths, ws', st', o.evs⟩ ∧ Keep (fun b => ¬ F b) W w3)) := fun Wx hb x0 x1 e0 e1 => by
    subst e0 e1
    have hx := h.below hb
    refine (qs3 hx.tw (sb (qaa p)) hps _ _ _ _).mono ?_
    rw [qbs, ho]
    rintro e w1 ⟨ev, rfl, hO⟩
    obtain ⟨t1, t2, t3⟩ := h.callTakesB hb hO hn24 hst hm htk
    obtain ⟨P', g1, g2, g3, g4, k5⟩ := hO
    obtain ⟨a1, c1, rfl, _, _⟩ := qa7 g3
    exact ⟨a1, c1, rfl, t1, t2 gp i _ (by rw [hvp]; rfl) ((hb.cell (p := ⟨gp, i, none⟩) hgl).trans q0), k5, t3⟩
  have hPlt := h.tw.lt
  have ham1 := qli B C 30 hB hC (by omega) (by omega)
  have ham2 := qli C B 25 hC hB (by omega) (by omega)
  have b0 : Blk (W.alloc (.cells #[.int .i64 K, .int .i64 A, .int .i64 B, .int .i64 C] 32)) W.heap.size 32 #[.int .i64 K, .int .i64 A, .int .i64 B, .int .i64 C] := Blk.new W 32 _
  have c0 := h.at_.cell 0
  have c1 := h.at_.cell 1
  simp only [List.getElem?_toArray, List.getElem?_cons_zero, List.getElem?_cons_succ] at c0 c1
  rw [hvp] at c1
  have hli : (i : Int) < R.paths.length := by omega
  have hli0 : (0 : Int) ≤ i := by omega
  generalize R.paths.length = np at *
  have HC0 : Hid (∀ Wx, Below W.heap.size W Wx → Wx.cell? ⟨rb, 0, none⟩ = some (.pointer (some ⟨bt, 0, none⟩)) ∧ Wx.cell? ⟨rb, 1, none⟩ = some (.slice (some ⟨gp, 0, none⟩) np cp) ∧ Wx.cell? ⟨gp, i, none⟩ = some (.string (sb (qaa p)))) := fun Wx hb => ⟨(hb.cell (p := ⟨rb, 0, none⟩) hz.2).trans c0, (hb.cell (p := ⟨rb, 1, none⟩) hz.2).trans c1, (hb.cell (p := ⟨gp, i, none⟩) hgl).trans q0⟩
  clear htk hm ho h hp c0 c1 q0
  by_cases h5 : 5 ≤ i
  · have hi5 : (5 : Int) ≤ i := by omega
    have e0 : qA0 i B C = 0 := by unfold qA0; rw [if_pos h5]
    have e1 : qA1 i B C = 0 := by unfold qA1; rw [if_pos h5]
    have hcall' := fun Wx hb => hcall Wx hb 0 0 e0.symm e1.symm
    clear hcall e0 e1
    go_enter Tryz.func43, Tryz.ntmps43
    go_upto_region 5 with (first
      | (go_at_call 41; refine (ham1 _).mono ?_; clear ham1; rintro e w1 ⟨rfl, hb1⟩; have hB1 : Below W.heap.size W w1 := qab (by exact bel2) hb1; have b1 := b0.below hb1 (by simp); have z2 := b1.cell 2; have z3 := b1.cell 3; have l1 := b1.lt; simp only [List.getElem?_toArray, List.getElem?_cons_zero, List.getElem?_cons_succ] at z2 z3)
      | (go_at_call 41; refine (ham2 _).mono ?_; clear ham2; rintro e w2 ⟨rfl, hb2⟩; have bA := (Blk.new w1 35 #[.int .i64 (pkN B 30), .int .i64 (pkN C 30)]).below hb2 (by simp); have y0 := bA.cell 0; have y1 := bA.cell 1; have f0 := bA.frozen 0; have f1 := bA.frozen 1; have la := bA.lt; have hB2 : Below W.heap.size W w2 := qab (by exact bel2) hb2; simp only [List.getElem?_toArray, List.getElem?_cons_zero, List.getElem?_cons_succ] at y0 y1))
    have bA5 : Blk (((w2.setCell ⟨w1.heap.size, 0, none⟩ (.int .i64 0)).setCell ⟨w1.heap.size, 1, none⟩ (.int .i64 0)).alloc (.cells #[.int .i64 (pkN C 25), .int .i64 (pkN B 25)] 35)) w1.heap.size 35 #[.int .i64 0, .int .i64 0] := by have := ((bA.set 0 (.int .i64 0)).set 1 (.int .i64 0)).alloc (.cells #[.int .i64 (pkN C 25), .int .i64 (pkN B 25)] 35); simpa using this
    have bB5 : Blk (((w2.setCell ⟨w1.heap.size, 0, none⟩ (.int .i64 0)).setCell ⟨w1.heap.size, 1, none⟩ (.int .i64 0)).alloc (.cells #[.int .i64 (pkN C 25), .int .i64 (pkN B 25)] 35)) w2.heap.size 35 #[.int .i64 (pkN C 25), .int .i64 (pkN B 25)] := Blk.new' (by simp)
    have hB5 : Below W.heap.size W (((w2.setCell ⟨w1.heap.size, 0, none⟩ (.int .i64 0)).setCell ⟨w1.heap.size, 1, none⟩ (.int .i64 0)).alloc (.cells #[.int .i64 (pkN C 25), .int .i64 (pkN B 25)] 35)) := by exact bel2
    have ga5 : W.heap.size ≤ w1.heap.size := hB1.size
    have gb5 : W.heap.size ≤ w2.heap.size := hB2.size
    generalize ((w2.setCell ⟨w1.heap.size, 0, none⟩ (.int .i64 0)).setCell ⟨w1.heap.size, 1, none⟩ (.int .i64 0)).alloc (.cells #[.int .i64 (pkN C 25), .int .i64 (pkN B 25)] 35) = W5 at bA5 bB5 hB5 ⊢
    generalize w1.heap.size = ga at *
    generalize w2.heap.size = gb at *
    obtain ⟨c0, c1, q0⟩ := HC0.out W5 hB5
    have u0 := bA5.cell 0
    have u1 := bA5.cell 1
    have u2 := bB5.cell 0
    have u3 := bB5.cell 1
    simp only [List.getElem?_toArray, List.getElem?_cons_zero, List.getElem?_cons_succ] at u0 u1 u2 u3
    have hnA : ¬ P ga := fun e => by have := hPlt _ e; omega
    have hnB : ¬ P gb := fun e => by have := hPlt _ e; omega
    clear bA y0 y1 f0 f1 b1 z2 z3 hb1 hb2 b0 HC0
    rcases he with he | ⟨he, hev⟩
    · rw [he] at hcall'
      go_region_held3 (fun w' => w'.cell? ⟨rb, 0, none⟩ = some (.pointer (some ⟨bt, 0, none⟩)) ∧ w'.cell? ⟨rb, 1, none⟩ = some (.slice (some ⟨gp, 0, none⟩) np cp) ∧ w'.cell? ⟨gp, i, none⟩ = some (.string (sb (qaa p))) ∧ w'.cell? ⟨ga, 0, none⟩ = some (.int .i64 0) ∧ w'.cell? ⟨ga, 1, none⟩ = some (.int .i64 0) ∧ w'.cell? ⟨gb, 0, none⟩ = some (.int .i64 (pkN C 25)) ∧ w'.cell? ⟨gb, 1, none⟩ = some (.int .i64 (pkN B 25))) (go_keep)
        (first
          | (go_at_call 29; refine (hcall' _ ?_).mono ?_; (focus exact bel2); rintro e w3 ⟨a1, c1', rfl, hbr1, hq1, hkp, hcont⟩; have d0 := hbr1.cell 0; have d1 := hbr1.cell 1; have k0 := (hkp.cell (p := ⟨ga, 0, none⟩) bA5.lt hnA).trans u0; have k1 := (hkp.cell (p := ⟨ga, 1, none⟩) bA5.lt hnA).trans u1; have k2 := (hkp.cell (p := ⟨gb, 0, none⟩) bB5.lt hnB).trans u2; have k3 := (hkp.cell (p := ⟨gb, 1, none⟩) bB5.lt hnB).trans u3; simp only [List.getElem?_toArray, List.getElem?_cons_zero, List.getElem?_cons_succ] at d0 d1; rw [hvp] at d1))
      go_wp2_with (go_at_call 48; refine (hcont.out _ ?_).mono ?_; (focus exact bel2); rintro e w4 ⟨rfl, hend⟩)
      go_ret
      exact ⟨rfl, hend.out⟩
    · have hl0 : o.evs.length = 0 := by rw [hev]; rfl
      rw [he, hl0] at hcall'
      go_region_held3 (fun w' => w'.cell? ⟨rb, 0, none⟩ = some (.pointer (some ⟨bt, 0, none⟩)) ∧ w'.cell? ⟨rb, 1, none⟩ = some (.slice (some ⟨gp, 0, none⟩) np cp) ∧ w'.cell? ⟨gp, i, none⟩ = some (.string (sb (qaa p))) ∧ w'.cell? ⟨ga, 0, none⟩ = some (.int .i64 0) ∧ w'.cell? ⟨ga, 1, none⟩ = some (.int .i64 0) ∧ w'.cell? ⟨gb, 0, none⟩ = some (.int .i64 (pkN C 25)) ∧ w'.cell? ⟨gb, 1, none⟩ = some (.int .i64 (pkN B 25))) (go_keep)
        (first
          | (go_at_call 29; refine (hcall' _ ?_).mono ?_; (focus exact bel2); rintro e w3 ⟨a1, c1', rfl, hbr1, hq1, hkp, hcont⟩; have d0 := hbr1.cell 0; have d1 := hbr1.cell 1; have k0 := (hkp.cell (p := ⟨ga, 0, none⟩) bA5.lt hnA).trans u0; have k1 := (hkp.cell (p := ⟨ga, 1, none⟩) bA5.lt hnA).trans u1; have k2 := (hkp.cell (p := ⟨gb, 0, none⟩) bB5.lt hnB).trans u2; have k3 := (hkp.cell (p := ⟨gb, 1, none⟩) bB5.lt hnB).trans u3; simp only [List.getElem?_toArray, List.getElem?_cons_zero, List.getElem?_cons_succ] at d0 d1; rw [hvp] at d1))
      go_wp2_with (go_at_call 48; refine (hcont.out _ ?_).mono ?_; (focus exact bel2); rintro e w4 ⟨rfl, hend⟩)
      go_ret
      exact ⟨rfl, hend.out⟩
  · have hi5 : ¬ ((5 : Int) ≤ i) := by omega
    have e0 : qA0 i B C = pkN B 30 := by unfold qA0; rw [if_neg h5]
    have e1 : qA1 i B C = pkN C 30 := by unfold qA1; rw [if_neg h5]
    have hcall' := fun Wx hb => hcall Wx hb (pkN B 30) (pkN C 30) e0.symm e1.symm
    clear hcall e0 e1
    go_enter Tryz.func43, Tryz.ntmps43
    go_upto_region 5 with (first
      | (go_at_call 41; refine (ham1 _).mono ?_; clear ham1; rintro e w1 ⟨rfl, hb1⟩; have hB1 : Below W.heap.size W w1 := qab (by exact bel2) hb1; have b1 := b0.below hb1 (by simp); have z2 := b1.cell 2; have z3 := b1.cell 3; have l1 := b1.lt; simp only [List.getElem?_toArray, List.getElem?_cons_zero, List.getElem?_cons_succ] at z2 z3)
      | (go_at_call 41; refine (ham2 _).mono ?_; clear ham2; rintro e w2 ⟨rfl, hb2⟩; have bA := (Blk.new w1 35 #[.int .i64 (pkN B 30), .int .i64 (pkN C 30)]).below hb2 (by simp); have y0 := bA.cell 0; have y1 := bA.cell 1; have f0 := bA.frozen 0; have f1 := bA.frozen 1; have la := bA.lt; have hB2 : Below W.heap.size W w2 := qab (by exact bel2) hb2; simp only [List.getElem?_toArray, List.getElem?_cons_zero, List.getElem?_cons_succ] at y0 y1))
    have bA5 : Blk (w2.alloc (.cells #[.int .i64 (pkN C 25), .int .i64 (pkN B 25)] 35)) w1.heap.size 35 #[.int .i64 (pkN B 30), .int .i64 (pkN C 30)] := bA.alloc _
    have bB5 : Blk (w2.alloc (.cells #[.int .i64 (pkN C 25), .int .i64 (pkN B 25)] 35)) w2.heap.size 35 #[.int .i64 (pkN C 25), .int .i64 (pkN B 25)] := Blk.new' (by simp)
    have hB5 : Below W.heap.size W (w2.alloc (.cells #[.int .i64 (pkN C 25), .int .i64 (pkN B 25)] 35)) := by exact bel2
    have ga5 : W.heap.size ≤ w1.heap.size := hB1.size
    have gb5 : W.heap.size ≤ w2.heap.size := hB2.size
    generalize w2.alloc (.cells #[.int .i64 (pkN C 25), .int .i64 (pkN B 25)] 35) = W5 at bA5 bB5 hB5 ⊢
    generalize w1.heap.size = ga at *
    generalize w2.heap.size = gb at *
    obtain ⟨c0, c1, q0⟩ := HC0.out W5 hB5
    have u0 := bA5.cell 0
    have u1 := bA5.cell 1
    have u2 := bB5.cell 0
    have u3 := bB5.cell 1
    simp only [List.getElem?_toArray, List.getElem?_cons_zero, List.getElem?_cons_succ] at u0 u1 u2 u3
    have hnA : ¬ P ga := fun e => by have := hPlt _ e; omega
    have hnB : ¬ P gb := fun e => by have := hPlt _ e; omega
    clear bA y0 y1 f0 f1 b1 z2 z3 hb1 hb2 b0 HC0
    rcases he with he | ⟨he, hev⟩
    · rw [he] at hcall'
      go_region_held3 (fun w' => w'.cell? ⟨rb, 0, none⟩ = some (.pointer (some ⟨bt, 0, none⟩)) ∧ w'.cell? ⟨rb, 1, none⟩ = some (.slice (some ⟨gp, 0, none⟩) np cp) ∧ w'.cell? ⟨gp, i, none⟩ = some (.string (sb (qaa p))) ∧ w'.cell? ⟨ga, 0, none⟩ = some (.int .i64 (pkN B 30)) ∧ w'.cell? ⟨ga, 1, none⟩ = some (.int .i64 (pkN C 30)) ∧ w'.cell? ⟨gb, 0, none⟩ = some (.int .i64 (pkN C 25)) ∧ w'.cell? ⟨gb, 1, none⟩ = some (.int .i64 (pkN B 25))) (go_keep)
        (first
          | (go_at_call 29; refine (hcall' _ ?_).mono ?_; (focus exact bel2); rintro e w3 ⟨a1, c1', rfl, hbr1, hq1, hkp, hcont⟩; have d0 := hbr1.cell 0; have d1 := hbr1.cell 1; have k0 := (hkp.cell (p := ⟨ga, 0, none⟩) bA5.lt hnA).trans u0; have k1 := (hkp.cell (p := ⟨ga, 1, none⟩) bA5.lt hnA).trans u1; have k2 := (hkp.cell (p := ⟨gb, 0, none⟩) bB5.lt hnB).trans u2; have k3 := (hkp.cell (p := ⟨gb, 1, none⟩) bB5.lt hnB).trans u3; simp only [List.getElem?_toArray, List.getElem?_cons_zero, List.getElem?_cons_succ] at d0 d1; rw [hvp] at d1))
      go_wp2_with (go_at_call 48; refine (hcont.out _ ?_).mono ?_; (focus exact bel2); rintro e w4 ⟨rfl, hend⟩)
      go_ret
      exact ⟨rfl, hend.out⟩
    · have hl0 : o.evs.length = 0 := by rw [hev]; rfl
      rw [he, hl0] at hcall'
      go_region_held3 (fun w' => w'.cell? ⟨rb, 0, none⟩ = some (.pointer (some ⟨bt, 0, none⟩)) ∧ w'.cell? ⟨rb, 1, none⟩ = some (.slice (some ⟨gp, 0, none⟩) np cp) ∧ w'.cell? ⟨gp, i, none⟩ = some (.string (sb (qaa p))) ∧ w'.cell? ⟨ga, 0, none⟩ = some (.int .i64 (pkN B 30)) ∧ w'.cell? ⟨ga, 1, none⟩ = some (.int .i64 (pkN C 30)) ∧ w'.cell? ⟨gb, 0, none⟩ = some (.int .i64 (pkN C 25)) ∧ w'.cell? ⟨gb, 1, none⟩ = some (.int .i64 (pkN B 25))) (go_keep)
        (first
          | (go_at_call 29; refine (hcall' _ ?_).mono ?_; (focus exact bel2); rintro e w3 ⟨a1, c1', rfl, hbr1, hq1, hkp, hcont⟩; have d0 := hbr1.cell 0; have d1 := hbr1.cell 1; have k0 := (hkp.cell (p := ⟨ga, 0, none⟩) bA5.lt hnA).trans u0; have k1 := (hkp.cell (p := ⟨ga, 1, none⟩) bA5.lt hnA).trans u1; have k2 := (hkp.cell (p := ⟨gb, 0, none⟩) bB5.lt hnB).trans u2; have k3 := (hkp.cell (p := ⟨gb, 1, none⟩) bB5.lt hnB).trans u3; simp only [List.getElem?_toArray, List.getElem?_cons_zero, List.getElem?_cons_succ] at d0 d1; rw [hvp] at d1))
      go_wp2_with (go_at_call 48; refine (hcont.out _ ?_).mono ?_; (focus exact bel2); rintro e w4 ⟨rfl, hend⟩)
      go_ret
      exact ⟨rfl, hend.out⟩
end
end Go.Proofs.YtphclnolomgjoaaGreatDoor
