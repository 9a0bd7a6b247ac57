import Derived.Test.YtphclnolomgjoaaGreatDoorB37
import Derived.Test.YtphclnolomgjoaaGreatDoorZ01
import Derived.BigQuiet
set_option linter.unusedVariables false
set_option linter.unusedSimpArgs false
namespace Go.Proofs.YtphclnolomgjoaaGreatDoor
open Go.RowKit
def RunB (bt : Nat) (F : Nat → Prop) (W : World) (rb : Nat) (R : KR) : Prop := ∃ P vp vw vl, RunM F W rb R P bt vp vw vl
section
variable {bt : Nat} {F : Nat → Prop} {W w' : World} {rb : Nat} {R : KR}
theorem RunB.at_ (h : RunB bt F W rb R) : qau F W rb R := by
  obtain ⟨P, vp, vw, vl, h⟩ := h
  exact ⟨P, bt, vp, vw, vl, h⟩
theorem RunB.below (h : RunB bt F W rb R) (hb : Below W.heap.size W w') : RunB bt F w' rb R := by
  obtain ⟨P, vp, vw, vl, h⟩ := h
  exact ⟨P, vp, vw, vl, h.below hb⟩
theorem RunB.kinv (h : RunB bt F W rb R) : ∃ nodes, KInv nodes R.k := h.at_.kinv
theorem RunB.more (h : RunB bt F W rb R) (hb : Below W.heap.size W w') {G : Nat → Prop} (hG : ∀ b, G b → F b ∨ (W.heap.size ≤ b ∧ b < w'.heap.size)) : RunB bt G w' rb R := by
  obtain ⟨P, vp, vw, vl, h⟩ := h
  have h2 := h.below hb
  have hlt : ∀ b, (P b ∨ b = rb ∨ vp.ownBlock = some b ∨ vw.ownBlock = some b ∨ vl.ownBlock = some b) → b < W.heap.size := fun b hb => by
    rcases hb with hb | rfl | hb | hb | hb
    · exact h.tw.lt b hb
    · exact h.at_.lt
    · exact qap h.prow hb
    · exact qap h.wrow hb
    · exact qap h.lrow hb
  refine ⟨P, vp, vw, vl, h2.tw, h2.at_, h2.prow, h2.wrow, h2.lrow, h2.nP, fun b hb e => ?_, fun b hb => ?_, h2.ne, h2.pw, h2.wl⟩
  · rcases hG b e with e | e
    · exact h.lo b hb e
    · have := hlt b hb; omega
  · rcases hG b hb with e | e
    · exact h2.fo b e
    · exact e.2
theorem RunB.less (h : RunB bt F W rb R) {G : Nat → Prop} (hG : ∀ b, G b → F b) : RunB bt G W rb R := by
  obtain ⟨P, vp, vw, vl, h⟩ := h
  exact ⟨P, vp, vw, vl, h.tw, h.at_, h.prow, h.wrow, h.lrow, h.nP, fun b hb e => h.lo b hb (hG b e), fun b hb => h.fo b (hG b hb), h.ne, h.pw, h.wl⟩
end
end Go.Proofs.YtphclnolomgjoaaGreatDoor
namespace Go.Proofs.YtphclnolomgjoaaGreatDoor
open Go.RowKit
section
variable {F : Nat → Prop} {W w' : World} {rb : Nat} {R : KR} {P : Nat → Prop} {bt : Nat} {vp vw vl : Value}
set_option maxRecDepth 100000 in
set_option maxHeartbeats 4000000 in
theorem ksubmitB (h : RunB bt F W rb R) {leaf : Nat} {p : List Bs} (hp : R.paths[leaf]? = some p) (hps : (sb (qaa p)).size ≤ 2000000) (hpl : R.paths.length ≤ 100) (a b : Int) (he : errS R.k.L R.k.Ws (qaa p) (qao a b) = 0) (hlen : R.works.length < 24) (hcnt : 0 ≤ R.k.cnt ∧ R.k.cnt ≤ 1999999) (hst : 0 ≤ R.qav ∧ R.qav ≤ 1000000)
    {o : Out} (ho : R.k.qbk (qaa p) a b = o) (hm : o.evs.length ≤ 1000) {ws' : List KW} {st' : Int} (htk : qdj (R.works ++ [⟨R.k.cnt + 1, leaf, a, b, false, 0⟩], R.qav) o.evs = some (ws', st')) :
    Calls Tryz.prog 24 #[.pointer (some ⟨rb, 0, none⟩), .int .i64 leaf, .agg #[.int .i64 a, .int .i64 b]] W fun e w' => e = .returned (.bool true) ∧ RunB bt F w' rb ⟨o.ks, R.paths, ws', st', o.evs⟩ ∧ Keep (fun b => ¬ F b) W w' := by
  obtain ⟨P, vp, vw, vl, h⟩ := h
  obtain ⟨gp, cp, hvp, hgl, hgne, hcp1, hcp2, q0⟩ := h.path hp
  have hll := (List.getElem?_eq_some_iff.1 hp).1
  obtain ⟨aw, cw, hvw, hcw1, hcw2⟩ := qa7 h.wrow
  have hz := h.size
  have hPlt := h.tw.lt
  have hsub : ∀ Wx, Below W.heap.size W Wx → Blk Wx W.heap.size 35 #[.int .i64 a, .int .i64 b] → Calls Tryz.prog 32 #[.pointer (some ⟨bt, 0, none⟩), .string (sb (qaa p)), .agg #[.int .i64 a, .int .i64 b]] Wx fun e w1 => ∃ a1 c1 P1, e = .returned (.tuple #[.int .i64 (R.k.cnt + 1), .slice a1 o.evs.length c1, .int .i64 0]) ∧ Blk w1 rb 50 #[.pointer (some ⟨bt, 0, none⟩), vp, vw, .int .i64 R.qav, vl] ∧ w1.cell? ⟨gp, leaf, none⟩ = some (.string (sb (qaa p))) ∧ Blk w1 W.heap.size 35 #[.int .i64 a, .int .i64 b] ∧
      Hid (RunM F w1 rb { R with k := o.ks } P1 bt vp vw vl ∧ w1.ownsRow 0 60 2 (.slice a1 o.evs.length c1) o.evs.length (qam o.evs) ∧ (∀ b, (Value.slice a1 o.evs.length c1).ownBlock = some b → W.heap.size ≤ b ∧ ¬ P1 b) ∧ Keep (fun b => ¬ F b) W w1 ∧ W.heap.size ≤ w1.heap.size) := fun Wx hb hB => by
    have hx := h.below hb
    refine (qlh hx.tw hcnt.2 (sb (qaa p)) hps a b).mono ?_
    rw [qbs, he, ho]
    rintro e w1 ⟨ev, rfl, hO⟩
    obtain ⟨P1, g1, g2, g3, g4⟩ := hx.called hO
    obtain ⟨a1, c1, rfl, _, _⟩ := qa7 g2
    obtain ⟨_, _, e1, _, _, _, _, q1⟩ := g1.path (i := leaf) (p := p) hp
    have e1' := hvp.symm.trans e1
    injection e1' with e2
    injection e2 with e2
    injection e2 with e2
    subst e2
    obtain ⟨_, _, _, _, _, k5⟩ := hO
    exact ⟨a1, c1, P1, by rw [if_pos rfl], g1.at_, q1, hB.keep k5 (fun e => by have := hPlt _ e; omega), g1, g2, fun b hb' => ⟨Nat.le_trans hb.size (g3 b hb').1, (g3 b hb').2⟩, (Keep.new hb).trans g4, Nat.le_trans hb.size k5.size⟩
  have hap : ∀ (w1 Wx : World) (P1 : Nat → Prop) (nb : Nat), Hid (RunM F w1 rb { R with k := o.ks } P1 bt vp vw vl) → Below w1.heap.size w1 Wx → Blk Wx nb 41 #[.int .i64 (R.k.cnt + 1), .int .i64 leaf, .int .i64 a, .int .i64 b, .bool false, .int .i64 0] → ∃ v' w', (∀ ty, (Builtin.append_ #[47, 47] ty #[vw, .slice (some ⟨nb, 0, none⟩) 1 1]).run Tryz.prog Wx = .ok v' w') ∧ ∃ g' cap', v' = .slice (some ⟨g', 0, none⟩) (R.works.length + 1) cap' ∧ Blk w' rb 50 #[.pointer (some ⟨bt, 0, none⟩), vp, vw, .int .i64 R.qav, vl] ∧ Hid (RunM F (w'.setCell ⟨rb, 2, none⟩ v') rb ⟨o.ks, R.paths, R.works ++ [⟨R.k.cnt + 1, leaf, a, b, false, 0⟩], R.qav, R.last⟩ P1 bt vp v' vl ∧ Keep (fun b => b = rb ∨ vw.ownBlock = some b) Wx (w'.setCell ⟨rb, 2, none⟩ v') ∧ ∀ b, v'.ownBlock = some b → vw.ownBlock = some b ∨ Wx.heap.size ≤ b) :=
    fun w1 Wx P1 nb hR hb hB => (hR.out.below hb).more (by simp only; omega) ⟨R.k.cnt + 1, leaf, a, b, false, 0⟩ nb hB
  have htak : ∀ (w2 : World) (P1 : Nat → Prop) (v' : Value) (a1 : Option Addr) (c1 : Nat), Hid (RunM F w2 rb ⟨o.ks, R.paths, R.works ++ [⟨R.k.cnt + 1, leaf, a, b, false, 0⟩], R.qav, R.last⟩ P1 bt vp v' vl) → Hid (w2.ownsRow 0 60 2 (.slice a1 o.evs.length c1) o.evs.length (qam o.evs) ∧ ∀ b, (Value.slice a1 o.evs.length c1).ownBlock = some b → ¬ F b ∧ ¬ P1 b ∧ b ≠ rb ∧ vp.ownBlock ≠ some b ∧ v'.ownBlock ≠ some b) → Calls Tryz.prog 48 #[.pointer (some ⟨rb, 0, none⟩), .slice a1 o.evs.length c1] w2 fun e w3 => e = .returned (.bool true) ∧ Hid (RunB bt F w3 rb ⟨o.ks, R.paths, ws', st', o.evs⟩ ∧ Keep (fun b => ¬ F b) w2 w3) := fun w2 P1 v' a1 c1 hR hr => by
    refine (hR.out.takes hr.out.1 hr.out.2 (by simp; omega) hm hst htk).mono ?_
    rintro e w3 ⟨rfl, g1, g2⟩
    exact ⟨rfl, ⟨_, _, _, _, g1⟩, g2⟩
  have HF : Hid (∀ (w1 Wx W2 : World) (P1 : Nat → Prop) (a1 : Option Addr) (c1 : Nat) (v' : Value), (RunM F w1 rb { R with k := o.ks } P1 bt vp vw vl ∧ w1.ownsRow 0 60 2 (.slice a1 o.evs.length c1) o.evs.length (qam o.evs) ∧ (∀ b, (Value.slice a1 o.evs.length c1).ownBlock = some b → W.heap.size ≤ b ∧ ¬ P1 b) ∧ Keep (fun b => ¬ F b) W w1 ∧ W.heap.size ≤ w1.heap.size) → Below w1.heap.size w1 Wx → Keep (fun b => b = rb ∨ vw.ownBlock = some b) Wx W2 → (∀ b, v'.ownBlock = some b → vw.ownBlock = some b ∨ Wx.heap.size ≤ b) → Hid (W2.ownsRow 0 60 2 (.slice a1 o.evs.length c1) o.evs.length (qam o.evs) ∧ ∀ b, (Value.slice a1 o.evs.length c1).ownBlock = some b → ¬ F b ∧ ¬ P1 b ∧ b ≠ rb ∧ vp.ownBlock ≠ some b ∧ v'.ownBlock ≠ some b) ∧ Keep (fun b => ¬ F b) W W2) := by
    intro w1 Wx W2 P1 a1 c1 v' ⟨g1, g2, g3, g4, g5⟩ hb hk hv'
    have hwl : ∀ b, vw.ownBlock = some b → ¬ F b ∧ b < W.heap.size := fun b hb => ⟨h.lo b (.inr (.inr (.inr (.inl hb)))), qap h.wrow hb⟩
    refine ⟨⟨qaf (qfq g2 hb) hk (fun b hb' e => ?_), fun b hb' => ?_⟩, (g4.trans (Keep.new hb)).trans (hk.mono (fun b e => ?_))⟩
    · have := (g3 b hb').1
      rcases e with rfl | e
      · omega
      · have := (hwl b e).2; omega
    · have h1 := g3 b hb'
      have h2 := qap g2 hb'
      refine ⟨fun e => by have := h.fo b e; omega, h1.2, by omega, fun e => ?_, fun e => ?_⟩
      · have := qap h.prow e; omega
      · rcases hv' b e with e2 | e2
        · have := (hwl b e2).2; omega
        · have := hb.size; omega
    · rcases e with rfl | e
      · exact hz.1
      · exact (hwl b e).1
  have b0 : Blk (W.alloc (.cells #[.int .i64 a, .int .i64 b] 35)) W.heap.size 35 #[.int .i64 a, .int .i64 b] := Blk.new W 35 _
  have c0 := h.at_.cell 0
  have c1 := h.at_.cell 1
  simp only [List.getElem?_toArray, List.getElem?_cons_zero, List.getElem?_cons_succ] at c0 c1
  rw [hvp] at c1
  have n0' := World.new_ne W _ c0
  have n1' := World.new_ne W _ c1
  have n2' := World.new_ne W _ q0
  have hli : (leaf : Int) < R.paths.length := by omega
  have hli0 : (0 : Int) ≤ leaf := by omega
  have HPL : Hid (∀ b, vp.ownBlock = some b → b < W.heap.size) := fun b hb => qap h.prow hb
  have HWL : Hid (∀ b, vw.ownBlock = some b → b < W.heap.size) := fun b hb => qap h.wrow hb
  generalize R.paths.length = np at *
  obtain ⟨n, hn⟩ : ∃ n, n = R.works.length := ⟨_, rfl⟩
  rw [← hn] at hvw hcw1 hlen hap
  clear hn htk hm he ho h hp
  go_enter Tryz.func24, Tryz.ntmps24
  go_upto_region 1 with fail
  go_region_held3 (fun w' => w'.cell? ⟨rb, 0, none⟩ = some (.pointer (some ⟨bt, 0, none⟩)) ∧ w'.cell? ⟨rb, 1, none⟩ = some (.slice (some ⟨gp, 0, none⟩) np cp) ∧ w'.cell? ⟨gp, leaf, none⟩ = some (.string (sb (qaa p))) ∧ w'.cell? ⟨W.heap.size, 0, none⟩ = some (.int .i64 a) ∧ w'.cell? ⟨W.heap.size, 1, none⟩ = some (.int .i64 b)) (go_keep)
    (first
      | (go_at_call 32; refine (hsub _ ?_ ?_).mono ?_; (focus exact bel2); (focus exact blk2); rintro e w1 ⟨a1, c1', P1, rfl, hbr1, hq1, hbd1, hfin1⟩; have d0 := hbr1.cell 0; have d1 := hbr1.cell 1; have d2 := hbr1.cell 2; have d3 := hbd1.cell 0; have d4 := hbd1.cell 1; simp only [List.getElem?_toArray, List.getElem?_cons_zero, List.getElem?_cons_succ] at d0 d1 d2 d3 d4; rw [hvp] at d1; rw [hvw] at d2))
  have hni : ¬ ((n : Int) = 24) := by omega
  have hcp : (0 : Int) < R.k.cnt + 1 := by omega
  have hR1 : Hid (RunM F w1 rb { R with k := o.ks } P1 bt vp vw vl) := hfin1.out.1
  have hbl1 := hbd1.lt
  have hrb1 := hbr1.lt
  clear c0 c1 n0' n1' n2' b0 hsub q0
  go_upto_region 4 with fail
  have hap1 := fun Wx nb => hap w1 Wx P1 nb hR1
  clear hap hR1
  rw [hvw] at hap1
  go_region_law (refine qa8 rfl (.tmp 49) (.tmp 54) 47 47 rfl _ _ ?_ ?_ (hap1 _ w1.heap.size ?_ ?_) ?_; (focus (simp [Act.eval, Act.put])); (focus ((try simp [Act.eval, Act.put]); (try rfl))); (focus exact bel2); (focus exact blk2); rintro v' wA ⟨g', cap', rfl, hbA, hfin⟩; have hcA := hbA.cell 2; have hfA := hbA.frozen 2; simp only [List.getElem?_toArray, List.getElem?_cons_zero, List.getElem?_cons_succ] at hcA)
  all_goals have hk2 := hfin.out.2.1
  all_goals have hv2 := hfin.out.2.2
  all_goals rw [← hvw] at hk2 hv2
  all_goals obtain ⟨hr2, hB2⟩ := HF.out w1 _ _ P1 a1 c1' _ hfin1.out (by exact bel2) hk2 hv2
  all_goals clear hk2 hv2
  all_goals clear hap1 HF
  all_goals go_wp2_with (go_at_call 48; refine (htak _ P1 _ a1 c1' hfin.out.1 hr2).mono ?_; rintro e w3 ⟨rfl, hend⟩)
  all_goals go_ret
  all_goals exact ⟨rfl, hend.out.1, hB2.trans hend.out.2⟩
end
end Go.Proofs.YtphclnolomgjoaaGreatDoor
namespace Go.Proofs.YtphclnolomgjoaaGreatDoor
open Go.RowKit
section
variable {F : Nat → Prop} {W w' : World} {rb : Nat} {R : KR}
variable {bt : Nat}
set_option maxRecDepth 100000 in
set_option maxHeartbeats 4000000 in
theorem ksubmit_fullB (h : RunB bt F W rb R) {leaf : Nat} {p : List Bs} (hp : R.paths[leaf]? = some p) (hps : (sb (qaa p)).size ≤ 2000000) (hpl : R.paths.length ≤ 100) (a b : Int) (he : errS R.k.L R.k.Ws (qaa p) (qao a b) = 7) (hlen : R.works.length = 24) (hcnt : R.k.cnt ≤ 1999999) :
    Calls Tryz.prog 24 #[.pointer (some ⟨rb, 0, none⟩), .int .i64 leaf, .agg #[.int .i64 a, .int .i64 b]] W fun e w' => e = .returned (.bool true) ∧ RunB bt F w' rb R ∧ Keep (fun b => ¬ F b) W w' := by
  obtain ⟨P, vp, vw, vl, h⟩ := h
  obtain ⟨gp, cp, hvp, hgl, hgne, hcp1, hcp2, q0⟩ := h.path hp
  have hll := (List.getElem?_eq_some_iff.1 hp).1
  obtain ⟨aw, cw, hvw, hcw1, hcw2⟩ := qa7 h.wrow
  have hz := h.size
  have hPlt := h.tw.lt
  have ho : R.k.qbk (qaa p) a b = R.k.same 7 := by unfold KS.qbk; rw [he]; rfl
  have hsub : ∀ Wx, Below W.heap.size W Wx → Blk Wx W.heap.size 35 #[.int .i64 a, .int .i64 b] → Calls Tryz.prog 32 #[.pointer (some ⟨bt, 0, none⟩), .string (sb (qaa p)), .agg #[.int .i64 a, .int .i64 b]] Wx fun e w1 => ∃ a1 c1, e = .returned (.tuple #[.int .i64 0, .slice a1 0 c1, .int .i64 7]) ∧ Blk w1 rb 50 #[.pointer (some ⟨bt, 0, none⟩), vp, vw, .int .i64 R.qav, vl] ∧ w1.cell? ⟨gp, leaf, none⟩ = some (.string (sb (qaa p))) ∧ Blk w1 W.heap.size 35 #[.int .i64 a, .int .i64 b] ∧
      Hid (RunB bt F w1 rb R ∧ Keep (fun b => ¬ F b) W w1) := fun Wx hb hB => by
    have hx := h.below hb
    refine (qlh hx.tw hcnt (sb (qaa p)) hps a b).mono ?_
    rw [qbs, he, ho]
    rintro e w1 ⟨ev, rfl, hO⟩
    obtain ⟨P1, g1, g2, g3, g4⟩ := hx.called hO
    obtain ⟨a1, c1, rfl, _, _⟩ := qa7 g2
    obtain ⟨_, _, e1, _, _, _, _, q1⟩ := g1.path (i := leaf) (p := p) hp
    have e1' := hvp.symm.trans e1
    injection e1' with e2
    injection e2 with e2
    injection e2 with e2
    subst e2
    obtain ⟨_, _, _, _, _, k5⟩ := hO
    exact ⟨a1, c1, rfl, g1.at_, q1, hB.keep k5 (fun e => by have := hPlt _ e; omega), ⟨_, _, _, _, g1⟩, (Keep.new hb).trans g4⟩
  have b0 : Blk (W.alloc (.cells #[.int .i64 a, .int .i64 b] 35)) W.heap.size 35 #[.int .i64 a, .int .i64 b] := Blk.new W 35 _
  have c0 := h.at_.cell 0
  have c1 := h.at_.cell 1
  simp only [List.getElem?_toArray, List.getElem?_cons_zero, List.getElem?_cons_succ] at c0 c1
  rw [hvp] at c1
  have n0' := World.new_ne W _ c0
  have n1' := World.new_ne W _ c1
  have n2' := World.new_ne W _ q0
  have hli : (leaf : Int) < R.paths.length := by omega
  have hli0 : (0 : Int) ≤ leaf := by omega
  generalize R.paths.length = np at *
  rw [hlen] at hvw hcw1
  clear he ho h hp
  go_enter Tryz.func24, Tryz.ntmps24
  go_upto_region 1 with fail
  go_region_held3 (fun w' => w'.cell? ⟨rb, 0, none⟩ = some (.pointer (some ⟨bt, 0, none⟩)) ∧ w'.cell? ⟨rb, 1, none⟩ = some (.slice (some ⟨gp, 0, none⟩) np cp) ∧ w'.cell? ⟨gp, leaf, none⟩ = some (.string (sb (qaa p))) ∧ w'.cell? ⟨W.heap.size, 0, none⟩ = some (.int .i64 a) ∧ w'.cell? ⟨W.heap.size, 1, none⟩ = some (.int .i64 b)) (go_keep)
    (first
      | (go_at_call 32; refine (hsub _ ?_ ?_).mono ?_; (focus exact bel2); (focus exact blk2); rintro e w1 ⟨a1, c1', rfl, hbr1, hq1, hbd1, hfin1⟩; have d0 := hbr1.cell 0; have d1 := hbr1.cell 1; have d2 := hbr1.cell 2; have d3 := hbd1.cell 0; have d4 := hbd1.cell 1; simp only [List.getElem?_toArray, List.getElem?_cons_zero, List.getElem?_cons_succ] at d0 d1 d2 d3 d4; rw [hvp] at d1; rw [hvw] at d2))
  clear c0 c1 n0' n1' n2' b0 hsub q0
  go_wp2_with fail
  go_ret
  exact ⟨rfl, hfin1.out⟩
end
end Go.Proofs.YtphclnolomgjoaaGreatDoor
