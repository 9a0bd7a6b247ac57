import Derived.Test.YtphclnolomgjoaaGreatDoorZ08
import Derived.Test.YtphclnolomgjoaaGreatDoorZ07
import Derived.Test.YtphclnolomgjoaaGreatDoorB37
import Derived.Test.YtphclnolomgjoaaGreatDoorZ01
import Derived.LoopNIn
set_option linter.unusedVariables false
set_option linter.unusedSimpArgs false
namespace Go.Proofs.YtphclnolomgjoaaGreatDoor
open Go.RowKit Go.Shelf
attribute [local go_sem] Oper.semAt_some
theorem gone_calls {bt : Nat} {F : Nat → Prop} {wr : World} {rb k : Nat} {s : Stp} (h : ∃ R, RunI k R ∧ RunB bt F wr rb R) (hk : k < 50) (h1 : I64 s.k) (h2 : I64 s.a) (h3 : I64 s.b) (h4 : I64 s.c) :
    ∀ wx, Below wr.heap.size wr wx → Calls Tryz.prog 17 #[.pointer (some ⟨rb, 0, none⟩), .agg #[.int .i64 s.k, .int .i64 s.a, .int .i64 s.b, .int .i64 s.c]] wx fun e w' => e = .returned (.bool true) ∧ Hid (∃ R, RunI (k + 1) R ∧ RunB bt F w' rb R) ∧ Keep (fun b => ¬ F b) wx w' := by
  intro wx hb
  obtain ⟨R, hI, hR⟩ := h
  obtain ⟨R', _, hI', hc⟩ := kstepB (hR.below hb) hI (by omega) h1 h2 h3 h4
  refine hc.mono ?_
  rintro e w' ⟨rfl, g1, g2⟩
  exact ⟨rfl, ⟨R', hI', g1⟩, g2⟩
theorem rounds_again {F : Fence} {n : Nat} {P : Program} {Q : Exit → Act → World → Prop} {a : Act} {w : World} {c : Code} (Inv : Nat → Act → World → Prop)
    (h1 : ∀ (K : Act → World → Prop) (p : Nat) (a : Act) (w : World), p < 2 → Inv p a w → (∀ a' w', Inv (p + 1) a' w' → K a' w') → c.wpIn F n P (Exit.then K Q) a w)
    (h2 : ∀ (K : Act → World → Prop) (a : Act) (w : World), Inv 2 a w → c.wpIn F n P (Exit.then K Q) a w) (h0 : Inv 0 a w) : (Code.loop c).wpIn F n P Q a w := by
  refine wpIn_loop_rounds 3 ?_
  rw [roundsIn_succ]
  refine h1 _ 0 _ _ (by omega) h0 (fun a1 w1 h => ?_)
  rw [roundsIn_succ]
  refine h1 _ 1 _ _ (by omega) h (fun a2 w2 h => ?_)
  rw [roundsIn_succ]
  exact h2 _ _ _ h
def GAg (Wa : World) (p : Nat) (D : List Deferred) (w : World) : Prop := ∃ ms : List Nat, D = ms.map (fun r => { target := .collected r, args := #[] }) ∧ ms.length = p ∧ ms.Nodup ∧ (∀ r ∈ ms, Wa.heap.size ≤ r ∧ w.heap[r]? = some (.deferred (some []))) ∧ Below Wa.heap.size Wa w
theorem GAg.below {Wa A B : World} {p : Nat} {D : List Deferred} (h : GAg Wa p D A) (hb : Below A.heap.size A B) : GAg Wa p D B := by
  obtain ⟨ms, rfl, h1, h2, h3, h4⟩ := h
  refine ⟨ms, rfl, h1, h2, fun r hr => ?_, h4.trans (hb.mono h4.size)⟩
  obtain ⟨g1, g2⟩ := h3 r hr
  exact ⟨g1, (hb.block r (Array.getElem?_eq_some_iff.1 g2).1).trans g2⟩
theorem GAg.next {Wa Wq Wp A : World} {p z14 : Nat} {D : List Deferred} (h : GAg Wa p D Wq) (hz : z14 = Wq.heap.size) (hb : Below Wq.heap.size Wq Wp) (hzp : Wp.heap.size = Wq.heap.size + 1) (hk : Keep (fun b => b = z14) Wp A) (hD : A.heap[Wp.heap.size]? = some (.deferred (some []))) : GAg Wa (p + 1) ({ target := .collected Wp.heap.size, args := #[] } :: D) A := by
  obtain ⟨ms, rfl, h1, h2, h3, h4⟩ := h
  have hbA : Below Wq.heap.size Wq A := ⟨hk.os.trans hb.os, hk.tape.trans hb.tape, hk.output.trans hb.output, Nat.le_trans hb.size hk.size, fun b hlt => (hk.block b (by omega) (by omega)).trans (hb.block b hlt)⟩
  refine ⟨Wp.heap.size :: ms, rfl, by simp [h1], List.nodup_cons.2 ⟨fun hm => ?_, h2⟩, fun r hr => ?_, h4.trans (hbA.mono h4.size)⟩
  · have h5 := (Array.getElem?_eq_some_iff.1 (h3 _ hm).2).1
    omega
  · rcases List.mem_cons.1 hr with rfl | hr
    · exact ⟨by have := h4.size; omega, hD⟩
    · obtain ⟨g1, g2⟩ := h3 r hr
      exact ⟨g1, (hbA.block r (Array.getElem?_eq_some_iff.1 g2).1).trans g2⟩
def nthV : List Value → Nat → Value
  | [], _ => undef
  | x :: _, 0 => x
  | _ :: l, n + 1 => nthV l n
def agF (z6 z8 z12 : Nat) (v13 : Value) (u : Nat → Value) (D : List Deferred) : Act := { tmps := #[u 0, u 1, u 2, u 3, u 4, u 5, .pointer (some ⟨z6, 0, none⟩), u 7, .pointer (some ⟨z8, 0, none⟩), .func (.func 60) #[] #[.pointer (some ⟨z8 + 1, 0, none⟩)], u 10, u 11, .pointer (some ⟨z12, 0, none⟩), v13, u 14, u 15, u 16, u 17, u 18, u 19, u 20, u 21, u 22, u 23, u 24, u 25, u 26, u 27, u 28, u 29, u 30, u 31, u 32, u 33, u 34, u 35, u 36, u 37, u 38, u 39, u 40, u 41, u 42, u 43, u 44, u 45, u 46, u 47, u 48, u 49, u 50, u 51, u 52, u 53, u 54, u 55, u 56, u 57, u 58, u 59, u 60, u 61, u 62, u 63, u 64, u 65, u 66, u 67, u 68, u 69, u 70, u 71, u 72, u 73, u 74, u 75, u 76, u 77, u 78, u 79, u 80, u 81, u 82, u 83, u 84, u 85, u 86, u 87, u 88, u 89, u 90, u 91, u 92, u 93, u 94, u 95, u 96, u 97, u 98, u 99, u 100, u 101, u 102, u 103, u 104, u 105, u 106, u 107, u 108, u 109, u 110, u 111, u 112, u 113, u 114, u 115, u 116, u 117, u 118, u 119, u 120, u 121, u 122, u 123, u 124, u 125, u 126, u 127, u 128, u 129, u 130, u 131, u 132, u 133, u 134, u 135, u 136, u 137, u 138, u 139, u 140, u 141, u 142, u 143, u 144, u 145, u 146, u 147, u 148, u 149, u 150], defers := D }
theorem ag_intro {Wa : World} {z6 z8 z12 p : Nat} {v13 : Value} {t : List Value} {D : List Deferred} {w : World} (h : t.toArray = (agF z6 z8 z12 v13 (nthV t) D).tmps) (hv : v13 = .int .i64 (p : Nat)) (hG : GAg Wa p D w) : ∃ u D' v, (v = .int .i64 (p : Nat) ∧ GAg Wa p D' w) ∧ ({ tmps := t.toArray, defers := D } : Act) = agF z6 z8 z12 v u D' := ⟨nthV t, D, v13, ⟨hv, hG⟩, by rw [h]; rfl⟩
theorem wpListIn_append_key {F : Fence} {n : Nat} {P : Program} {w : World} {ops : Array Oper} {rest : List Oper} {o : Oper} {a : Act} {Q : Exit → Act → World → Prop} {R : Value → World → Prop} (hgd : o.guard = none) (s x : Operand) (t tn : TypeId)
    (ho : o.op = .call { callee := .builtin .append, args := #[s, x], argTypes := #[t, tn] }) (vs vx : Value) (hs : a.eval s = vs) (hx : a.eval x = vx)
    (hk : ∃ v' w', (∀ ty, (Builtin.append_ #[t, tn] ty #[vs, vx]).run P w = .ok v' w') ∧ R v' w') (h : ∀ v' w', R v' w' → wpListIn F n P ops Q rest (a.put o.dst v') w') : wpListIn F n P ops Q (o :: rest) a w := by
  obtain ⟨v', w', hr, hR⟩ := hk
  refine wpListIn_plain hgd (fun K hK => ?_)
  have hr' := hr o.type
  unfold Oper.wpIn
  refine ⟨?_, ?_⟩
  · simp [Oper.about, ho, resolve, Target.leads, Sem.run_pure]
  · rw [Oper.semAt_plain F _ _ (by rw [ho]; intro c hc'; cases hc')]
    simp [execOp, ho, resolve, invoke, builtin, hs, hx, hr', Result.andThen]
    exact hK _ _ (h v' w' hR)
set_option maxRecDepth 100000 in
set_option maxHeartbeats 8000000 in
theorem gone_walk {W : World} {aq as_ : Option Addr} {lq cq ls cs : Nat} {q : Nat → Int} {S : Nat → Stp} (hq : QIn W aq lq q) (hlq : lq ≤ cq) (hcq : cq ≤ maxLen) (hS : StIn W as_ ls S) (hls : ls ≤ cs) (hcs : cs ≤ maxLen) {early : Int} (hE : I64 early) :
    Calls Tryz.prog 12 #[.slice aq lq cq, .slice as_ ls cs, .int .i64 early] W fun e w' => e = .returned (.bool true) ∧ Below W.heap.size W w' := by
  have HS : Hid (StIn W as_ ls S) := hS
  clear hS
  have hlen : ls ≤ 9223372036854775807 := by unfold maxLen at hcs; omega
  have hdd : ∀ k : Nat, Fence.wide.depth.isSome = true → 1 ≤ k := fun k h => by simp [Fence.wide] at h
  have hcmp : ∀ (c : Array Value) (w : World), (binOp BinOp.eql 72 (.func (.func 60) #[] c) .nilFunc).run Tryz.prog w = .ok (.bool false) w := fun c w => by simp [binOp, go_sem]; rfl
  have hQ : ∀ W', Below W.heap.size W W' → QIn W' aq lq q := fun W' hb => hq.below (n := 0) hb
  refine (callsIn_wide (n := 3)).1 ?_
  refine callsIn_of_wp_marks Tryz.func12 rfl trivial ?_ rfl
  simp only [Tryz.ntmps12, List.size_toArray, List.length_cons, List.length_nil, Nat.reduceAdd, Nat.reduceSub, Array.replicate_succ, Array.replicate_zero, List.push_toArray, List.append_toArray, List.nil_append, List.cons_append]
  gi_upto_region 5 with ((first | refine ⟨trivial, hdd _, ?_⟩ | refine ⟨trivial, ?_⟩); (first
    | (gi_at_call 15; refine (callsIn_wide.2 (ql8 _)).mono ?_; rintro e w1 ⟨rfl, hb1⟩; have hB1 : Below W.heap.size W w1 := qab (by exact bel2) hb1)
    | (gi_at_call 16; refine (callsIn_wide.2 (qqs (hQ _ hB1) hlq hcq)).mono ?_; rintro e w2 ⟨rb, rfl, hR2, hb2⟩)))
  obtain ⟨P, bt, vp, vw, vl, hM2⟩ := id hR2
  have c0 := hM2.at_.cell 0
  have hrl := hM2.at_.lt
  simp only [List.getElem?_toArray, List.getElem?_cons_zero, List.getElem?_cons_succ] at c0
  have n0 : ¬ (rb = w2.heap.size) := by omega
  gi_upto_region 6 with ((first | refine ⟨trivial, hdd _, ?_⟩ | refine ⟨trivial, ?_⟩); (gi_at_call 33; refine (callsIn_wide.2 (all33 bt _)).mono ?_; rintro e w3 ⟨rfl, hw3⟩; subst hw3))
  iterate 7 gi_step
  obtain ⟨W3, hW3⟩ : ∃ W3, W3 = (w2.alloc (.cells #[.pointer (some ⟨rb, 0, none⟩)] 28)).alloc (.cells #[.pointer (some ⟨bt, 0, none⟩)] 45) := ⟨_, rfl⟩
  have b8 : Blk W3 w2.heap.size 28 #[.pointer (some ⟨rb, 0, none⟩)] := by rw [hW3]; exact (Blk.new w2 28 _).alloc _
  have b9 : Blk W3 (w2.heap.size + 1) 45 #[.pointer (some ⟨bt, 0, none⟩)] := by rw [hW3]; exact Blk.new' (by simp)
  have hb3 : Below w2.heap.size w2 W3 := by rw [hW3]; exact ((Below.refl _ _).alloc (Nat.le_refl _) _).alloc (by simp) _
  have hz3 : W3.heap.size = w2.heap.size + 2 := by rw [hW3]; simp
  have b6 : Blk W3 W.heap.size 4 #[.bool false] := ((((Blk.new W 4 _).below hb1 (by simp)).below hb2 (by have := hb1.size; simp at this; omega))).below hb3 (by have := hb1.size; have := hb2.size; simp at *; omega)
  obtain ⟨F3, hF3⟩ : ∃ F3 : Nat → Prop, F3 = fun b => b < w1.heap.size ∨ b = w2.heap.size ∨ b = w2.heap.size + 1 := ⟨_, rfl⟩
  have hR0 : Hid (∃ R, RunI 0 R ∧ RunB bt F3 W3 rb R) := by
    obtain ⟨nodes, K⟩ := hR2.kinv
    refine ⟨_, qyt K, P, vp, vw, vl, hM2.fo' (T := fun _ => False) (Keep.new hb3) (fun b h => h.elim) (fun b h => ?_) (fun b h => ?_)⟩
    · rw [hF3] at h
      rcases h with h | h | h
      · exact .inl h
      · exact .inr (by omega)
      · exact .inr (by omega)
    · rw [hF3] at h
      have := hb2.size
      omega
  have hz1 := hb2.size
  have hW0 : W.heap.size < w1.heap.size := by have := hb1.size; simp at this; omega
  have hBW3 : Below w1.heap.size w1 W3 := hb2.trans (hb3.mono hb2.size)
  have hF8 : F3 w2.heap.size := by rw [hF3]; exact .inr (.inl rfl)
  have hF9 : F3 (w2.heap.size + 1) := by rw [hF3]; exact .inr (.inr rfl)
  have hF6 : ∀ b, b < w1.heap.size → F3 b := fun b hb => by rw [hF3]; exact .inl hb
  rw [← hW3]
  clear hW3 hM2 hR2 hQ hq c0 hb2 hb3 hF3 n0
  generalize w2.heap.size = z8 at *
  gi_cut [10] from 200 (fun v10 wr => Hid (∃ k : Nat, k ≤ 50 ∧ ∃ R, RunI k R ∧ RunB bt F3 wr rb R) ∧ Keep (fun b => ¬ F3 b) W3 wr)
  case first =>
    gi_upto_region 7 with fail
    gi_loopw [10] (fun i wr => ∃ k : Nat, k ≤ 50 ∧ k ≤ ls ∧ i = .int .i64 k ∧ Hid (∃ R, RunI k R ∧ RunB bt F3 wr rb R) ∧ Keep (fun b => ¬ F3 b) W3 wr) (fun i _ => 50 - (intOf i).toNat)
    case atStart => exact ⟨0, Nat.zero_le _, Nat.zero_le _, rfl, hR0, Keep.refl _ _⟩
    case round =>
      obtain ⟨k, hk, hkl, rfl, hR, hK⟩ := hrel
      have hBr : Below w1.heap.size w1 wr := hBW3.trans ⟨hK.os, hK.tape, hK.output, hK.size, fun b hb => hK.block b (by have := hBW3.size; omega) (fun e => e (hF6 b hb))⟩
      have hBW : Below W.heap.size W wr := hB1.trans (hBr.mono hB1.size)
      have d8 := b8.keep hK (fun e => e hF8)
      have d9 := b9.keep hK (fun e => e hF9)
      have d6 := b6.keep hK (fun e => e (hF6 _ hW0))
      have e8 := d8.cell 0
      simp only [List.getElem?_toArray, List.getElem?_cons_zero, List.getElem?_cons_succ] at e8
      by_cases hlt : k < ls ∧ k < 50
      · obtain ⟨hlt1, hlt2⟩ := hlt
        obtain ⟨gb, off, rfl, hgb, q0, q1, q2, q3, i0, i1, i2, i3⟩ := HS.out k hlt1
        have r0 := (hBW.cell (p := ⟨gb, off + k * 4, none⟩) hgb).trans q0
        have r1 := (hBW.cell (p := ⟨gb, off + k * 4 + 1, none⟩) hgb).trans q1
        have r2 := (hBW.cell (p := ⟨gb, off + k * 4 + 2, none⟩) hgb).trans q2
        have r3 := (hBW.cell (p := ⟨gb, off + k * 4 + 3, none⟩) hgb).trans q3
        have hst := gone_calls hR.out hlt2 i0 i1 i2 i3
        have hki : (k : Int) < ls := by omega
        have hki0 : (0 : Int) ≤ k := by omega
        have hki5 : (k : Int) < 50 := by omega
        have hgw : gb < w1.heap.size := by omega
        have HCL : Hid (∀ wx w', Keep (fun b => ¬ F3 b) wx w' → Below wr.heap.size wr wx → w'.cell? ⟨z8, 0, none⟩ = some (.pointer (some ⟨rb, 0, none⟩)) ∧ w'.cell? ⟨gb, off + k * 4, none⟩ = some (.int .i64 (S k).k) ∧ w'.cell? ⟨gb, off + k * 4 + 1, none⟩ = some (.int .i64 (S k).a) ∧ w'.cell? ⟨gb, off + k * 4 + 2, none⟩ = some (.int .i64 (S k).b) ∧ w'.cell? ⟨gb, off + k * 4 + 3, none⟩ = some (.int .i64 (S k).c)) := fun wx w' hk hb => by
          have hk2 : Keep (fun b => ¬ F3 b) wr w' := (Keep.new hb).trans hk
          have hg := fun (a : Nat) => hk2.cell (p := ⟨gb, a, none⟩) (by have := hBr.size; show gb < wr.heap.size; omega) (fun e => e (hF6 gb hgw))
          exact ⟨(hk2.cell (p := ⟨z8, 0, none⟩) d8.lt (fun e => e hF8)).trans e8, (hg _).trans r0, (hg _).trans r1, (hg _).trans r2, (hg _).trans r3⟩
        clear q0 q1 q2 q3 hR
        gi_upto_region 9 with fail
        refine wpIn_wide.2 ?_
        go_region_held3 (fun w' => w'.cell? ⟨z8, 0, none⟩ = some (.pointer (some ⟨rb, 0, none⟩)) ∧ w'.cell? ⟨gb, off + k * 4, none⟩ = some (.int .i64 (S k).k) ∧ w'.cell? ⟨gb, off + k * 4 + 1, none⟩ = some (.int .i64 (S k).a) ∧ w'.cell? ⟨gb, off + k * 4 + 2, none⟩ = some (.int .i64 (S k).b) ∧ w'.cell? ⟨gb, off + k * 4 + 3, none⟩ = some (.int .i64 (S k).c)) (go_keep)
          (first
            | (go_at_call 17; refine (hst _ ?_).mono ?_; (focus exact bel2); rintro e w4 ⟨rfl, hR4, hK4⟩; obtain ⟨g0, g1, g2, g3, g4⟩ := HCL.out _ _ hK4 (by exact bel2)))
        have hK5 : Keep (fun b => ¬ F3 b) wr w4 := (Keep.new (show Below wr.heap.size wr _ by exact bel2)).trans hK4
        gi_wp2
        exact ⟨⟨k + 1, by omega, by omega, by go_num, hR4, hK.trans hK5⟩, by simp [intOf]; omega⟩
      · have hki2 : ¬ ((k : Int) < ls) ∨ ((k : Int) < ls ∧ ¬ ((k : Int) < 50)) := by omega
        have hki0 : (0 : Int) ≤ k := by omega
        have HE : Hid (∃ k : Nat, k ≤ 50 ∧ ∃ R, RunI k R ∧ RunB bt F3 wr rb R) := ⟨k, hk, hR.out⟩
        clear hR
        rcases hki2 with hki2 | ⟨hki1, hki2⟩
        · gi_wp2
          gi_meet
          exact ⟨HE, hK⟩
        · gi_wp2
          gi_meet
          exact ⟨HE, hK⟩
  case rest =>
    obtain ⟨HR, hK⟩ := hcut
    obtain ⟨k, hk, R, hI, hR⟩ := HR.out
    have hBr : Below w1.heap.size w1 wc := hBW3.trans ⟨hK.os, hK.tape, hK.output, hK.size, fun b hb => hK.block b (by have := hBW3.size; omega) (fun e => e (hF6 b hb))⟩
    have hBW : Below W.heap.size W wc := hB1.trans (hBr.mono hB1.size)
    have d8 := b8.keep hK (fun e => e hF8)
    have d9 := b9.keep hK (fun e => e hF9)
    have d6 := b6.keep hK (fun e => e (hF6 _ hW0))
    have e8 := d8.cell 0
    simp only [List.getElem?_toArray, List.getElem?_cons_zero, List.getElem?_cons_succ] at e8
    have hpk := qfz early 11 hE (by omega) (by omega)
    have hp11 := qef early (n := 11) (by omega)
    obtain ⟨P', vp', vw', vl', hM⟩ := id hR
    obtain ⟨ap, cp, hvp, hcp1, hcp2⟩ := qa7 hM.prow
    rw [hI.len] at hvp
    subst hvp
    have c1 := hM.at_.cell 1
    simp only [List.getElem?_toArray, List.getElem?_cons_zero, List.getElem?_cons_succ] at c1
    have hrlr := hM.at_.lt
    clear HR hR0 b8 b9 b6 hK
    gi_upto_region 16 with ((first | refine ⟨trivial, hdd _, ?_⟩ | refine ⟨trivial, ?_⟩); (gi_at_call 23; refine (callsIn_wide.2 (hpk _)).mono ?_; rintro e w5 ⟨rfl, hw5⟩; subst hw5))
    obtain ⟨kk, hkk⟩ : ∃ kk, kk = pkN early 11 := ⟨_, rfl⟩
    rw [← hkk] at hp11 ⊢
    clear hkk hpk
    obtain ⟨Wa, hWa⟩ : ∃ Wa, Wa = w5.alloc (.cells #[.int .i64 kk] 3) := ⟨_, rfl⟩
    have a12 : Blk Wa w5.heap.size 3 #[.int .i64 kk] := by rw [hWa]; exact Blk.new w5 3 _
    have hBa : Below w5.heap.size w5 Wa := by rw [hWa]; exact (Below.refl _ _).alloc (Nat.le_refl _) _
    have hza : Wa.heap.size = w5.heap.size + 1 := by rw [hWa]; simp
    have a8 := d8.below hBa d8.lt
    have a9 := d9.below hBa d9.lt
    have a6 := d6.below hBa d6.lt
    have aM := hM.below hBa
    have aR := hR.below hBa
    have hBWa : Below W.heap.size W Wa := hBW.trans (hBa.mono hBW.size)
    rw [← hWa]
    clear hWa d8 d9 d6 e8 c1 hM hR hBr hBW hrlr
    generalize w5.heap.size = z12 at *
    clear hBa
    refine rounds_again (fun p a w => ∃ u D v, (v = .int .i64 (p : Nat) ∧ GAg Wa p D w) ∧ a = agF W.heap.size z8 z12 v u D) ?pass ?last ?start
    case start =>
      refine ag_intro rfl rfl ?_
      exact ⟨[], rfl, rfl, List.nodup_nil, by simp, Below.refl _ _⟩
    case last =>
      rintro KN act wq ⟨u, D, v13, ⟨rfl, hG⟩, rfl⟩
      unfold agF
      obtain ⟨ms, rfl, hml, hnd, hmr, hBq⟩ := hG
      obtain ⟨m2, m1, rfl⟩ : ∃ m2 m1, ms = [m2, m1] := by
        match ms, hml with
        | [a, b], _ => exact ⟨a, b, rfl⟩
      obtain ⟨h2a, h2b⟩ := hmr m2 (by simp)
      obtain ⟨h1a, h1b⟩ := hmr m1 (by simp)
      have hm12 : ¬ (m1 = m2) := by intro e; rw [e] at hnd; simp at hnd
      have d6 := a6.below hBq a6.lt
      have dc := d6.cell 0
      have df := d6.frozen
      have hWW : W.heap.size < Wa.heap.size := a6.lt
      simp only [List.getElem?_toArray, List.getElem?_cons_zero, List.getElem?_cons_succ] at dc
      have hBl : Below W.heap.size W wq := hBWa.trans (hBq.mono hBWa.size)
      clear hmr hnd aM aR a8 a9 a12
      gi_wp2
      have hD2 : (wq.setCell ⟨W.heap.size, 0, none⟩ (.bool true)).heap[m2]? = some (.deferred (some [])) := (Below.heap_setCell _ _ _ _ (by simp; omega)).trans h2b
      have hD1 : ((wq.setCell ⟨W.heap.size, 0, none⟩ (.bool true)).putObj m2 (.deferred none)).heap[m1]? = some (.deferred (some [])) := (World.putObj_heap_other (by omega)).trans ((Below.heap_setCell _ _ _ _ (by simp; omega)).trans h1b)
      have k6 : Keep (fun b => b = m2 ∨ b = m1) (wq.setCell ⟨W.heap.size, 0, none⟩ (.bool true)) (((wq.setCell ⟨W.heap.size, 0, none⟩ (.bool true)).putObj m2 (.deferred none)).putObj m1 (.deferred none)) := ((Keep.refl _ _).putObj (.inl rfl) _).putObj (.inr rfl) _
      have hb := ((d6.set 0 (.bool true)).keep k6 (by omega)).cell 0
      simp at hb
      refine ⟨by simp, .inl ⟨_, _, rfl, run_takeDeferred hD2, ?_⟩⟩
      refine ⟨by simp, .inl ⟨_, _, rfl, run_takeDeferred hD1, ?_⟩⟩
      exact ⟨.bool true, by simp [results, Tryz.results12, go_sem, hb], rfl, qay (qay (hBl.setCell (by simp) _) _ _ (by omega)) _ _ (by omega)⟩
    case pass =>
      rintro KN p act wq hp2 ⟨u, D, v13, ⟨rfl, HG0⟩, rfl⟩ hNext
      unfold agF
      have HG : Hid (GAg Wa p D wq) := HG0
      have HN : Hid (∀ a' w', (∃ u D v, (v = .int .i64 ((p + 1 : Nat) : Int) ∧ GAg Wa (p + 1) D w') ∧ a' = agF W.heap.size z8 z12 v u D) → KN a' w') := hNext
      have hBq : Below Wa.heap.size Wa wq := by obtain ⟨_, _, _, _, _, h⟩ := HG0; exact h
      clear HG0
      have hpi : (p : Int) < 2 := by omega
      have hp0 : (0 : Int) ≤ p := by omega
      clear hNext
      gi_upto_region 19 with fail
      gi_wp2
      obtain ⟨Wp, hWp⟩ : ∃ Wp, Wp = wq.alloc (.cells #[.slice none 0 0] 46) := ⟨_, rfl⟩
      have b14 : Blk Wp wq.heap.size 46 #[.slice none 0 0] := by rw [hWp]; exact Blk.new wq 46 _
      have hBp : Below wq.heap.size wq Wp := by rw [hWp]; exact (Below.refl _ _).alloc (Nat.le_refl _) _
      have hzp : Wp.heap.size = wq.heap.size + 1 := by rw [hWp]; simp
      have hBWp : Below Wa.heap.size Wa Wp := hBq.trans (hBp.mono hBq.size)
      have hqs := hBq.size
      have b12 := a12.below hBWp a12.lt
      have p8 := a8.below hBWp a8.lt
      have p9 := a9.below hBWp a9.lt
      have p9c := p9.cell 0
      simp only [List.getElem?_toArray, List.getElem?_cons_zero, List.getElem?_cons_succ] at p9c
      have hRp := aR.below hBWp
      obtain ⟨xs, h9, hxp, hxs, htell⟩ := gone_tell hRp hI
      have hz14 : wq.heap.size < Wp.heap.size := by omega
      have hzz : ¬ (z12 = wq.heap.size) := by have := a12.lt; omega
      have HRUN : Hid (∀ A, Keep (fun b => b = wq.heap.size) Wp A → ∃ P, RunM F3 A rb R P bt (.slice ap 8 cp) vw' vl') := fun A hk => by
        have hMp := aM.below hBWp
        refine ⟨P', hMp.keep hk (fun b hb e => ?_)⟩
        have hlt : b < Wa.heap.size := by
          rcases hb with hb | rfl | hb | hb | hb
          · exact aM.tw.lt b hb
          · exact aM.at_.lt
          · exact qap aM.prow hb
          · exact qap aM.wrow hb
          · exact qap aM.lrow hb
        omega
      have HGN : Hid (∀ A, Keep (fun b => b = wq.heap.size) Wp A → A.heap[Wp.heap.size]? = some (.deferred (some [])) → GAg Wa (p + 1) ({ target := .collected Wp.heap.size, args := #[] } :: D) A) := fun A hk hD => HG.out.next rfl hBp hzp hk hD
      obtain ⟨nodes, K⟩ := aR.kinv
      have hxm : ∀ x ∈ xs, x ∈ R.k.L := fun x hx => hxp.mem_iff.1 hx
      have hxk : ∀ x ∈ xs, qbx x.key = true ∧ x.key.length ≤ 4 := fun x hx => by
        have h1 := hxm x hx
        rw [← K.L] at h1
        obtain ⟨m, hm, rfl⟩ := List.mem_map.1 h1
        exact K.tree.ok m hm
      have hz68 : ¬ (z8 = wq.heap.size) := by have := a8.lt; omega
      rw [← hWp]
      clear hWp HG
      generalize wq.heap.size = z14 at *
      refine rf_law3 (σ := IS) (gf := 60) (lb := #[.pointer (some ⟨z8 + 1, 0, none⟩)]) rfl (enters_of Tryz.func60 (by kernel_rfl) rfl) (enc := fun x => #[.agg (x.q x.j).vals]) (nx := IS.next) (more := fun x => x.j < 9) (fin := fun x => x.j = 9) (Start := fun s A => s.j = 0 ∧ GTol R xs (Wp.heap.size + 2) s A)
        (Cells := fun x A => ∃ g, x.a = some ⟨g, 0, none⟩ ∧ g < A.heap.size ∧ ∀ i u, (x.q x.j).vals[i]? = some u → A.cell? ⟨g, x.j * 9 + i, none⟩ = some u) ?seq (fun _ => rfl)
        (GnI Wp z14 kk R xs) (fun c x A => c = .exit 4 ∧ ∃ y, y.j = kk ∧ GnI Wp z14 kk R xs y A) ?hI ?hIx ?start ?cells
        (fun x W => W.alloc (.cells (x.q x.j).vals 37)) (fun x W => (Below.refl _ _).alloc (Nat.le_refl _) _) ?a1 ?assign ?body ?done ?stop
      case seq =>
        intro k J Jx W1 hb hz hJ hS hC hY
        refine (iter60 (W := W1) (N := 9) (by omega) ((hb.cell (p := ⟨z8 + 1, 0, none⟩) p9.lt).trans p9c) (Start := fun s A => s.j = 0 ∧ GTol R xs (Wp.heap.size + 2) s A) ?_ k _ J Jx hJ hS hC hY).mono ?_
        · refine (htell W1 hb).mono ?_
          rintro e w' ⟨a, c, q, rfl, g1, g2, g3, g4⟩
          rw [hz] at g3
          exact ⟨a, c, q, rfl, g1, g2, ⟨rfl, g3⟩, g4⟩
        · rintro e W' ⟨h1, h2⟩
          exact ⟨h1, h2.imp id (fun ⟨x, _, hx⟩ => ⟨x, hx⟩)⟩
      case hI => exact fun x A B h hk => h.recs hz14 hk
      case hIx =>
        rintro c x A B ⟨h1, y, h2, h3⟩ hk
        exact ⟨h1, y, h2, h3.recs hz14 hk⟩
      case start =>
        rintro x A W1 ⟨hj0, hT⟩ hb hz hbA
        have hbA' : Below Wp.heap.size Wp A := qab hb hbA
        refine ⟨Keep.new hbA', hT, by omega, by omega, .slice none 0 0, b14.below hbA' b14.lt, ?_, fun b h => by simp [Value.ownBlock] at h⟩
        rw [hj0]
        exact World.ownsRow_nil _ _ _ _
      case cells => exact fun x A h hm => h.cells hm
      case assign =>
        intro l x W2 K hK
        unfold QC.vals at hK ⊢
        gi_wp2
        exact hK
      case body =>
        rintro l x W0 W2 hI2 hz2 hkW hlt
        have hbq : W0.heap.size < W2.heap.size := by have := hkW.size; simp at this; omega
        have bq0 : Blk W2 W0.heap.size 37 (x.q x.j).vals := (Blk.new W0 37 _).keep hkW (fun e => by omega)
        obtain ⟨v, s1, s2, s3⟩ := hI2.seen
        obtain ⟨av, cv, hv, hcv1, hcv2⟩ := qa7 s2
        subst hv
        have m12 := b12.keep hI2.keep hzz
        have m8 := p8.keep hI2.keep hz68
        have f14 := s1.cell 0
        have f12 := m12.cell 0
        have f8 := m8.cell 0
        simp only [List.getElem?_toArray, List.getElem?_cons_zero, List.getElem?_cons_succ] at f14 f12 f8
        by_cases hjk : x.j = kk
        · have HE : Hid (rfP3 Wp.heap.size (GnI Wp z14 kk R xs x.next) (fun c => fun A => c = .exit 4 ∧ ∃ y, y.j = kk ∧ GnI Wp z14 kk R xs y A) W2 (.exit 4) { tmps := #[], defers := [] } W2) := ⟨⟨rfl, rfl⟩, rfl, x, hjk, hI2⟩
          have hjk2 : (x.j : Int) = kk := by omega
          clear s1 s2 s3 hI2
          gi_wp2
          exact HE.out
        · have hjk2 : ((x.j : Int) == (kk : Int)) = false := by simp; omega
          obtain ⟨cs, t1, t2, t3⟩ := hI2.tol
          obtain ⟨y, hy, hvals, hqm, _⟩ := t3 x.j hlt
          have hym := List.mem_of_getElem? hy
          obtain ⟨P2, hM2⟩ := HRUN.out _ hI2.keep
          have hrb2 := hM2.at_.lt
          have f0 := hM2.at_.cell 0
          simp only [List.getElem?_toArray, List.getElem?_cons_zero, List.getElem?_cons_succ] at f0
          have hq34 : ∀ Wx, Below W2.heap.size W2 Wx → Calls Tryz.prog 34 #[.pointer (some ⟨bt, 0, none⟩), .string (sb (qaa y.key))] Wx fun e w' => ∃ a3 c3, e = .returned (.tuple #[.agg #[.string (sb (qaa y.key)), .bool y.leaf, .int .i64 (es0 (qai R.k.L (qaa y.key))), .int .i64 (es1 (qai R.k.L (qaa y.key))), .int .i64 y.b0, .int .i64 y.b1, .int .i64 (ws0 (qae R.k.Ws (qaa y.key))), .int .i64 (ws1 (qae R.k.Ws (qaa y.key))), .slice a3 (R.k.waits y).length c3], .int .i64 0]) ∧ Below Wx.heap.size Wx w' := fun Wx hb => by
            have hnm := qbi (hxk y hym).1
            have hsz : (sb (qaa y.key)).size ≤ 2000000 := by
              rw [qco]
              have := qi1 _ (hxk y hym).1
              have := (hxk y hym).2
              omega
            have hf : qeq R.k.L (qac (bl (sb (qaa y.key)))) = some y := by rw [qbs, hnm]; exact qiw K (hxm y hym)
            refine (qn5 (hM2.below hb).tw (sb (qaa y.key)) hsz (by rw [qbs, qcd, hnm]; exact (hxk y hym).1) hf).mono ?_
            rintro e w' ⟨v, rfl, g1, g2, g3⟩
            obtain ⟨a3, c3, rfl, _, _⟩ := qa7 g1
            exact ⟨a3, c3, rfl, g2⟩
          have hq0 : W2.cell? ⟨W0.heap.size, 0, none⟩ = some (.string (sb (qaa y.key))) := by
            have := bq0.cell 0
            rw [hvals] at this
            exact this
          gi_upto_region 22 with fail
          gi_cut [16, 17] from 72 (fun c16 c17 wx => ∃ b a3 c3, c16 = .pointer (some ⟨b, 0, none⟩) ∧ c17 = .int .i64 0 ∧ Below W2.heap.size W2 wx ∧ Blk wx b 37 #[.string (sb (qaa y.key)), .bool y.leaf, .int .i64 (es0 (qai R.k.L (qaa y.key))), .int .i64 (es1 (qai R.k.L (qaa y.key))), .int .i64 y.b0, .int .i64 y.b1, .int .i64 (ws0 (qae R.k.Ws (qaa y.key))), .int .i64 (ws1 (qae R.k.Ws (qaa y.key))), .slice a3 (R.k.waits y).length c3])
          case first =>
            have hmix : Tryz.prog.follows .mixedOrders = true := by kernel_rfl
            have hz8w : z8 < W2.heap.size := m8.lt
            have hS4 : ∀ W', Below W2.heap.size W2 W' → W'.cell? ⟨z8, 0, none⟩ = some (.pointer (some ⟨rb, 0, none⟩)) ∧ W'.cell? ⟨rb, 0, none⟩ = some (.pointer (some ⟨bt, 0, none⟩)) ∧ W'.cell? ⟨W0.heap.size, 0, none⟩ = some (.string (sb (qaa y.key))) ∧ Below W2.heap.size W2 W' := fun W' hb => ⟨(hb.cell (p := ⟨z8, 0, none⟩) hz8w).trans f8, (hb.cell (p := ⟨rb, 0, none⟩) hrb2).trans f0, (hb.cell (p := ⟨W0.heap.size, 0, none⟩) hbq).trans hq0, hb⟩
            clear hI2 bq0 s1 s2 s3 t1 t2 t3 hvals hqm m12 m8 hM2 f14 f12
            refine qc8 (fun W' => W'.cell? ⟨z8, 0, none⟩ = some (.pointer (some ⟨rb, 0, none⟩)) ∧ W'.cell? ⟨rb, 0, none⟩ = some (.pointer (some ⟨bt, 0, none⟩)) ∧ W'.cell? ⟨W0.heap.size, 0, none⟩ = some (.string (sb (qaa y.key))) ∧ Below W2.heap.size W2 W') (by kernel_rfl) (by kernel_rfl) (hS4 _ (by exact bel2)) (fun hS => ?_)
            refine wpAnyH_take (i := 0) (v := .pointer (some ⟨rb, 0, none⟩)) rfl (by kernel_rfl) (by kernel_rfl) (by kernel_rfl) (fun _ _ _ h => absurd h.1 (by intro e; cases e)) (Or.inl ⟨by rfl, ?_⟩) hS ?_
            · intro w' hS'
              obtain ⟨s1, s2, s3, s4⟩ := hS'
              go_simp
            try simp only [List.getElem_toArray, List.getElem_cons_zero, List.getElem_cons_succ, Act.put, List.setIfInBounds_toArray, List.set_cons_zero, List.set_cons_succ]
            refine wpAnyH_take (i := 1) (v := .pointer (some ⟨rb, 0, none⟩)) rfl (by kernel_rfl) (by kernel_rfl) (by kernel_rfl) (fun _ _ _ h => absurd h.1 (by intro e; cases e)) (Or.inl ⟨by rfl, ?_⟩) hS ?_
            · intro w' hS'
              obtain ⟨s1, s2, s3, s4⟩ := hS'
              go_simp
            try simp only [List.getElem_toArray, List.getElem_cons_zero, List.getElem_cons_succ, Act.put, List.setIfInBounds_toArray, List.set_cons_zero, List.set_cons_succ]
            refine wpAnyH_take (i := 2) (v := .pointer (some ⟨rb, 0, none⟩)) rfl (by kernel_rfl) (by kernel_rfl) (by kernel_rfl) (fun _ _ _ h => absurd h.1 (by intro e; cases e)) (Or.inl ⟨by rfl, ?_⟩) hS ?_
            · intro w' hS'
              obtain ⟨s1, s2, s3, s4⟩ := hS'
              go_simp
            try simp only [List.getElem_toArray, List.getElem_cons_zero, List.getElem_cons_succ, Act.put, List.setIfInBounds_toArray, List.set_cons_zero, List.set_cons_succ]
            refine wpAnyH_take (i := 3) (v := .pointer (some ⟨bt, 0, none⟩)) rfl (by kernel_rfl) (by kernel_rfl) (by kernel_rfl) (fun _ _ _ h => absurd h.1 (by intro e; cases e)) (Or.inl ⟨by rfl, ?_⟩) hS ?_
            · intro w' hS'
              obtain ⟨s1, s2, s3, s4⟩ := hS'
              go_simp
            try simp only [List.getElem_toArray, List.getElem_cons_zero, List.getElem_cons_succ, Act.put, List.setIfInBounds_toArray, List.set_cons_zero, List.set_cons_succ]
            refine wpAnyH_take (i := 4) (v := .pointer (some ⟨W0.heap.size, 0, none⟩)) rfl (by kernel_rfl) (by kernel_rfl) (by kernel_rfl) (fun _ _ _ h => absurd h.1 (by intro e; cases e)) (Or.inl ⟨by rfl, ?_⟩) hS ?_
            · intro w' hS'
              obtain ⟨s1, s2, s3, s4⟩ := hS'
              go_simp
            try simp only [List.getElem_toArray, List.getElem_cons_zero, List.getElem_cons_succ, Act.put, List.setIfInBounds_toArray, List.set_cons_zero, List.set_cons_succ]
            refine wpAnyH_take (i := 5) (v := .string (sb (qaa y.key))) rfl (by kernel_rfl) (by kernel_rfl) (by kernel_rfl) (fun _ _ _ h => absurd h.1 (by intro e; cases e)) (Or.inl ⟨by rfl, ?_⟩) hS ?_
            · intro w' hS'
              obtain ⟨s1, s2, s3, s4⟩ := hS'
              go_simp
            try simp only [List.getElem_toArray, List.getElem_cons_zero, List.getElem_cons_succ, Act.put, List.setIfInBounds_toArray, List.set_cons_zero, List.set_cons_succ]
            refine wpAnyH_ready (rs := [6, 10]) (by kernel_rfl) (by simp) ?_
            refine AllReadyH.cons rfl (fun K' hK => ?_) (AllReadyH.cons rfl (fun K' hK => ?_) AllReadyH.nil)
            · rw [if_pos (by rfl)]
              try simp only [List.getElem_toArray, List.getElem_cons_zero, List.getElem_cons_succ]
              go_simp
              refine (hq34 _ (by exact bel2)).mono ?_
              rintro e W3' ⟨a3, c3, rfl, hbA⟩
              have hb3 : Below W2.heap.size W2 W3' := qab (show Below W2.heap.size W2 W2.drew by exact bel2) hbA
              refine hK.out _ _ (hS4 _ hb3) (fun hS => ?_)
              clear hK
              try simp only [List.getElem_toArray, List.getElem_cons_zero, List.getElem_cons_succ, Act.put, List.setIfInBounds_toArray, List.set_cons_zero, List.set_cons_succ]
              refine wpAnyH_take (i := 7) (v := .tuple #[.agg #[.string (sb (qaa y.key)), .bool y.leaf, .int .i64 (es0 (qai R.k.L (qaa y.key))), .int .i64 (es1 (qai R.k.L (qaa y.key))), .int .i64 y.b0, .int .i64 y.b1, .int .i64 (ws0 (qae R.k.Ws (qaa y.key))), .int .i64 (ws1 (qae R.k.Ws (qaa y.key))), .slice a3 (R.k.waits y).length c3], .int .i64 0]) rfl (by kernel_rfl) (by kernel_rfl) (by kernel_rfl) (fun _ _ _ h => absurd h.1 (by intro e; cases e)) (Or.inl ⟨by rfl, ?_⟩) hS ?_
              · intro w' hS'
                obtain ⟨s1, s2, s3, s4⟩ := hS'
                go_simp
              try simp only [List.getElem_toArray, List.getElem_cons_zero, List.getElem_cons_succ, Act.put, List.setIfInBounds_toArray, List.set_cons_zero, List.set_cons_succ]
              refine wpAnyH_take (i := 8) (v := .agg #[.string (sb (qaa y.key)), .bool y.leaf, .int .i64 (es0 (qai R.k.L (qaa y.key))), .int .i64 (es1 (qai R.k.L (qaa y.key))), .int .i64 y.b0, .int .i64 y.b1, .int .i64 (ws0 (qae R.k.Ws (qaa y.key))), .int .i64 (ws1 (qae R.k.Ws (qaa y.key))), .slice a3 (R.k.waits y).length c3]) rfl (by kernel_rfl) (by kernel_rfl) (by kernel_rfl) (fun _ _ _ h => absurd h.1 (by intro e; cases e)) (Or.inl ⟨by rfl, ?_⟩) hS ?_
              · intro w' hS'
                obtain ⟨s1, s2, s3, s4⟩ := hS'
                go_simp
              try simp only [List.getElem_toArray, List.getElem_cons_zero, List.getElem_cons_succ, Act.put, List.setIfInBounds_toArray, List.set_cons_zero, List.set_cons_succ]
              refine wpAnyH_take (i := 9) (v := .int .i64 0) rfl (by kernel_rfl) (by kernel_rfl) (by kernel_rfl) (fun _ _ _ h => absurd h.1 (by intro e; cases e)) (Or.inl ⟨by rfl, ?_⟩) hS ?_
              · intro w' hS'
                obtain ⟨s1, s2, s3, s4⟩ := hS'
                go_simp
              try simp only [List.getElem_toArray, List.getElem_cons_zero, List.getElem_cons_succ, Act.put, List.setIfInBounds_toArray, List.set_cons_zero, List.set_cons_succ]
              have hz3 := hb3.size
              refine wpAnyH_ready (rs := [10]) (by kernel_rfl) (by simp) ?_
              refine AllReadyH.cons rfl (fun K' hK => ?_) AllReadyH.nil
              rw [if_pos (by rfl)]
              try simp only [List.getElem_toArray, List.getElem_cons_zero, List.getElem_cons_succ]
              go_simp
              refine hK.out _ _ (hS4 _ (by exact bel2)) (fun hS => ?_)
              clear hK
              try simp only [List.getElem_toArray, List.getElem_cons_zero, List.getElem_cons_succ, Act.put, List.setIfInBounds_toArray, List.set_cons_zero, List.set_cons_succ]
              refine wpAnyH_ready (rs := [11]) (by kernel_rfl) (by simp) ?_
              refine AllReadyH.cons rfl (fun K' hK => ?_) AllReadyH.nil
              rw [if_pos (by rfl)]
              try simp only [List.getElem_toArray, List.getElem_cons_zero, List.getElem_cons_succ]
              go_simp
              refine hK.out _ _ (hS4 _ (by exact bel2)) (fun hS => ?_)
              clear hK
              try simp only [List.getElem_toArray, List.getElem_cons_zero, List.getElem_cons_succ, Act.put, List.setIfInBounds_toArray, List.set_cons_zero, List.set_cons_succ]
              refine wpAnyH_take (i := 12) (v := .int .i64 0) rfl (by kernel_rfl) (by kernel_rfl) (by kernel_rfl) (fun _ _ _ h => absurd h.1 (by intro e; cases e)) (Or.inl ⟨by rfl, ?_⟩) hS ?_
              · intro w' hS'
                obtain ⟨s1, s2, s3, s4⟩ := hS'
                go_simp
              try simp only [List.getElem_toArray, List.getElem_cons_zero, List.getElem_cons_succ, Act.put, List.setIfInBounds_toArray, List.set_cons_zero, List.set_cons_succ]
              refine wpAnyH_done (by kernel_rfl) ⟨rfl, ?_⟩ _
              gi_wp2
              gi_meet
              exact ⟨_, a3, c3, rfl, rfl, by first | exact hb3.alloc hb3.size _ | exact (hb3.alloc hb3.size _).drew, by first | exact Blk.new' rfl | exact (Blk.new' rfl).drew⟩
            · rw [if_pos (by rfl)]
              try simp only [List.getElem_toArray, List.getElem_cons_zero, List.getElem_cons_succ]
              go_simp
              refine hK.out _ _ (hS4 _ (by exact bel2)) (fun hS => ?_)
              clear hK
              try simp only [List.getElem_toArray, List.getElem_cons_zero, List.getElem_cons_succ, Act.put, List.setIfInBounds_toArray, List.set_cons_zero, List.set_cons_succ]
              refine wpAnyH_ready (rs := [6]) (by kernel_rfl) (by simp) ?_
              refine AllReadyH.cons rfl (fun K' hK => ?_) AllReadyH.nil
              rw [if_pos (by rfl)]
              try simp only [List.getElem_toArray, List.getElem_cons_zero, List.getElem_cons_succ]
              go_simp
              refine (hq34 _ (by exact bel2)).mono ?_
              rintro e W3' ⟨a3, c3, rfl, hbA⟩
              have b9z : Blk W3' W2.heap.size 37 #[.string ⟨#[]⟩, .bool false, .int .i64 0, .int .i64 0, .int .i64 0, .int .i64 0, .int .i64 0, .int .i64 0, .slice none 0 0] := Blk.below (by first | (with_reducible exact Blk.new' (by simp)) | (with_reducible exact Blk.drew (Blk.new' (by simp))) | (exact Blk.new W2.drew 37 _)) hbA (by simp)
              have hb3 : Below W2.heap.size W2 W3' := qab (by exact bel2) hbA
              have hz3 := hb3.size
              have c9 := b9z.cell
              have f9 := b9z.frozen
              refine hK.out _ _ (hS4 _ hb3) (fun hS => ?_)
              clear hK
              try simp only [List.getElem_toArray, List.getElem_cons_zero, List.getElem_cons_succ, Act.put, List.setIfInBounds_toArray, List.set_cons_zero, List.set_cons_succ]
              refine wpAnyH_take (i := 7) (v := .tuple #[.agg #[.string (sb (qaa y.key)), .bool y.leaf, .int .i64 (es0 (qai R.k.L (qaa y.key))), .int .i64 (es1 (qai R.k.L (qaa y.key))), .int .i64 y.b0, .int .i64 y.b1, .int .i64 (ws0 (qae R.k.Ws (qaa y.key))), .int .i64 (ws1 (qae R.k.Ws (qaa y.key))), .slice a3 (R.k.waits y).length c3], .int .i64 0]) rfl (by kernel_rfl) (by kernel_rfl) (by kernel_rfl) (fun _ _ _ h => absurd h.1 (by intro e; cases e)) (Or.inl ⟨by rfl, ?_⟩) hS ?_
              · intro w' hS'
                obtain ⟨s1, s2, s3, s4⟩ := hS'
                go_simp
              try simp only [List.getElem_toArray, List.getElem_cons_zero, List.getElem_cons_succ, Act.put, List.setIfInBounds_toArray, List.set_cons_zero, List.set_cons_succ]
              refine wpAnyH_take (i := 8) (v := .agg #[.string (sb (qaa y.key)), .bool y.leaf, .int .i64 (es0 (qai R.k.L (qaa y.key))), .int .i64 (es1 (qai R.k.L (qaa y.key))), .int .i64 y.b0, .int .i64 y.b1, .int .i64 (ws0 (qae R.k.Ws (qaa y.key))), .int .i64 (ws1 (qae R.k.Ws (qaa y.key))), .slice a3 (R.k.waits y).length c3]) rfl (by kernel_rfl) (by kernel_rfl) (by kernel_rfl) (fun _ _ _ h => absurd h.1 (by intro e; cases e)) (Or.inl ⟨by rfl, ?_⟩) hS ?_
              · intro w' hS'
                obtain ⟨s1, s2, s3, s4⟩ := hS'
                go_simp
              try simp only [List.getElem_toArray, List.getElem_cons_zero, List.getElem_cons_succ, Act.put, List.setIfInBounds_toArray, List.set_cons_zero, List.set_cons_succ]
              refine wpAnyH_take (i := 9) (v := .int .i64 0) rfl (by kernel_rfl) (by kernel_rfl) (by kernel_rfl) (fun _ _ _ h => absurd h.1 (by intro e; cases e)) (Or.inl ⟨by rfl, ?_⟩) hS ?_
              · intro w' hS'
                obtain ⟨s1, s2, s3, s4⟩ := hS'
                go_simp
              try simp only [List.getElem_toArray, List.getElem_cons_zero, List.getElem_cons_succ, Act.put, List.setIfInBounds_toArray, List.set_cons_zero, List.set_cons_succ]
              refine wpAnyH_ready (rs := [11]) (by kernel_rfl) (by simp) ?_
              refine AllReadyH.cons rfl (fun K' hK => ?_) AllReadyH.nil
              rw [if_pos (by rfl)]
              try simp only [List.getElem_toArray, List.getElem_cons_zero, List.getElem_cons_succ]
              go_simp
              refine hK.out _ _ (hS4 _ (q_below hb3 (Nat.le_refl _) ..)) (fun hS => ?_)
              clear hK
              try simp only [List.getElem_toArray, List.getElem_cons_zero, List.getElem_cons_succ, Act.put, List.setIfInBounds_toArray, List.set_cons_zero, List.set_cons_succ]
              refine wpAnyH_take (i := 12) (v := .int .i64 0) rfl (by kernel_rfl) (by kernel_rfl) (by kernel_rfl) (fun _ _ _ h => absurd h.1 (by intro e; cases e)) (Or.inl ⟨by rfl, ?_⟩) hS ?_
              · intro w' hS'
                obtain ⟨s1, s2, s3, s4⟩ := hS'
                go_simp
              try simp only [List.getElem_toArray, List.getElem_cons_zero, List.getElem_cons_succ, Act.put, List.setIfInBounds_toArray, List.set_cons_zero, List.set_cons_succ]
              refine wpAnyH_done (by kernel_rfl) ⟨rfl, ?_⟩ _
              gi_wp2
              gi_meet
              exact ⟨W2.heap.size, a3, c3, rfl, rfl, q_below hb3 (Nat.le_refl _) .., q_done b9z ..⟩
          case rest =>
            obtain ⟨b, a3, c3, rfl, rfl, hBc, bc⟩ := hcut
            have bqc := bq0.below hBc hbq
            rw [hvals] at bqc
            have hI3 := hI2.below hz14 hBc
            obtain ⟨qa, qm, qc, hsl⟩ : ∃ qa qm qc, qm = (R.k.waits y).length ∧ (Value.slice (x.q x.j).a (x.q x.j).m (x.q x.j).c) = .slice qa qm qc := ⟨_, _, _, hqm, rfl⟩
            rw [hsl.2] at bqc
            obtain ⟨rfl, hs2⟩ := hsl
            clear hs2
            have heq : ∀ (a b : Int) W, (Op.equalIn 10000 35 (.agg #[.int .i64 a, .int .i64 b]) (.agg #[.int .i64 a, .int .i64 b])).run Tryz.prog W = .ok true W := fun a b W => by
              have := eq35 9998 a b a b W
              simpa using this
            have x1 := bc.cell 1
            have x2 := bc.cell 2
            have x3 := bc.cell 3
            have x4 := bc.cell 4
            have x5 := bc.cell 5
            have x6 := bc.cell 6
            have x7 := bc.cell 7
            have x8 := bc.cell 8
            have y1 := bqc.cell 1
            have y2 := bqc.cell 2
            have y3 := bqc.cell 3
            have y4 := bqc.cell 4
            have y5 := bqc.cell 5
            have y6 := bqc.cell 6
            have y7 := bqc.cell 7
            have y8 := bqc.cell 8
            unfold KS.told at y1 y2 y3 y4 y5 y6 y7 y8
            simp only [List.getElem?_toArray, List.getElem?_cons_zero, List.getElem?_cons_succ] at x1 x2 x3 x4 x5 x6 x7 x8 y1 y2 y3 y4 y5 y6 y7 y8
            generalize es0 (qai R.k.L (qaa y.key)) = e0 at *
            generalize es1 (qai R.k.L (qaa y.key)) = e1 at *
            generalize ws0 (qae R.k.Ws (qaa y.key)) = u0 at *
            generalize ws1 (qae R.k.Ws (qaa y.key)) = u1 at *
            clear hI2 bq0 hvals hqm hM2 hq34 t3
            gi_upto_region 26 with fail
            have s1c := s1.below hBc s1.lt
            have s2c := qfq s2 hBc
            have hbqc : W0.heap.size < wc.heap.size := Nat.lt_of_lt_of_le hbq hBc.size
            have y0 : wc.cell? ⟨W0.heap.size, 0, none⟩ = some (.string (sb (qaa y.key))) := (hBc.cell (p := ⟨W0.heap.size, 0, none⟩) hbq).trans hq0
            have HSC : Hid (∀ i, i < x.j → ∃ (g : Nat) (pi : ByteArray), av = some ⟨g, 0, none⟩ ∧ g < wc.heap.size ∧ wc.cell? ⟨g, i, none⟩ = some (.string pi) ∧ ∀ w, Calls Tryz.prog 35 #[.string pi, .string (sb (qaa y.key))] w fun e w' => e = .returned (.bool false) ∧ w' = w) := fun i hi => by
              obtain ⟨yi, hyi⟩ : ∃ yi, xs[i]? = some yi := ⟨_, List.getElem?_eq_getElem (by omega)⟩
              obtain ⟨g, c, e, _, _⟩ := qa9 s2c (by omega)
              injection e with e1
              rw [e1] at s2c
              have hc := s2c.cells (g := g) rfl i _ (seenC_get hyi hi)
              rw [Addr.add_lit, Nat.zero_add] at hc
              have hsz : ∀ z ∈ xs, (sb (qaa z.key)).size ≤ 2000000 := fun z hz => by
                rw [qco]
                have := qi1 _ (hxk z hz).1
                have := (hxk z hz).2
                omega
              have hbl := fun w => qph (sb (qaa yi.key)) (sb (qaa y.key)) w (hsz yi (List.mem_of_getElem? hyi)) (hsz y hym)
              rw [qbs, qbs, seen_not hxs (fun z hz => (hxk z hz).1) hi hyi hy] at hbl
              exact ⟨g, _, e1, qap s2c rfl, hc, hbl⟩
            have HAP : Hid (∀ A nb, Below wc.heap.size wc A → Blk A nb 9 #[.string (sb (qaa y.key))] → ∃ v' w', (∀ ty, (Builtin.append_ #[46, 46] ty #[.slice av x.j cv, .slice (some ⟨nb, 0, none⟩) 1 1]).run Tryz.prog A = .ok v' w') ∧ ((∃ a l c, v' = .slice a l c) ∧ Blk w' z14 46 #[.slice av x.j cv] ∧ Hid (rfP3 Wp.heap.size (GnI Wp z14 kk R xs x.next) (fun c => fun A => c = .exit 4 ∧ ∃ y, y.j = kk ∧ GnI Wp z14 kk R xs y A) W2 .normal { tmps := #[], defers := [] } (w'.setCell ⟨z14, 0, none⟩ v')))) := fun A nb hb hn => by
              obtain ⟨v', w', g1, g2, g3, g4⟩ := (hI3.below hz14 hb).app hz14 h9 hlt (by have := hI3.jk; omega) hy (s1c.below hb s1c.lt) (qfq s2c hb) s3 nb hn
              have hsl : ∃ a l c, v' = .slice a l c := by
                obtain ⟨vv, q1, q2, _⟩ := g3.out.seen
                have e1 : (w'.setCell ⟨z14, 0, none⟩ v').cell? ⟨z14, 0, none⟩ = some v' := by have := (g2.set 0 v').cell 0; simpa using this
                have e2 : (w'.setCell ⟨z14, 0, none⟩ v').cell? ⟨z14, 0, none⟩ = some vv := by have := q1.cell 0; simpa using this
                obtain rfl : v' = vv := Option.some.inj (e1.symm.trans e2)
                obtain ⟨a', c', e, _, _⟩ := qa7 q2
                exact ⟨a', _, c', e⟩
              refine ⟨v', w', g1, hsl, g2, ?_⟩
              show RK _ _ _ ∧ _
              have hkA : Keep (fun _ => False) W2 A := Keep.new (hBc.trans (hb.mono hBc.size))
              have := hkA.size
              exact ⟨RK.keep (RK.keep ⟨rfl, rfl⟩ hkA (by omega) (fun h => h) (fun h => h)) g4 (by omega) (by omega) (by omega), g3.out⟩
            have fc := s1c.cell 0
            have hz14c := s1c.lt
            simp only [List.getElem?_toArray, List.getElem?_cons_zero, List.getElem?_cons_succ] at fc
            clear x1 x2 x3 x4 x5 x6 x7 x8 y1 y2 y3 y4 y5 y6 y7 y8 heq bc bqc
            gi_loopg [18] x.j (fun r v wr => ∃ i : Nat, v = .int .i64 i ∧ i ≤ x.j ∧ x.j - i ≤ r ∧ Below wc.heap.size wc wr)
            case atStart => exact ⟨0, rfl, Nat.zero_le _, by omega, Below.refl _ _⟩
            case round =>
              obtain ⟨i, rfl, hi, hr, hBi⟩ := hrel
              have fi := (hBi.cell (p := ⟨z14, 0, none⟩) hz14c).trans fc
              have yi0 := (hBi.cell (p := ⟨W0.heap.size, 0, none⟩) hbqc).trans y0
              by_cases hij : i < x.j
              · obtain ⟨g, pi, rfl, hg, hgc, hbel⟩ := HSC.out i hij
                have gi0 := (hBi.cell (p := ⟨g, i, none⟩) hg).trans hgc
                have hii : (i : Int) < x.j := by omega
                have hii0 : (0 : Int) ≤ i := by omega
                have hsi := hBi.size
                have hS5 : ∀ W', Below wr.heap.size wr W' → W'.cell? ⟨z14, 0, none⟩ = some (.slice (some ⟨g, 0, none⟩) x.j cv) ∧ W'.cell? ⟨g, i, none⟩ = some (.string pi) ∧ W'.cell? ⟨W0.heap.size, 0, none⟩ = some (.string (sb (qaa y.key))) ∧ Below wr.heap.size wr W' := fun W' hb => ⟨(hb.cell (p := ⟨z14, 0, none⟩) (by show z14 < wr.heap.size; omega)).trans fi, (hb.cell (p := ⟨g, i, none⟩) (by show g < wr.heap.size; omega)).trans gi0, (hb.cell (p := ⟨W0.heap.size, 0, none⟩) (by show W0.heap.size < wr.heap.size; omega)).trans yi0, hb⟩
                gi_upto_region 28 with fail
                gi_cut [19] from 200 (fun c19 wx => c19 = .bool false ∧ Below wr.heap.size wr wx)
                case first =>
                  refine qc8 (fun W' => W'.cell? ⟨z14, 0, none⟩ = some (.slice (some ⟨g, 0, none⟩) x.j cv) ∧ W'.cell? ⟨g, i, none⟩ = some (.string pi) ∧ W'.cell? ⟨W0.heap.size, 0, none⟩ = some (.string (sb (qaa y.key))) ∧ Below wr.heap.size wr W') (by kernel_rfl) (by kernel_rfl) (hS5 _ (by exact bel2)) (fun hS => ?_)
                  refine wpAnyH_take (i := 0) (v := .slice (some ⟨g, 0, none⟩) x.j cv) rfl (by kernel_rfl) (by kernel_rfl) (by kernel_rfl) (fun _ _ _ h => absurd h.1 (by intro e; cases e)) (Or.inl ⟨by rfl, ?_⟩) hS ?_
                  · intro w' hS'
                    obtain ⟨s1, s2, s3, s4⟩ := hS'
                    go_simp
                  try simp only [List.getElem_toArray, List.getElem_cons_zero, List.getElem_cons_succ, Act.put, List.setIfInBounds_toArray, List.set_cons_zero, List.set_cons_succ]
                  refine wpAnyH_take (i := 1) (v := .int .i64 i) rfl (by kernel_rfl) (by kernel_rfl) (by kernel_rfl) (fun _ _ _ h => absurd h.1 (by intro e; cases e)) (Or.inl ⟨by rfl, ?_⟩) hS ?_
                  · intro w' hS'
                    obtain ⟨s1, s2, s3, s4⟩ := hS'
                    go_simp
                  try simp only [List.getElem_toArray, List.getElem_cons_zero, List.getElem_cons_succ, Act.put, List.setIfInBounds_toArray, List.set_cons_zero, List.set_cons_succ]
                  refine wpAnyH_take (i := 2) (v := .pointer (some ⟨g, i, none⟩)) rfl (by kernel_rfl) (by kernel_rfl) (by kernel_rfl) (fun _ _ _ h => absurd h.1 (by intro e; cases e)) (Or.inl ⟨by rfl, ?_⟩) hS ?_
                  · intro w' hS'
                    obtain ⟨s1, s2, s3, s4⟩ := hS'
                    go_simp
                  try simp only [List.getElem_toArray, List.getElem_cons_zero, List.getElem_cons_succ, Act.put, List.setIfInBounds_toArray, List.set_cons_zero, List.set_cons_succ]
                  refine wpAnyH_take (i := 3) (v := .string pi) rfl (by kernel_rfl) (by kernel_rfl) (by kernel_rfl) (fun _ _ _ h => absurd h.1 (by intro e; cases e)) (Or.inl ⟨by rfl, ?_⟩) hS ?_
                  · intro w' hS'
                    obtain ⟨s1, s2, s3, s4⟩ := hS'
                    go_simp
                  try simp only [List.getElem_toArray, List.getElem_cons_zero, List.getElem_cons_succ, Act.put, List.setIfInBounds_toArray, List.set_cons_zero, List.set_cons_succ]
                  refine wpAnyH_take (i := 4) (v := .pointer (some ⟨W0.heap.size, 0, none⟩)) rfl (by kernel_rfl) (by kernel_rfl) (by kernel_rfl) (fun _ _ _ h => absurd h.1 (by intro e; cases e)) (Or.inl ⟨by rfl, ?_⟩) hS ?_
                  · intro w' hS'
                    obtain ⟨s1, s2, s3, s4⟩ := hS'
                    go_simp
                  try simp only [List.getElem_toArray, List.getElem_cons_zero, List.getElem_cons_succ, Act.put, List.setIfInBounds_toArray, List.set_cons_zero, List.set_cons_succ]
                  refine wpAnyH_take (i := 5) (v := .string (sb (qaa y.key))) rfl (by kernel_rfl) (by kernel_rfl) (by kernel_rfl) (fun _ _ _ h => absurd h.1 (by intro e; cases e)) (Or.inl ⟨by rfl, ?_⟩) hS ?_
                  · intro w' hS'
                    obtain ⟨s1, s2, s3, s4⟩ := hS'
                    go_simp
                  try simp only [List.getElem_toArray, List.getElem_cons_zero, List.getElem_cons_succ, Act.put, List.setIfInBounds_toArray, List.set_cons_zero, List.set_cons_succ]
                  refine wpAnyH_ready (rs := [6]) (by kernel_rfl) (by simp) ?_
                  refine AllReadyH.cons rfl (fun K' hK => ?_) AllReadyH.nil
                  rw [if_pos (by rfl)]
                  try simp only [List.getElem_toArray, List.getElem_cons_zero, List.getElem_cons_succ]
                  go_simp
                  refine (hbel _).mono ?_
                  rintro e W5' ⟨rfl, hW5'⟩
                  subst hW5'
                  refine hK.out _ _ (hS5 _ (by exact bel2)) (fun hS => ?_)
                  clear hK
                  try simp only [List.getElem_toArray, List.getElem_cons_zero, List.getElem_cons_succ, Act.put, List.setIfInBounds_toArray, List.set_cons_zero, List.set_cons_succ]
                  refine wpAnyH_take (i := 7) (v := .bool false) rfl (by kernel_rfl) (by kernel_rfl) (by kernel_rfl) (fun _ _ _ h => absurd h.1 (by intro e; cases e)) (Or.inl ⟨by rfl, ?_⟩) hS ?_
                  · intro w' hS'
                    obtain ⟨s1, s2, s3, s4⟩ := hS'
                    go_simp
                  try simp only [List.getElem_toArray, List.getElem_cons_zero, List.getElem_cons_succ, Act.put, List.setIfInBounds_toArray, List.set_cons_zero, List.set_cons_succ]
                  refine wpAnyH_done (by kernel_rfl) ⟨rfl, ?_⟩ _
                  gi_wp2
                  gi_meet
                  exact ⟨rfl, by exact bel2⟩
                case rest =>
                  obtain ⟨rfl, hBd⟩ := hcut
                  gi_wp2
                  gi_roundg (x.j - (i + 1))
                  case measure => omega
                  case rel => exact ⟨i + 1, by go_num, by omega, Nat.le_refl _, hBi.trans (hBd.mono hBi.size)⟩
              · have hii : ¬ ((i : Int) < x.j) := by omega
                gi_upto_region 31 with fail
                have hsi := hBi.size
                have hap := HAP.out
                gi_wp2_with (gi_at_builtin; refine wpListIn_append_key (by rfl) _ _ _ _ rfl _ _ rfl (by rfl) (hap _ _ (by exact bel2) (by exact blk2)) ?_; rintro v5 w6 ⟨⟨a5, l5, c5, rfl⟩, k1, k2⟩; have k3 := k1.cell 0; have k4 := k1.frozen; simp only [List.getElem?_toArray, List.getElem?_cons_zero, List.getElem?_cons_succ] at k3)
                have h6 := k2.out
                rw [hzp] at h6
                exact h6
      case done =>
        rintro s A hf hG hD
        have HGA : Hid (GAg Wa (p + 1) ({ target := .collected Wp.heap.size, args := #[] } :: D) A) := HGN.out A hG.keep hD
        have hkk9 : (9 : Int) ≤ kk := by have := hG.jk; have h99 : s.j = 9 := hf; omega
        obtain ⟨v, s1, s2, s3⟩ := hG.seen
        obtain ⟨av, cv, hv, hcv1, hcv2⟩ := qa7 s2
        subst hv
        rw [hf] at s1
        have m12 := b12.keep hG.keep hzz
        have m8 := p8.keep hG.keep hz68
        obtain ⟨P2, hM2⟩ := HRUN.out _ hG.keep
        have f14 := s1.cell 0
        have f12 := m12.cell 0
        have f8 := m8.cell 0
        have f1 := hM2.at_.cell 1
        simp only [List.getElem?_toArray, List.getElem?_cons_zero, List.getElem?_cons_succ] at f14 f12 f8 f1
        clear hG s1 s2 s3 m12 m8 hM2 hcv1 hcv2 hf htell hzp
        gi_upto_region 32 with fail
        refine wpIn_wide.2 ?_
        go_region
        gi_wp2
        all_goals
          refine HN.out _ _ ?_
          refine ag_intro rfl (by go_num) ?_
          refine HGA.out.below ?_
          exact bel2
      case stop =>
        rintro c s A ⟨rfl, y, hy, hG⟩ hD
        have HGA : Hid (GAg Wa (p + 1) ({ target := .collected Wp.heap.size, args := #[] } :: D) A) := HGN.out A hG.keep hD
        have hkk9 : (kk : Int) ≤ 9 := by have := hG.j9; omega
        obtain ⟨v, s1, s2, s3⟩ := hG.seen
        obtain ⟨av, cv, hv, hcv1, hcv2⟩ := qa7 s2
        subst hv
        rw [hy] at s1
        have m12 := b12.keep hG.keep hzz
        have m8 := p8.keep hG.keep hz68
        obtain ⟨P2, hM2⟩ := HRUN.out _ hG.keep
        have f14 := s1.cell 0
        have f12 := m12.cell 0
        have f8 := m8.cell 0
        have f1 := hM2.at_.cell 1
        simp only [List.getElem?_toArray, List.getElem?_cons_zero, List.getElem?_cons_succ] at f14 f12 f8 f1
        clear hG s1 s2 s3 m12 m8 hM2 hcv1 hcv2 hy htell hzp
        gi_upto_region 32 with fail
        refine wpIn_wide.2 ?_
        go_region
        gi_wp2
        all_goals
          refine HN.out _ _ ?_
          refine ag_intro rfl (by go_num) ?_
          refine HGA.out.below ?_
          exact bel2
end Go.Proofs.YtphclnolomgjoaaGreatDoor
