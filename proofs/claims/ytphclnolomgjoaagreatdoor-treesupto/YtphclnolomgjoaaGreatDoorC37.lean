import Derived.Test.YtphclnolomgjoaaGreatDoorC06
import Derived.Test.YtphclnolomgjoaaGreatDoorC36
import Derived.Deep.RegionHeld3
import Derived.Deep.CutRange
import Derived.Test.YtphclnolomgjoaaGreatDoorC11
set_option linter.unusedVariables false
set_option linter.unusedSimpArgs false
namespace Go.Proofs.YtphclnolomgjoaaGreatDoor
open Go.RowKit
theorem qkg {τ : Nat -> Tag} {t : Nat} {W : World} {bt : Nat} {nodes : List Node} {last : Int} {vw va : Value} {ws as_ : List Pw} {Ws : List Wk} {st : Int} {x : Ent} {w1 : World} (hl : bt < W.heap.size /\ (∀ b, vw.ownBlock = some b \/ va.ownBlock = some b -> b < W.heap.size)) (h : qkh τ t W bt nodes last vw va ws as_ Ws x w1) (I : SInv ⟨Ws, st, []⟩) :
  Calls Tryz.prog 51 #[.pointer (some ⟨bt, 0, none⟩), .int .i64 0] w1 fun e w' => ∃ ev, e = .returned (.tuple #[ev, .int .i64 0]) /\ qiz τ t W bt nodes last Ws st 0 x (.returned (.tuple #[ev, .int .i64 0])) w' /\ Keep (fun b => b < W.heap.size) w1 w' := by
 obtain ⟨τ1, nodes1, g1, g2, g3, g4, g5, g6⟩ := h
 obtain ⟨r, hr, htw⟩ := g3.bk
 obtain ⟨hrm, hrk⟩ := qeh g3.pr.tree hr
 refine (qf6 g3.pr.tree g3.pr.qlc htw hrm hrk (s0 := ⟨Ws, st, []⟩) g5 I rfl).mono ?_
 rintro e w' ⟨vw2, va2, ev2, ws2, as2, rfl, m1, m2, m3, m4, m5, m6, m7⟩
 obtain ⟨τ2, vw3, va3, ws3, as3, k1, k2, k3, k4, k5, k6, k7⟩ := g3.set hr (last' := last) (ev := ev2) ⟨vw2, va2, ws2, as2, m1, m2, m3, m4, m5, m6, fun p hp => .inl (m7 p hp)⟩
 have hz := g6.size
 rw [g4] at k4 k5
 refine ⟨ev2, rfl, .inr ⟨rfl, τ2, nodes1, vw3, va3, ws3, as3, ev2, rfl, fun b hb => (k1 b (by omega)).trans (g1 b hb), fun b hb => ?_, k3, g4, k4, k5, fun b hb => ⟨by have := (k6 b hb).1; omega, (k6 b hb).2⟩, g6.qbo k7 (fun b hb e => ⟨hb, by have := e.2; rw [g1 b hb] at this; exact this⟩)⟩, m4.mono (fun x hx => ?_)⟩
 ·by_cases hb1 : b < w1.heap.size
  ·rw [k1 b hb1]; exact g2 b hb
  ·exact k2 b (by omega)
 ·rcases hx with e | e | e
  ·rw [e]; exact hl.1
  ·exact hl.2 x (.inl e)
  ·exact hl.2 x (.inr e)
set_option maxRecDepth 100000 in
set_option maxHeartbeats 20000000 in
theorem qw9 {τ : Nat -> Tag} {t : Nat} {W : World} {bt : Nat} {nodes : List Node} {last : Int} {vw va : Value} {ws as_ : List Pw} {Ws : List Wk} {st : Int} (h : qb6 τ t W bt nodes last vw va ws as_) (R : Rel nodes Ws ws as_) (I : SInv ⟨Ws, st, []⟩) (s : ByteArray) (hs : s.size <= 2000000) (a b c d : Int) :
  Calls Tryz.prog 26 #[.pointer (some ⟨bt, 0, none⟩), .string s, .agg #[.int .i64 a, .int .i64 b], .agg #[.int .i64 c, .int .i64 d]] W
   (qiz τ t W bt nodes last Ws st (qbc nodes (bl s) (qb3 [(a, b), (c, d)])) ⟨qaa (bl s), true, a, b, c, d⟩) := by
 have hcall : ∀ W', Below W.heap.size W W' -> ∀ q vb, W.heap.size <= q -> Blk W' q 136 #[.string ⟨#[]⟩, .bool true, .int .i64 a, .int .i64 b, .int .i64 c, .int .i64 d, .pointer none, .slice none 0 0] -> Blk W' vb 35 #[.int .i64 a, .int .i64 b, .int .i64 c, .int .i64 d] ->
   Calls Tryz.prog 52 #[.pointer (some ⟨bt, 0, none⟩), .string s, .pointer (some ⟨q, 0, none⟩), .slice (some ⟨vb, 0, none⟩) 2 2] W' fun e w' => e = .returned (.int .i64 (qbc nodes (bl s) (qb3 [(a, b), (c, d)]))) /\ (qbc nodes (bl s) (qb3 [(a, b), (c, d)]) ≠ 0 -> Below W.heap.size W w') /\ (qbc nodes (bl s) (qb3 [(a, b), (c, d)]) = 0 -> qkh τ t W bt nodes last vw va ws as_ Ws ⟨qaa (bl s), true, a, b, c, d⟩ w') /\ Keep (fun x => x < W.heap.size \/ x = q) W' w' := by
  intro W' hW q vb hq hbq hbv
  refine qv9 h R hW s hs vb 2 [(a, b), (c, d)] (by simp) hbv.lt (fun j x hx => ?_) q hq true a b c d hbq (fun hok => by simp [qb3, qao] at hok; exact ⟨by omega, by omega, by omega, by omega, fun h => by cases h⟩)
  cases j with
  | zero => simp at hx; subst hx; have c0 := hbv.cell 0; have c1 := hbv.cell 1; simp at c0 c1; exact ⟨c0, c1⟩
  | succ j =>
   cases j with
   | zero => simp at hx; subst hx; have c0 := hbv.cell 2; have c1 := hbv.cell 3; simp at c0 c1; exact ⟨c0, c1⟩
   | succ j => simp at hx
 have hnew : ∀ W', Below W.heap.size W W' -> W.heap.size + 2 <= W'.heap.size -> Calls Tryz.prog 53 #[.agg #[.int .i64 a, .int .i64 b], .agg #[.int .i64 c, .int .i64 d]] W' fun e w' => ∃ q, e = .returned (.pointer (some ⟨q, 0, none⟩)) /\ Below W'.heap.size W' w' /\ W.heap.size + 2 <= q /\ Blk w' q 136 #[.string ⟨#[]⟩, .bool true, .int .i64 a, .int .i64 b, .int .i64 c, .int .i64 d, .pointer none, .slice none 0 0] := by
  intro W' hW h2
  refine (qnq _ _ _ _ _).mono ?_
  rintro e w1 ⟨rfl, rfl⟩
  have := hW.size
  exact ⟨_, rfl, by exact bel2, by omega, by exact blk2⟩
 have hans0 := fun w1 (h1 : qkh τ t W bt nodes last vw va ws as_ Ws ⟨qaa (bl s), true, a, b, c, d⟩ w1) => qkg (st := st) ⟨h.lts.1, h.lts.2.1⟩ h1 I
 generalize (⟨qaa (bl s), true, a, b, c, d⟩ : Ent) = X at *
 generalize qbc nodes (bl s) (qb3 [(a, b), (c, d)]) = E at hcall ⊢
 have hbt := h.lts.1
 clear h R I
 have b6s : Blk ((W.alloc (.cells #[.int .i64 a, .int .i64 b] 35)).alloc (.cells #[.int .i64 c, .int .i64 d] 35)) W.heap.size 35 #[.int .i64 a, .int .i64 b] := by exact blk2
 have b7s : Blk ((W.alloc (.cells #[.int .i64 a, .int .i64 b] 35)).alloc (.cells #[.int .i64 c, .int .i64 d] 35)) (W.heap.size + 1) 35 #[.int .i64 c, .int .i64 d] := Blk.new' (by simp)
 have hB0 : Below W.heap.size W ((W.alloc (.cells #[.int .i64 a, .int .i64 b] 35)).alloc (.cells #[.int .i64 c, .int .i64 d] 35)) := by exact bel2
 by_cases hE : E = 0
 ·subst hE
  simp only [ne_eq, not_true_eq_false, false_implies, true_and, forall_const] at hcall
  generalize qkh τ t W bt nodes last vw va ws as_ Ws X = HU at hcall hans0
  generalize qiz τ t W bt nodes last Ws st 0 X = MA at hans0 ⊢
  go_enter Tryz.func26, Tryz.ntmps26
  go_upto_region 1 with fail
  generalize ((W.alloc (.cells #[.int .i64 a, .int .i64 b] 35)).alloc (.cells #[.int .i64 c, .int .i64 d] 35)) = W0 at b6s b7s hB0 ⊢
  have d0 := b6s.cell 0
  have d1 := b6s.cell 1
  have e0 := b7s.cell 0
  have e1 := b7s.cell 1
  have l6 := b6s.lt
  have l7 := b7s.lt
  have hz0 := hB0.size
  simp only [List.getElem?_toArray, List.getElem?_cons_zero, List.getElem?_cons_succ] at d0 d1 e0 e1
  have n6 : ¬ (W.heap.size = W0.heap.size) := by omega
  have n7 : ¬ (W.heap.size + 1 = W0.heap.size) := by omega
  go_region_held3 (fun w' => w'.cell? ⟨W.heap.size, 0, none⟩ = some (.int .i64 a) /\ w'.cell? ⟨W.heap.size, 1, none⟩ = some (.int .i64 b) /\ w'.cell? ⟨W.heap.size + 1, 0, none⟩ = some (.int .i64 c) /\ w'.cell? ⟨W.heap.size + 1, 1, none⟩ = some (.int .i64 d)) (go_keep)
   (first
   | (go_at_call 53; refine (hnew _ ?_ ?_).mono ?_; (focus exact bel2); (focus (first | omega | (simp <;> omega))); rintro e w1 ⟨q, rfl, hb1, hq, bq⟩; have hB1 : Below W.heap.size W w1 := qac (by exact bel2) hb1; have b61 : Blk w1 W.heap.size 35 #[.int .i64 a, .int .i64 b] := Blk.below (by exact blk2) hb1 (by first | omega | (simp <;> omega)); have b71 : Blk w1 (W.heap.size + 1) 35 #[.int .i64 c, .int .i64 d] := Blk.below (by exact blk2) hb1 (by first | omega | (simp <;> omega)); have f0 := b61.cell 0; have f1 := b61.cell 1; have g0 := b71.cell 0; have g1 := b71.cell 1; have l61 := b61.lt; have l71 := b71.lt; have n61 : ¬ (W.heap.size = w1.heap.size) := (by omega); have n71 : ¬ (W.heap.size + 1 = w1.heap.size) := (by omega); simp only [List.getElem?_toArray, List.getElem?_cons_zero, List.getElem?_cons_succ] at f0 f1 g0 g1; (try (have bs1 : Blk w1 W0.heap.size 35 #[.int .i64 a, .int .i64 b, .int .i64 c, .int .i64 d] := Blk.below (by first | (with_reducible exact Blk.new' (by simp)) | (with_reducible exact Blk.drew (Blk.new' (by simp)))) hb1 (by simp))))
   | (go_at_call 52; refine Calls.mono (hcall _ ?_ _ _ ?_ ?_ ?_) ?_; (focus exact bel2); (focus omega); (focus exact blk2); (focus exact blk2); rintro e w3 ⟨rfl, hM, hK3⟩; have b63 : Blk w3 W.heap.size 35 #[.int .i64 a, .int .i64 b] := Blk.keep (by exact blk2) hK3 (by omega); have b73 : Blk w3 (W.heap.size + 1) 35 #[.int .i64 c, .int .i64 d] := Blk.keep (by exact blk2) hK3 (by omega); have u0 := b63.cell 0; have u1 := b63.cell 1; have v0 := b73.cell 0; have v1 := b73.cell 1; simp only [List.getElem?_toArray, List.getElem?_cons_zero, List.getElem?_cons_succ] at u0 u1 v0 v1)
   | (go_at_call 51; refine (hans0 _ hM).mono ?_; rintro e w4 ⟨ev, rfl, hM4, hK4⟩; have b64 : Blk w4 W.heap.size 35 #[.int .i64 a, .int .i64 b] := Blk.keep (by exact blk2) hK4 (by omega); have b74 : Blk w4 (W.heap.size + 1) 35 #[.int .i64 c, .int .i64 d] := Blk.keep (by exact blk2) hK4 (by omega); have x0 := b64.cell 0; have x1 := b64.cell 1; have y0 := b74.cell 0; have y1 := b74.cell 1; simp only [List.getElem?_toArray, List.getElem?_cons_zero, List.getElem?_cons_succ] at x0 x1 y0 y1))
  all_goals go_wp2
  all_goals exact hM4
 ·replace hcall : ∀ W', Below W.heap.size W W' -> ∀ q vb, W.heap.size <= q -> Blk W' q 136 #[.string ⟨#[]⟩, .bool true, .int .i64 a, .int .i64 b, .int .i64 c, .int .i64 d, .pointer none, .slice none 0 0] -> Blk W' vb 35 #[.int .i64 a, .int .i64 b, .int .i64 c, .int .i64 d] ->
    Calls Tryz.prog 52 #[.pointer (some ⟨bt, 0, none⟩), .string s, .pointer (some ⟨q, 0, none⟩), .slice (some ⟨vb, 0, none⟩) 2 2] W' fun e w' => e = .returned (.int .i64 E) /\ Below W.heap.size W w' /\ Keep (fun x => x < W.heap.size \/ x = q) W' w' := fun W' h1 q vb h2 h3 h4 => (hcall W' h1 q vb h2 h3 h4).mono (fun e w' hm => ⟨hm.1, hm.2.1 hE, hm.2.2.2⟩)
  have hans := fun w => qgg (w := w) (bt := bt) hE
  clear hans0
  go_enter Tryz.func26, Tryz.ntmps26
  go_upto_region 1 with fail
  generalize ((W.alloc (.cells #[.int .i64 a, .int .i64 b] 35)).alloc (.cells #[.int .i64 c, .int .i64 d] 35)) = W0 at b6s b7s hB0 ⊢
  have d0 := b6s.cell 0
  have d1 := b6s.cell 1
  have e0 := b7s.cell 0
  have e1 := b7s.cell 1
  have l6 := b6s.lt
  have l7 := b7s.lt
  have hz0 := hB0.size
  simp only [List.getElem?_toArray, List.getElem?_cons_zero, List.getElem?_cons_succ] at d0 d1 e0 e1
  have n6 : ¬ (W.heap.size = W0.heap.size) := by omega
  have n7 : ¬ (W.heap.size + 1 = W0.heap.size) := by omega
  go_region_held3 (fun w' => w'.cell? ⟨W.heap.size, 0, none⟩ = some (.int .i64 a) /\ w'.cell? ⟨W.heap.size, 1, none⟩ = some (.int .i64 b) /\ w'.cell? ⟨W.heap.size + 1, 0, none⟩ = some (.int .i64 c) /\ w'.cell? ⟨W.heap.size + 1, 1, none⟩ = some (.int .i64 d)) (go_keep)
   (first
   | (go_at_call 53; refine (hnew _ ?_ ?_).mono ?_; (focus exact bel2); (focus (first | omega | (simp <;> omega))); rintro e w1 ⟨q, rfl, hb1, hq, bq⟩; have hB1 : Below W.heap.size W w1 := qac (by exact bel2) hb1; have b61 : Blk w1 W.heap.size 35 #[.int .i64 a, .int .i64 b] := Blk.below (by exact blk2) hb1 (by first | omega | (simp <;> omega)); have b71 : Blk w1 (W.heap.size + 1) 35 #[.int .i64 c, .int .i64 d] := Blk.below (by exact blk2) hb1 (by first | omega | (simp <;> omega)); have f0 := b61.cell 0; have f1 := b61.cell 1; have g0 := b71.cell 0; have g1 := b71.cell 1; have l61 := b61.lt; have l71 := b71.lt; have n61 : ¬ (W.heap.size = w1.heap.size) := (by omega); have n71 : ¬ (W.heap.size + 1 = w1.heap.size) := (by omega); simp only [List.getElem?_toArray, List.getElem?_cons_zero, List.getElem?_cons_succ] at f0 f1 g0 g1; (try (have bs1 : Blk w1 W0.heap.size 35 #[.int .i64 a, .int .i64 b, .int .i64 c, .int .i64 d] := Blk.below (by first | (with_reducible exact Blk.new' (by simp)) | (with_reducible exact Blk.drew (Blk.new' (by simp)))) hb1 (by simp))))
   | (go_at_call 52; refine Calls.mono (hcall _ ?_ _ _ ?_ ?_ ?_) ?_; (focus exact bel2); (focus omega); (focus exact blk2); (focus exact blk2); rintro e w3 ⟨rfl, hM, hK3⟩; have b63 : Blk w3 W.heap.size 35 #[.int .i64 a, .int .i64 b] := Blk.keep (by exact blk2) hK3 (by omega); have b73 : Blk w3 (W.heap.size + 1) 35 #[.int .i64 c, .int .i64 d] := Blk.keep (by exact blk2) hK3 (by omega); have u0 := b63.cell 0; have u1 := b63.cell 1; have v0 := b73.cell 0; have v1 := b73.cell 1; simp only [List.getElem?_toArray, List.getElem?_cons_zero, List.getElem?_cons_succ] at u0 u1 v0 v1)
   | (go_at_call 51; refine (hans _).mono ?_; rintro e w4 ⟨rfl, hw4⟩; subst hw4))
  all_goals go_wp2
  all_goals exact bodyPost_ret (v := .tuple #[.slice none 0 0, .int .i64 E]) (by simp [results, Tryz.results26, go_sem]) rfl (.inl ⟨hE, rfl, hM⟩)
theorem Rel.length {nodes : List Node} {Ws : List Wk} {ws as_ : List Pw} (R : Rel nodes Ws ws as_) {st : Int} (hS : WkS Ws st) : ws.length + as_.length = Ws.length := by
 have := (R.nums (fun x hx => (hS.st x hx).1)).length_eq
 simpa using this
theorem qmt {nodes : List Node} {Ws : List Wk} {ws as_ : List Pw} (R : Rel nodes Ws ws as_) {st : Int} (hS : WkS Ws st) (s : Bs) (ok : Bool) : errWk nodes (ws.length + as_.length) s ok = errS (nodes.map Node.ent) Ws s ok := by
 unfold errWk errS
 rw [R.length hS, qft]
 cases findKey nodes (qaa s) with
 | none => rfl
 | some n => rfl
theorem qua {nodes : List Node} (T : Tree nodes) {m : Node} (hm : m ∈ nodes) (hl : m.leaf = true) : ∀ (j : Nat) (n : Node), n ∈ nodes -> n.key.length = j -> m.key <+: n.key -> m.key = n.key := by
 intro j
 induction j with
 | zero =>
  intro n hn hj hp
  have h0 : n.key = [] := List.eq_nil_of_length_eq_zero hj
  rw [h0] at hp ⊢
  exact List.prefix_nil.1 hp
 | succ j ih =>
  intro n hn hj hp
  rcases List.eq_nil_or_concat n.key with h0 | ⟨k, x, hk⟩
  ·rw [h0] at hj; cases hj
  ·rw [List.concat_eq_append] at hk
   obtain ⟨pp, h1, h2, h3, h4⟩ := T.par n hn k x hk
   rw [hk] at hp ⊢
   rcases List.prefix_concat_iff.1 hp with e | e
   ·exact e
   ·exfalso
    have hkl : pp.key.length = j := by rw [h2]; rw [hk] at hj; simpa using hj
    have e2 := ih pp h1 hkl (by rw [h2]; exact e)
    have := T.inj m hm pp h1 e2
    rw [this, h3] at hl
    cases hl
structure WkL (nodes : List Node) (Ws : List Wk) (cnt : Int) : Prop where
 leaf : ∀ x ∈ Ws, ∃ n ∈ nodes, n.key = x.key /\ n.leaf = true
 num : ∀ x ∈ Ws, 1 <= x.num /\ x.num <= cnt
theorem WkL.anti {nodes : List Node} (T : Tree nodes) {Ws : List Wk} {cnt : Int} (h : WkL nodes Ws cnt) : Anti Ws := fun x hx y hy e => by
 obtain ⟨n, hn, e1, l1⟩ := h.leaf x hx
 obtain ⟨m, hm, e2, l2⟩ := h.leaf y hy
 have hp := (qqv (e1 ▸ (T.ok n hn).1) (e2 ▸ (T.ok m hm).1)).1 e
 rw [<- e1, <- e2] at hp ⊢
 exact (qua T hm l2 _ n hn rfl hp).symm
theorem WkL.append {nodes : List Node} {Ws : List Wk} {cnt : Int} (h : WkL nodes Ws cnt) (hc : 0 <= cnt) {n : Node} (hn : n ∈ nodes) (hl : n.leaf = true) {s : Bs} (hk : n.key = qaa s) (a b : Int) : WkL nodes (Ws ++ [qct cnt s a b]) (cnt + 1) := by
 refine ⟨fun x hx => ?_, fun x hx => ?_⟩ <;> rcases List.mem_append.1 hx with e | e
 ·exact h.leaf x e
 ·simp only [List.mem_singleton] at e
  subst e
  exact ⟨n, hn, hk, hl⟩
 ·have := h.num x e; omega
 ·simp only [List.mem_singleton] at e
  subst e
  simp only [qct]; omega
theorem SInv.append {nodes : List Node} (T : Tree nodes) {Ws : List Wk} {cnt st : Int} (I : SInv ⟨Ws, st, []⟩) (L : WkL nodes Ws cnt) (hc : 0 <= cnt) {n : Node} (hn : n ∈ nodes) (hl : n.leaf = true) {s : Bs} (hk : n.key = qaa s) {a b : Int} (hf : qao a b = true) (h24 : Ws.length < 24) : SInv ⟨Ws ++ [qct cnt s a b], st, []⟩ := by
 have hS : WkS Ws st := I.wks
 have hst : 0 <= st := I.st0
 refine ⟨⟨⟨fun x hx => ?_, fun x hx => ?_, by simp; omega⟩, ?_, fun x hx => ?_, ?_⟩, hst, (L.append hc hn hl hk a b).anti T⟩
 ·rcases List.mem_append.1 hx with e | e
  ·exact hS.wks.ok x e
  ·simp only [List.mem_singleton] at e
   subst e
   simp only [qct]
   rw [<- hk]
   exact T.ok n hn
 ·rcases List.mem_append.1 hx with e | e
  ·exact hS.wks.num x e
  ·simp only [List.mem_singleton] at e
   subst e
   simp [qao] at hf
   simp only [qct]
   omega
 ·simp only [List.map_append, List.map_cons, List.map_nil]
  refine List.nodup_append.2 ⟨hS.nums, by simp, ?_⟩
  intro c hc1 d hd e
  simp only [List.mem_singleton] at hd
  obtain ⟨x, hx, rfl⟩ := List.mem_map.1 hc1
  have := (L.num x hx).2
  rw [hd] at e
  simp only [qct] at e
  omega
 ·rcases List.mem_append.1 hx with e | e
  ·exact hS.st x e
  ·simp only [List.mem_singleton] at e
   subst e
   simp only [qct]
   omega
 ·simp only [List.filter_append]
  simpa [qct] using hS.sts
def OfW (Ws0 Ws : List Wk) : Prop := ∀ y ∈ Ws, ∃ z ∈ Ws0, z.adm 0 = y.adm 0
theorem OfW.refl (Ws : List Wk) : OfW Ws Ws := fun y hy => ⟨y, hy, rfl⟩
theorem OfW.step {Ws0 Ws Ws' : List Wk} (h : OfW Ws0 Ws) (hs : ∀ y ∈ Ws', ∃ z ∈ Ws, z.adm 0 = y.adm 0) : OfW Ws0 Ws' := fun y hy => by
 obtain ⟨z, hz, e⟩ := hs y hy
 obtain ⟨z0, h0, e0⟩ := h z hz
 exact ⟨z0, h0, e0.trans e⟩
theorem qrx (L : List Ent) (x : Wk) : ∀ (n : Nat) (s : MS), OfW s.Ws (room L x n s).Ws
 | 0, s => OfW.refl _
 | n + 1, s => by
  simp only [room]
  cases he : roomStep L x s with
  | none => exact OfW.refl _
  | some s' =>
   refine OfW.step (Ws := s'.Ws) ?_ (qrx L x n s')
   unfold roomStep at he
   split at he
   ·cases he
   ·split at he
    ·cases he
    ·split at he
     ·rename_i i _ v hv
      simp only [Option.some.injEq] at he
      subst he
      intro y hy
      rcases List.mem_cons.1 hy with e | e
      ·exact ⟨v, List.mem_of_getElem? hv, by rw [e]; rfl⟩
      ·exact ⟨y, qbb e, rfl⟩
     ·cases he
theorem qrt (Ws : List Wk) (m t : Int) : OfW Ws (qlh Ws m t) := by
 intro y hy
 unfold qlh at hy
 obtain ⟨z, hz, e⟩ := List.mem_map.1 hy
 refine ⟨z, hz, ?_⟩
 subst e
 split <;> rfl
theorem qr8 (L : List Ent) (s : SS) : OfW s.Ws (qaj L s).Ws := by
 unfold qaj qa2
 have h1 : OfW s.Ws (iterS (ownStep L) s.Ws.length s).Ws := by
  refine qe6 (I := fun s' => OfW s.Ws s'.Ws) (fun a b h he => ?_) _ _ (OfW.refl _)
  obtain ⟨i, x, _, hx, _, _, rfl⟩ := qha he
  exact (h.step (qrx L x _ ⟨a.Ws, a.evs⟩)).step (qrt _ _ _)
 refine qe6 (I := fun s' => OfW s.Ws s'.Ws) (fun a b h he => ?_) _ _ h1
 obtain ⟨i, x, _, hx, _, _, rfl⟩ := qgi he
 refine h.step (fun y hy => ?_)
 unfold qds at hy
 rcases List.mem_or_eq_of_mem_set hy with e | e
 ·exact ⟨y, e, rfl⟩
 ·exact ⟨x, List.mem_of_getElem? hx, by rw [e]; rfl⟩
theorem quv {x y : Wk} (h : x.adm 0 = y.adm 0) : x.num = y.num /\ x.key = y.key /\ x.d0 = y.d0 /\ x.d1 = y.d1 := by
 simp only [Wk.adm, Wk.mk.injEq] at h
 exact ⟨h.1, h.2.1, h.2.2.1, h.2.2.2.1⟩
theorem WkL.of {nodes : List Node} {Ws Ws' : List Wk} {cnt : Int} (h : WkL nodes Ws cnt) (ho : OfW Ws Ws') : WkL nodes Ws' cnt :=
 ⟨fun y hy => by
  obtain ⟨z, hz, e⟩ := ho y hy
  obtain ⟨n, hn, e1, l1⟩ := h.leaf z hz
  exact ⟨n, hn, e1.trans (quv e).2.1, l1⟩, fun y hy => by
  obtain ⟨z, hz, e⟩ := ho y hy
  rw [<- (quv e).1]; exact h.num z hz⟩
theorem WkL.sub {nodes : List Node} {Ws Ws' : List Wk} {cnt : Int} (h : WkL nodes Ws cnt) (hs : Ws'.Sublist Ws) : WkL nodes Ws' cnt := ⟨fun y hy => h.leaf y (hs.subset hy), fun y hy => h.num y (hs.subset hy)⟩
theorem qjd {W : World} {b : Nat} {t : TypeId} {z0 z1 z2 z3 z4 z5 z6 z7 z8 : Value} (h : Blk W b t #[z0, z1, z2, z3, z4, z5, z6, z7, z8]) (v0 v1 v2 v3 v4 v5 v6 v7 v8 : Value) :
  Blk (((((((((W.setCell ⟨b, 0, none⟩ v0).setCell ⟨b, 1, none⟩ v1).setCell ⟨b, 2, none⟩ v2).setCell ⟨b, 3, none⟩ v3).setCell ⟨b, 4, none⟩ v4).setCell ⟨b, 5, none⟩ v5).setCell ⟨b, 6, none⟩ v6).setCell ⟨b, 7, none⟩ v7).setCell ⟨b, 8, none⟩ v8) b t #[v0, v1, v2, v3, v4, v5, v6, v7, v8] := by
 have := (((((((((h.set 0 v0).set 1 v1).set 2 v2).set 3 v3).set 4 v4).set 5 v5).set 6 v6).set 7 v7).set 8 v8)
 simp only [List.setIfInBounds_toArray, List.set_cons_zero, List.set_cons_succ] at this
 exact this
theorem qoi {W : World} {b b6 : Nat} {t : TypeId} {vs : Array Value} (h : Blk W b t vs) (hb : b ≠ b6) (v0 v1 v2 v3 v4 v5 v6 v7 v8 : Value) : Blk (((((((((W.setCell ⟨b6, 0, none⟩ v0).setCell ⟨b6, 1, none⟩ v1).setCell ⟨b6, 2, none⟩ v2).setCell ⟨b6, 3, none⟩ v3).setCell ⟨b6, 4, none⟩ v4).setCell ⟨b6, 5, none⟩ v5).setCell ⟨b6, 6, none⟩ v6).setCell ⟨b6, 7, none⟩ v7).setCell ⟨b6, 8, none⟩ v8) b t vs :=
 (((((((((h.other _ _ hb).other _ _ hb).other _ _ hb).other _ _ hb).other _ _ hb).other _ _ hb).other _ _ hb).other _ _ hb).other _ _ hb)
theorem qgq {w W : World} {B b6 : Nat} (h : Below B w W) (hb : B <= b6) (v0 v1 v2 v3 v4 v5 v6 v7 v8 : Value) : Below B w (((((((((W.setCell ⟨b6, 0, none⟩ v0).setCell ⟨b6, 1, none⟩ v1).setCell ⟨b6, 2, none⟩ v2).setCell ⟨b6, 3, none⟩ v3).setCell ⟨b6, 4, none⟩ v4).setCell ⟨b6, 5, none⟩ v5).setCell ⟨b6, 6, none⟩ v6).setCell ⟨b6, 7, none⟩ v7).setCell ⟨b6, 8, none⟩ v8) :=
 (((((((((h.setCell hb _).setCell hb _).setCell hb _).setCell hb _).setCell hb _).setCell hb _).setCell hb _).setCell hb _).setCell hb _)
theorem qwh {W : World} {b6 : Nat} {e : TypeId} {size n : Nat} {sl : Value} {xs : List Value} (h : W.ownsRow 0 e size sl n xs) (hb : sl.ownBlock ≠ some b6) (v0 v1 v2 v3 v4 v5 v6 v7 v8 : Value) : (((((((((W.setCell ⟨b6, 0, none⟩ v0).setCell ⟨b6, 1, none⟩ v1).setCell ⟨b6, 2, none⟩ v2).setCell ⟨b6, 3, none⟩ v3).setCell ⟨b6, 4, none⟩ v4).setCell ⟨b6, 5, none⟩ v5).setCell ⟨b6, 6, none⟩ v6).setCell ⟨b6, 7, none⟩ v7).setCell ⟨b6, 8, none⟩ v8).ownsRow 0 e size sl n xs :=
 ownsRow_setCell_other (ownsRow_setCell_other (ownsRow_setCell_other (ownsRow_setCell_other (ownsRow_setCell_other (ownsRow_setCell_other (ownsRow_setCell_other (ownsRow_setCell_other (ownsRow_setCell_other h hb _) hb _) hb _) hb _) hb _) hb _) hb _) hb _) hb _
def qam (Ws : List Wk) (key : List Bs) (k : Nat) : List Wk := (Ws.take k).filter fun y => decide (y.key = key) && (y.st == 0)
def qfq (l : List Wk) : List Value := l.map fun y => Value.int .i64 y.num
theorem qk1 {Ws : List Wk} {key : List Bs} {k : Nat} {y : Wk} (hy : Ws[k]? = some y) : qam Ws key (k + 1) = qam Ws key k ++ (if decide (y.key = key) && (y.st == 0) then [y] else []) := by
 have hlt := (List.getElem?_eq_some_iff.1 hy).1
 unfold qam
 rw [List.take_succ_eq_append_getElem hlt, List.filter_append]
 rw [List.getElem?_eq_getElem hlt] at hy; cases hy
 simp [List.filter_cons]
theorem qlw {W : World} {e : TypeId} {size n b : Nat} {sl : Value} {xs : List Value} {t : TypeId} {vs : Array Value} (hr : W.ownsRow 0 e size sl n xs) (hb : Blk W b t vs) (ht : t ≠ e) : sl.ownBlock ≠ some b := by
 intro hs
 rcases hr.2 with ⟨rfl, _⟩ | ⟨g, cap, cur, rfl, _, hg, _⟩
 ·cases hs
 ·simp [Value.ownBlock] at hs
  subst hs
  rw [show W.heap[g]? = _ from hb] at hg
  injection hg with hg
  injection hg with _ hg _
  exact ht hg
theorem qv6 {w W wA : World} {sl : Value} (h : Below w.heap.size w W) (k : Keep (fun b => sl.ownBlock = some b) W wA) (hg : ∀ b, sl.ownBlock = some b -> w.heap.size <= b) : Below w.heap.size w wA :=
 ⟨k.os.trans h.os, k.tape.trans h.tape, k.output.trans h.output, Nat.le_trans h.size k.size, fun i hi => (k.block i (Nat.lt_of_lt_of_le hi h.size) (fun e => by have := hg i e; omega)).trans (h.block i hi)⟩
theorem bnew {w W : World} {sl : Value} {gT : Nat} (h : Below w.heap.size w W) (hn : sl.ownBlock = some gT \/ W.heap.size <= gT) (hg : ∀ b, sl.ownBlock = some b -> w.heap.size <= b) : w.heap.size <= gT := by
 rcases hn with e | e
 ·exact hg gT e
 ·exact Nat.le_trans h.size e
theorem qmh {W : World} {t : TypeId} {size : Nat} {sl : Value} {n : Nat} {xs : List Value} (h : W.ownsRow 0 t size sl n xs) : ∃ ao cap, sl = .slice ao n cap /\ n <= cap /\ cap <= maxLen := by
 rcases h.2 with ⟨rfl, rfl⟩ | ⟨g, cap, cur, rfl, _, _, h1, h2, _⟩
 ·exact ⟨none, 0, rfl, Nat.le_refl _, Nat.zero_le _⟩
 ·exact ⟨_, cap, rfl, h1, h2⟩
set_option maxRecDepth 100000 in
set_option maxHeartbeats 4000000 in
theorem qtr {w : World} {br g cap : Nat} {L : List Ent} {ao : Option Addr} {cW : Nat} {Ws : List Wk} {cnt st : Int} (h : GRef w br g cap L ao cW Ws cnt st) (E : Ents L) (EW : Wks Ws) (i : Nat) (x : Ent) (hi : L[i]? = some x) :
  Calls Tryz.prog 164 #[.pointer (some ⟨br, 0, none⟩), .int .i64 i] w fun e w' => ∃ slv, e = .returned (.agg #[.string (sb (joinB x.key)), .bool x.leaf, .int .i64 (es0 (qaf L (joinB x.key))), .int .i64 (es1 (qaf L (joinB x.key))), .int .i64 x.b0, .int .i64 x.b1, .int .i64 (ws0 (qae Ws (joinB x.key))), .int .i64 (ws1 (qae Ws (joinB x.key))), slv]) /\ w'.ownsRow 0 3 1 slv (qam Ws x.key Ws.length).length (qfq (qam Ws x.key Ws.length)) /\ (∀ b, slv.ownBlock = some b -> w.heap.size <= b) /\ Below w.heap.size w w' := by
 have hbr := h.ref.at_.lt
 have hgl := (h.ref.row.lt g rfl).2
 have hnom := fun W (hW : Below w.heap.size w W) => qcr (h.ref.below hW) E (sb (joinB x.key)) (E.small (List.mem_of_getElem? hi))
 rw [qbi] at hnom
 have husg := fun W (hW : Below w.heap.size w W) => qe7 (h.below hW) EW (sb (joinB x.key)) (E.small (List.mem_of_getElem? hi))
 rw [qbi] at husg
 have hwL := fun W (hW : Below w.heap.size w W) => ((h.ref.below hW).at_.cell 1)
 have hc0 := h.ref.at_.cell 0
 simp only [List.getElem?_toArray, List.getElem?_cons_zero, List.getElem?_cons_succ] at hc0 hwL
 have hilt : i < L.length := (List.getElem?_eq_some_iff.1 hi).1
 have hL20 := E.len
 have p0 := h.ref.ent hi (j := 0) (v := .string (sb (joinB x.key))) rfl
 have p1 := h.ref.ent hi (j := 1) (v := .bool x.leaf) rfl
 have p2 := h.ref.ent hi (j := 2) (v := .int .i64 x.n0) rfl
 have p3 := h.ref.ent hi (j := 3) (v := .int .i64 x.n1) rfl
 have p4 := h.ref.ent hi (j := 4) (v := .int .i64 x.b0) rfl
 have p5 := h.ref.ent hi (j := 5) (v := .int .i64 x.b1) rfl
 simp only [Nat.add_zero] at p0
 have hkx : qbn x.key = true := (E.ok x (List.mem_of_getElem? hi)).1
 have hW24 := EW.len
 obtain ⟨nW, hnW⟩ : ∃ nW, nW = Ws.length := ⟨_, rfl⟩
 rw [<- hnW] at hW24 hwL
 have HNW : Hid (nW = Ws.length) := hnW
 clear hnW hi E
 obtain ⟨n, hn⟩ : ∃ n, n = L.length := ⟨_, rfl⟩
 rw [<- hn] at hilt hL20 hc0
 clear hn
 have hpe : Hid (∀ y ∈ Ws, ((sb (joinB y.key)).toList == (sb (joinB x.key)).toList) = decide (y.key = x.key)) := by
  show ∀ y ∈ Ws, _
  intro y hy
  rw [qmj, qbi, qbi]
  by_cases e : y.key = x.key
  ·simp [e]
  ·have : joinB y.key ≠ joinB x.key := fun e2 => e (qe5 (EW.ok y hy).1 hkx e2)
   simp [e, this]
 generalize ws0 (qae Ws (joinB x.key)) = u0 at *
 generalize ws1 (qae Ws (joinB x.key)) = u1 at *
 generalize es0 (qaf L (joinB x.key)) = s0 at *
 generalize es1 (qaf L (joinB x.key)) = s1 at *
 generalize sb (joinB x.key) = pth at *
 have hi0 : (0:Int) <= i := by omega
 have hi1 : (i:Int) < n := by omega
 have b4s : Blk ((w.alloc (.cells #[.string ⟨#[]⟩, .bool false, .int .i64 0, .int .i64 0, .int .i64 0, .int .i64 0, .int .i64 0, .int .i64 0, .slice none 0 0] 37)).alloc (.cells #[.string pth, .bool x.leaf, .int .i64 x.n0, .int .i64 x.n1, .int .i64 x.b0, .int .i64 x.b1] 163)) w.heap.size 37 #[.string ⟨#[]⟩, .bool false, .int .i64 0, .int .i64 0, .int .i64 0, .int .i64 0, .int .i64 0, .int .i64 0, .slice none 0 0] := (Blk.new w 37 _).alloc _
 have b5s : Blk ((w.alloc (.cells #[.string ⟨#[]⟩, .bool false, .int .i64 0, .int .i64 0, .int .i64 0, .int .i64 0, .int .i64 0, .int .i64 0, .slice none 0 0] 37)).alloc (.cells #[.string pth, .bool x.leaf, .int .i64 x.n0, .int .i64 x.n1, .int .i64 x.b0, .int .i64 x.b1] 163)) (w.heap.size + 1) 163 #[.string pth, .bool x.leaf, .int .i64 x.n0, .int .i64 x.n1, .int .i64 x.b0, .int .i64 x.b1] := Blk.new' (by simp)
 go_enter Tryz.func164, Tryz.ntmps164
 go_upto_region 2 with fail
 clear p0 p1 p2 p3 p4 p5 hc0
 have hB0 : Below w.heap.size w ((w.alloc (.cells #[.string ⟨#[]⟩, .bool false, .int .i64 0, .int .i64 0, .int .i64 0, .int .i64 0, .int .i64 0, .int .i64 0, .slice none 0 0] 37)).alloc (.cells #[.string pth, .bool x.leaf, .int .i64 x.n0, .int .i64 x.n1, .int .i64 x.b0, .int .i64 x.b1] 163)) := by exact bel2
 have hsz0 : ((w.alloc (.cells #[.string ⟨#[]⟩, .bool false, .int .i64 0, .int .i64 0, .int .i64 0, .int .i64 0, .int .i64 0, .int .i64 0, .slice none 0 0] 37)).alloc (.cells #[.string pth, .bool x.leaf, .int .i64 x.n0, .int .i64 x.n1, .int .i64 x.b0, .int .i64 x.b1] 163)).heap.size = w.heap.size + 2 := by simp
 generalize ((w.alloc (.cells #[.string ⟨#[]⟩, .bool false, .int .i64 0, .int .i64 0, .int .i64 0, .int .i64 0, .int .i64 0, .int .i64 0, .slice none 0 0] 37)).alloc (.cells #[.string pth, .bool x.leaf, .int .i64 x.n0, .int .i64 x.n1, .int .i64 x.b0, .int .i64 x.b1] 163)) = W0 at b5s b4s hB0 hsz0 ⊢
 have d0 := b5s.cell 0
 have d1 := b5s.cell 1
 have d4 := b5s.cell 4
 have d5 := b5s.cell 5
 have lt4 := b4s.lt
 have lt5 := b5s.lt
 have hsz1 := hB0.size
 simp only [List.getElem?_toArray, List.getElem?_cons_zero, List.getElem?_cons_succ] at d0 d1 d4 d5
 clear hsz0
 have k0 : ¬ (br = W0.heap.size) := by omega
 have k0' : ¬ (w.heap.size = W0.heap.size) := by omega
 have n05 : ¬ (w.heap.size + 1 = W0.heap.size) := by omega
 have n05' : ¬ (W0.heap.size = w.heap.size + 1) := by omega
 go_cut [6] from 15 to 29 (fun q wx => ∃ b6, q = .pointer (some ⟨b6, 0, none⟩) /\ Below w.heap.size w wx /\ Blk wx w.heap.size 37 #[.string ⟨#[]⟩, .bool false, .int .i64 0, .int .i64 0, .int .i64 0, .int .i64 0, .int .i64 0, .int .i64 0, .slice none 0 0] /\ Blk wx b6 37 #[.string pth, .bool x.leaf, .int .i64 s0, .int .i64 s1, .int .i64 x.b0, .int .i64 x.b1, .int .i64 u0, .int .i64 u1, .slice none 0 0] /\ w.heap.size + 1 < b6 /\ Blk wx (w.heap.size + 1) 163 #[.string pth, .bool x.leaf, .int .i64 x.n0, .int .i64 x.n1, .int .i64 x.b0, .int .i64 x.b1])
 case first =>
  go_region_held3 (fun w' => w'.cell? ⟨w.heap.size + 1, 0, none⟩ = some (.string pth) /\ w'.cell? ⟨w.heap.size + 1, 1, none⟩ = some (.bool x.leaf) /\ w'.cell? ⟨w.heap.size + 1, 4, none⟩ = some (.int .i64 x.b0) /\ w'.cell? ⟨w.heap.size + 1, 5, none⟩ = some (.int .i64 x.b1)) (go_keep)
   (first
   | (go_at_call 203; refine (hnom _ ?_).mono ?_; (focus exact bel2); rintro e w1 ⟨rfl, hb1⟩; have hB1 : Below w.heap.size w w1 := qac (by exact bel2) hb1; have b51 : Blk w1 (w.heap.size + 1) 163 #[.string pth, .bool x.leaf, .int .i64 x.n0, .int .i64 x.n1, .int .i64 x.b0, .int .i64 x.b1] := Blk.below (by exact blk2) hb1 (by first | omega | (simp <;> omega)); have b41 : Blk w1 w.heap.size 37 #[.string ⟨#[]⟩, .bool false, .int .i64 0, .int .i64 0, .int .i64 0, .int .i64 0, .int .i64 0, .int .i64 0, .slice none 0 0] := Blk.below (by exact blk2) hb1 (by first | omega | (simp <;> omega)); have e0 := b51.cell 0; have e1 := b51.cell 1; have e4 := b51.cell 4; have e5 := b51.cell 5; have l4 := b41.lt; have l5 := b51.lt; have hz1 := hB1.size; have k1 : ¬ (br = w1.heap.size) := (by omega); have k1' : ¬ (w.heap.size = w1.heap.size) := (by omega); have k1'' : br < w1.heap.size := (by omega); have n15 : ¬ (w.heap.size + 1 = w1.heap.size) := (by omega); have n15' : ¬ (w1.heap.size = w.heap.size + 1) := (by omega); simp only [List.getElem?_toArray, List.getElem?_cons_zero, List.getElem?_cons_succ] at e0 e1 e4 e5; (try (have b61 : Blk w1 W0.heap.size 37 #[.string ⟨#[]⟩, .bool false, .int .i64 0, .int .i64 0, .int .i64 0, .int .i64 0, .int .i64 0, .int .i64 0, .slice none 0 0] := Blk.below (by first | (with_reducible exact Blk.new' (by simp)) | (with_reducible exact Blk.drew (Blk.new' (by simp)))) hb1 (by simp); have l6 := b61.lt)))
   | (go_at_call 204; refine (husg _ ?_).mono ?_; (focus exact bel2); rintro e w2 ⟨rfl, hb2⟩; have hB2 : Below w.heap.size w w2 := qac (by exact bel2) hb2; have b52 : Blk w2 (w.heap.size + 1) 163 #[.string pth, .bool x.leaf, .int .i64 x.n0, .int .i64 x.n1, .int .i64 x.b0, .int .i64 x.b1] := Blk.below (by exact blk2) hb2 (by first | omega | (simp <;> omega)); have b42 : Blk w2 w.heap.size 37 #[.string ⟨#[]⟩, .bool false, .int .i64 0, .int .i64 0, .int .i64 0, .int .i64 0, .int .i64 0, .int .i64 0, .slice none 0 0] := Blk.below (by exact blk2) hb2 (by first | omega | (simp <;> omega)); have f0 := b52.cell 0; have f1 := b52.cell 1; have f4 := b52.cell 4; have f5 := b52.cell 5; have m4 := b42.lt;  have m5 := b52.lt; have hz2 := hB2.size; have k2 : ¬ (br = w2.heap.size) := (by omega); have k2' : ¬ (w.heap.size = w2.heap.size) := (by omega); have k2'' : br < w2.heap.size := (by omega); have n25 : ¬ (w.heap.size + 1 = w2.heap.size) := (by omega); have n25' : ¬ (w2.heap.size = w.heap.size + 1) := (by omega); simp only [List.getElem?_toArray, List.getElem?_cons_zero, List.getElem?_cons_succ] at f0 f1 f4 f5; (try (have b62 : Blk w2 W0.heap.size 37 #[.string ⟨#[]⟩, .bool false, .int .i64 0, .int .i64 0, .int .i64 0, .int .i64 0, .int .i64 0, .int .i64 0, .slice none 0 0] := Blk.below (by with_reducible exact b61) hb2 (by omega); have c6 := b62.cell; have g6 := b62.frozen; have l62 := b62.lt)); (try (have b62 : Blk w2 w1.heap.size 37 #[.string ⟨#[]⟩, .bool false, .int .i64 0, .int .i64 0, .int .i64 0, .int .i64 0, .int .i64 0, .int .i64 0, .slice none 0 0] := Blk.below (by first | (with_reducible exact Blk.new' (by simp)) | (with_reducible exact Blk.drew (Blk.new' (by simp)))) hb2 (by simp); have c6 := b62.cell; have g6 := b62.frozen; have l62 := b62.lt)); have hw2 := hwL _ hB2))
  all_goals go_wp2_with fail
  ·go_meet
   exact ⟨_, rfl, hB2.alloc hz2 _, b42.alloc _, Blk.new' rfl, m5, b52.alloc _⟩
  ·go_meet
   exact ⟨_, rfl, qgq hB2 hz1 .., qoi b42 k1' .., qjd b62 .., l5, qoi b52 n15 ..⟩
  ·go_meet
   exact ⟨_, rfl, qgq hB2 hsz1 .., qoi b42 k0' .., qjd b62 .., lt5, qoi b52 n05 ..⟩
 case rest =>
  obtain ⟨b6, rfl, hBc, b4c, b6c, hlt6, b5c⟩ := hcut
  clear hnom husg b4s b5s hB0 d0 d1 d4 d5
  go_wp2_with fail
  go_loopw [7] (fun j wr => ∃ (k : Nat) (slv : Value), k <= nW /\ j = .int .i64 k /\ Below w.heap.size w wr /\ Blk wr w.heap.size 37 #[.string ⟨#[]⟩, .bool false, .int .i64 0, .int .i64 0, .int .i64 0, .int .i64 0, .int .i64 0, .int .i64 0, .slice none 0 0] /\ Blk wr (w.heap.size + 1) 163 #[.string pth, .bool x.leaf, .int .i64 x.n0, .int .i64 x.n1, .int .i64 x.b0, .int .i64 x.b1] /\ Blk wr b6 37 #[.string pth, .bool x.leaf, .int .i64 s0, .int .i64 s1, .int .i64 x.b0, .int .i64 x.b1, .int .i64 u0, .int .i64 u1, slv] /\ wr.ownsRow 0 3 1 slv (qam Ws x.key k).length (qfq (qam Ws x.key k)) /\ (∀ b, slv.ownBlock = some b -> w.heap.size <= b)) (fun j _ => nW - (intOf j).toNat)
  case atStart => exact ⟨0, .slice none 0 0, Nat.zero_le _, rfl, hBc, b4c, b5c, b6c, World.ownsRow_nil _ _ _ _, fun b hb => by cases hb⟩
  case round =>
   obtain ⟨k, slv, hk, rfl, hbel, f4, f5, f6, frow, fge⟩ := hrel
   have hd1 := hwL _ hbel
   have n6 := qlw frow f6 (by decide)
   have n5 := qlw frow f5 (by decide)
   have n4 := qlw frow f4 (by decide)
   have o4 := f4.lt
   have o5 := f5.lt
   have o6 := f6.lt
   obtain ⟨aS, cS, rfl, hS1, hS2⟩ := qmh frow
   by_cases hlt : k < nW
   ·have hlt' : k < Ws.length := by rw [<- HNW.out]; exact hlt
    obtain ⟨y, hy⟩ : ∃ y, Ws[k]? = some y := ⟨_, List.getElem?_eq_getElem hlt'⟩
    have hym := List.mem_of_getElem? hy
    have HW : Hid (qam Ws x.key (k + 1) = qam Ws x.key k ++ (if decide (y.key = x.key) && (y.st == 0) then [y] else [])) := qk1 hy
    have hpy := hpe.out y hym
    obtain ⟨b, hao, hbl, hcw1, hcw2, p0, p1, p2, p3, p4⟩ := (h.below hbel).wk hy
    have hbl0 : b < w.heap.size := qal h.wrow (by rw [hao]; rfl)
    subst hao
    rw [<- HNW.out] at hcw1
    have hlen : (qam Ws x.key k).length <= 24 := Nat.le_trans (List.length_filter_le _ _) (by simp; omega)
    have z5 := f5.cell 0
    have z6 := f6.cell 8
    have g6 := f6.frozen 8
    simp only [List.getElem?_toArray, List.getElem?_cons_zero, List.getElem?_cons_succ] at z5 z6
    have hki : (k : Int) < nW := by omega
    have hki0 : (0 : Int) <= k := by omega
    clear hy hym p2 p3
    have HFIN : Hid (∀ w', Below w.heap.size w w' -> Blk w' w.heap.size 37 #[.string ⟨#[]⟩, .bool false, .int .i64 0, .int .i64 0, .int .i64 0, .int .i64 0, .int .i64 0, .int .i64 0, .slice none 0 0] -> Blk w' (w.heap.size + 1) 163 #[.string pth, .bool x.leaf, .int .i64 x.n0, .int .i64 x.n1, .int .i64 x.b0, .int .i64 x.b1] -> Blk w' b6 37 #[.string pth, .bool x.leaf, .int .i64 s0, .int .i64 s1, .int .i64 x.b0, .int .i64 x.b1, .int .i64 u0, .int .i64 u1, .slice aS (qam Ws x.key k).length cS] -> w'.ownsRow 0 3 1 (.slice aS (qam Ws x.key k).length cS) (qam Ws x.key k).length (qfq (qam Ws x.key k)) -> qam Ws x.key (k + 1) = qam Ws x.key k -> (∃ (k_1 : Nat) (slv : Value), k_1 <= nW /\ Value.int .i64 ((k : Int) + 1) = Value.int .i64 k_1 /\ Below w.heap.size w w' /\ Blk w' w.heap.size 37 #[.string ⟨#[]⟩, .bool false, .int .i64 0, .int .i64 0, .int .i64 0, .int .i64 0, .int .i64 0, .int .i64 0, .slice none 0 0] /\ Blk w' (w.heap.size + 1) 163 #[.string pth, .bool x.leaf, .int .i64 x.n0, .int .i64 x.n1, .int .i64 x.b0, .int .i64 x.b1] /\ Blk w' b6 37 #[.string pth, .bool x.leaf, .int .i64 s0, .int .i64 s1, .int .i64 x.b0, .int .i64 x.b1, .int .i64 u0, .int .i64 u1, slv] /\ w'.ownsRow 0 3 1 slv (qam Ws x.key k_1).length (qfq (qam Ws x.key k_1)) /\ (∀ b, slv.ownBlock = some b -> w.heap.size <= b)) /\ nW - (intOf (Value.int .i64 ((k : Int) + 1))).toNat < nW - (intOf (Value.int .i64 (k : Int))).toNat) := by
     show ∀ w', _
     intro w' h1 h2 h3 h4 h5 h6
     exact ⟨⟨k + 1, _, by omega, by go_num, h1, h2, h3, h4, by rw [h6]; exact h5, fge⟩, by simp [intOf]; omega⟩
    by_cases hk1 : y.key = x.key
    ·rw [decide_eq_true hk1] at HW hpy
     clear hk1
     generalize sb (joinB y.key) = py at p1 hpy
     cases hst : (y.st == 0)
     ·rw [hst] at HW
      go_wp2_with fail
      go_quiet (fail)
      go_wp2_with fail
      exact HFIN.out _ (below_drewN hbel _) (by exact blk2) (by exact blk2) (by exact blk2) (qab (T := fun _ => False) frow (Keep.new (below_drewN (Below.refl _ _) _)) (fun _ _ h => h)) (by rw [HW.out]; simp)
     ·rw [hst] at HW
      go_wp2_with fail
      go_quiet (fail)
      have hBq : Below wr.heap.size wr (wr.drewN nq) := below_drewN (Below.refl _ _) _
      have hBw : Below w.heap.size w (wr.drewN nq) := below_drewN hbel _
      generalize wr.drewN nq = wq at hBq hBw ⊢
      have a4 := f4.below hBq o4
      have a5 := f5.below hBq o5
      have a6 := f6.below hBq o6
      have arow := qab (T := fun _ => False) frow (Keep.new hBq) (fun _ _ h => h)
      have bd1 := hwL _ hBw
      have bp0 := (hBq.cell (p := ⟨b, k * 5, none⟩) hbl).trans p0
      have q6 := a6.cell 8
      have m6 := a6.lt
      simp only [List.getElem?_toArray, List.getElem?_cons_zero, List.getElem?_cons_succ] at q6
      have hzq := hBq.size
      clear f4 f5 f6 hd1 p0 p1 p4 z5 z6 g6 hpy hBq
      obtain ⟨ln, hln⟩ : ∃ ln, ln = (qam Ws x.key k).length := ⟨_, rfl⟩
      have HLN : Hid (ln = (qam Ws x.key k).length) := hln
      rw [<- hln] at a6 arow q6 hlen hS1 n4 n5 n6 fge
      have hap := fun W' (hr : W'.ownsRow 0 3 1 (.slice aS ln cS) ln (qfq (qam Ws x.key k))) nb (hnb : Blk W' nb 3 #[.int .i64 y.num]) =>
       qby un29 inf3 (by omega) W' _ ln _ hr nb 1 1 (by omega) [.int .i64 y.num] rfl hnb (by intro u hu; simp at hu; subst hu; rfl) (by unfold maxLen; omega) (by omega)
      clear hln HFIN frow
      go_wp2_with fail
      go_region_law (first
       | (refine qau rfl (.tmp 62) (.tmp 71) 25 25 rfl _ _ ?_ ?_ (hap _ ?_ ?_ ?_) ?_; (focus (simp [Act.eval, Act.put])); (focus ((try simp [Act.eval, Act.put]); (try rfl))); (focus (exact qab (T := fun _ => False) arow (Keep.new (by exact bel2)) (fun _ _ h => h))); (focus exact blk2); rintro vA wA ⟨gT, cT, rfl, RA⟩; have bA := Blk.keep (show Blk _ b6 37 #[.string pth, .bool x.leaf, .int .i64 s0, .int .i64 s1, .int .i64 x.b0, .int .i64 x.b1, .int .i64 u0, .int .i64 u1, .slice aS ln cS] by exact blk2) RA.keep n6; have bA4 := Blk.keep (show Blk _ w.heap.size 37 #[.string ⟨#[]⟩, .bool false, .int .i64 0, .int .i64 0, .int .i64 0, .int .i64 0, .int .i64 0, .int .i64 0, .slice none 0 0] by exact blk2) RA.keep n4; have bA5 := Blk.keep (show Blk _ (w.heap.size + 1) 163 #[.string pth, .bool x.leaf, .int .i64 x.n0, .int .i64 x.n1, .int .i64 x.b0, .int .i64 x.b1] by exact blk2) RA.keep n5; have hBA : Below w.heap.size w wA := qv6 (by exact bel2) RA.keep fge; have hgT : w.heap.size <= gT := bnew (by exact bel2) RA.new fge; have cA := bA.cell 8; have fA := bA.frozen 8; simp only [List.getElem?_toArray, List.getElem?_cons_zero, List.getElem?_cons_succ] at cA))
      all_goals go_wp2_with fail
      all_goals
       refine ⟨⟨k + 1, .slice (some ⟨gT, 0, none⟩) (ln + 1) cT, by omega, by go_num, hBA.setCell (by simp; omega) _, bA4.other _ _ (by simp; omega), bA5.other _ _ (by simp; omega), by simpa using bA.set 8 (.slice (some ⟨gT, 0, none⟩) (ln + 1) cT), ?_, ?_⟩, by simp [intOf]; omega⟩
       ·have hW : qam Ws x.key (k + 1) = qam Ws x.key k ++ [y] := by have := HW.out; simpa using this
        have hl1 : (qam Ws x.key k ++ [y]).length = ln + 1 := by simp [HLN.out]
        rw [hW, hl1, show qfq (qam Ws x.key k ++ [y]) = qfq (qam Ws x.key k) ++ [.int .i64 y.num] by simp [qfq]]
        exact ownsRow_setCell_other RA.own (qlw RA.own bA (by decide)) _
       ·intro b' hb'
        simp [Value.ownBlock] at hb'
        subst hb'
        exact hgT
    ·rw [decide_eq_false hk1] at HW hpy
     clear hk1
     generalize sb (joinB y.key) = py at p1 hpy
     go_wp2_with fail
     go_quiet (fail)
     go_wp2_with fail
     exact HFIN.out _ (below_drewN hbel _) (by exact blk2) (by exact blk2) (by exact blk2) (qab (T := fun _ => False) frow (Keep.new (below_drewN (Below.refl _ _) _)) (fun _ _ h => h)) (by rw [HW.out]; simp)
   ·have z6 := f6.cell
    have z4 := f4.cell
    have g4 := f4.frozen
    have n46 : ¬ (w.heap.size = b6) := by omega
    have n64 : ¬ (b6 = w.heap.size) := by omega
    have hkn : Hid (qam Ws x.key k = qam Ws x.key Ws.length) := by
     have : k = Ws.length := by have := HNW.out; omega
     rw [this]; rfl
    go_wp2_with fail
    have hfin := qjd f4 (.string pth) (.bool x.leaf) (.int .i64 s0) (.int .i64 s1) (.int .i64 x.b0) (.int .i64 x.b1) (.int .i64 u0) (.int .i64 u1) (.slice aS (qam Ws x.key k).length cS)
    have hc := hfin.cell
    clear z4 z6 g4
    exact bodyPost_ret (v := .agg #[.string pth, .bool x.leaf, .int .i64 s0, .int .i64 s1, .int .i64 x.b0, .int .i64 x.b1, .int .i64 u0, .int .i64 u1, .slice aS (qam Ws x.key k).length cS]) (by simp [results, Tryz.results164, go_sem, hc]) rfl ⟨_, rfl, by rw [<- hkn.out]; exact qwh frow n4 .., fge, qgq hbel (Nat.le_refl _) ..⟩
end Go.Proofs.YtphclnolomgjoaaGreatDoor
