import Derived.Test.YtphclnolomgjoaaGreatDoorY05
import Derived.Test.YtphclnolomgjoaaGreatDoorB37
import Derived.Test.YtphclnolomgjoaaGreatDoorY01
set_option linter.unusedVariables false
set_option linter.unusedSimpArgs false
namespace Go.Proofs.YtphclnolomgjoaaGreatDoor
open Go.RowKit
theorem un61K : Tryz.prog.underlying 61 = some (.slice 37) := by kernel_rfl
theorem i37aK : (Tryz.prog.info? 37).map (fun i => (i.size, i.bytes)) = some (9, 96) := by kernel_rfl
theorem i37bK : (Tryz.prog.info? 37).bind (fun i => i.zero) = some (.agg #[.string ⟨#[]⟩, .bool false, .int .i64 0, .int .i64 0, .int .i64 0, .int .i64 0, .int .i64 0, .int .i64 0, .slice none 0 0]) := by kernel_rfl
theorem inf37K : qfa 37 9 96 := qge i37aK i37bK rfl
structure QT where
  p : ByteArray
  lf : Bool
  i0 : Int
  i1 : Int
  i2 : Int
  i3 : Int
  i4 : Int
  i5 : Int
  a : Option Addr
  m : Nat
  c : Nat
def qtC (q : QT) : List Value := [.string q.p, .bool q.lf, .int .i64 q.i0, .int .i64 q.i1, .int .i64 q.i2, .int .i64 q.i3, .int .i64 q.i4, .int .i64 q.i5, .slice q.a q.m q.c]
def qtsC (l : List QT) : List Value := l.flatMap qtC
theorem qtsC_append (a b : List QT) : qtsC (a ++ b) = qtsC a ++ qtsC b := by simp [qtsC]
theorem qtsC_get : ∀ (L : List QT) (i j : Nat) (e : QT), L[i]? = some e → j < 9 → (qtsC L)[i * 9 + j]? = (qtC e)[j]?
  | [], _, _, _, h, _ => by simp at h
  | a :: L, 0, j, e, h, hj => by
    simp at h; subst h
    simp only [qtsC, List.flatMap_cons, Nat.zero_mul, Nat.zero_add]
    rw [List.getElem?_append_left (by simp [qtC]; omega)]
  | a :: L, i + 1, j, e, h, hj => by
    have ih := qtsC_get L i j e (by simpa using h) hj
    simp only [qtsC, List.flatMap_cons] at ih ⊢
    rw [List.getElem?_append_right (by simp [qtC]; omega)]
    rw [show (i + 1) * 9 + j - (qtC a).length = i * 9 + j by simp [qtC]; omega]
    exact ih
def QTells (R : KR) (i : Nat) (q : QT) : Prop := q.p = sb (qaa (keyI R i)) ∧ q.i0 = es0 (qai R.k.L (qaa (keyI R i))) ∧ q.i1 = es1 (qai R.k.L (qaa (keyI R i))) ∧ q.i2 = (entK R.k.L (keyI R i)).b0 ∧ q.i3 = (entK R.k.L (keyI R i)).b1 ∧ q.i4 = ws0 (qae R.k.Ws (qaa (keyI R i))) ∧ q.i5 = ws1 (qae R.k.Ws (qaa (keyI R i))) ∧ q.m = (R.k.waits (entK R.k.L (keyI R i))).length
section
variable {F : Nat → Prop} {N : Nat} {W w' : World} {rb : Nat} {R : KR} {P : Nat → Prop} {bt : Nat} {vp vw vl v : Value} {n : Nat} {qs : List QT}
theorem told_at (h : qau F W rb R) (I : RunI n R) {i : Nat} (hi : i ≤ 8) : ∃ lf, Told R (sb (qaa (keyI R i))) lf (es0 (qai R.k.L (qaa (keyI R i)))) (es1 (qai R.k.L (qaa (keyI R i)))) (entK R.k.L (keyI R i)).b0 (entK R.k.L (keyI R i)).b1 (ws0 (qae R.k.Ws (qaa (keyI R i)))) (ws1 (qae R.k.Ws (qaa (keyI R i)))) (R.k.waits (entK R.k.L (keyI R i))).length ((i : Int) - 1) rb W := by
  obtain ⟨nodes, K⟩ := h.kinv
  obtain ⟨x, hx, hxk, hxl, hsz, hq⟩ := qs6 h K I hi
  have hek : entK R.k.L (keyI R i) = x := by
    unfold entK; rw [← hxk, qiw K hx]; rfl
  have := quf hq
  rw [hek, ← hxk]
  exact ⟨_, this⟩
structure WasM (N : Nat) (W : World) (rb : Nat) (R : KR) (bt : Nat) (vp vw vl v : Value) (qs : List QT) : Prop where
  run : ∃ P, RunM (fun b => b < N ∨ v.ownBlock = some b) W rb R P bt vp vw vl
  row : W.ownsRow 0 37 9 v qs.length (qtsC qs)
  new : ∀ b, v.ownBlock = some b → N ≤ b
  le : N ≤ W.heap.size
  tell : ∀ i q, qs[i]? = some q → QTells R i q
theorem WasM.below (h : WasM N W rb R bt vp vw vl v qs) (hb : Below W.heap.size W w') : WasM N w' rb R bt vp vw vl v qs := by
  obtain ⟨P, hR⟩ := h.run
  exact ⟨⟨P, hR.below hb⟩, qfq h.row hb, h.new, Nat.le_trans h.le hb.size, h.tell⟩
theorem WasM.app (h : WasM N W rb R bt vp vw vl v qs) (hl : qs.length ≤ 100) (x : QT) (hx : QTells R qs.length x) (nb : Nat) (hnb : Blk W nb 37 #[.string x.p, .bool x.lf, .int .i64 x.i0, .int .i64 x.i1, .int .i64 x.i2, .int .i64 x.i3, .int .i64 x.i4, .int .i64 x.i5, .slice x.a x.m x.c]) :
    ∃ v' w', (∀ ty, (Builtin.append_ #[61, 61] ty #[v, .slice (some ⟨nb, 0, none⟩) 1 1]).run Tryz.prog W = .ok v' w') ∧ ∃ a c, v' = .slice a (qs.length + 1) c ∧ Hid (WasM N w' rb R bt vp vw vl (.slice a (qs.length + 1) c) (qs ++ [x]) ∧ Below N W w') := by
  obtain ⟨v', w', hr, g', cap', rfl, A⟩ := qey un61K inf37K (by omega) W v qs.length (qtsC qs) h.row nb 1 1 (by omega) (qtsC [x]) rfl (by simpa [qtsC, qtC] using hnb) (fun u hu => by simp [qtsC, qtC] at hu; rcases hu with rfl | rfl | rfl | rfl | rfl | rfl | rfl | rfl | rfl <;> rfl) (by unfold maxLen; omega) (by omega)
  obtain ⟨P, hR⟩ := h.run
  have hlt : g' < w'.heap.size := qap A.own rfl
  refine ⟨_, w', hr, _, cap', rfl, ⟨⟨P, hR.fo' A.keep (fun b e => .inr e) (fun b e => ?_) (fun b e => ?_)⟩, ?_, fun b e => ?_, Nat.le_trans h.le A.keep.size, fun i q hq => ?_⟩, ?_⟩
  · rcases e with e | e
    · exact .inl (.inl e)
    · simp [Value.ownBlock] at e
      subst e
      rcases A.new with e2 | e2
      · exact .inl (.inr e2)
      · exact .inr e2
  · rcases e with e | e
    · have := h.le; have := A.keep.size; omega
    · simp [Value.ownBlock] at e
      omega
  · have := A.own
    rw [qtsC_append]
    simp only [List.length_append, List.length_cons, List.length_nil]
    exact this
  · simp [Value.ownBlock] at e
    subst e
    rcases A.new with e2 | e2
    · exact h.new _ e2
    · have := h.le; omega
  · by_cases hi : i < qs.length
    · rw [List.getElem?_append_left hi] at hq; exact h.tell i q hq
    · rw [List.getElem?_append_right (by omega)] at hq
      have : i = qs.length := by
        have := (List.getElem?_eq_some_iff.1 hq).1
        simp at this; omega
      subst this
      simp at hq
      subst hq
      exact hx
  · exact ⟨A.keep.os, A.keep.tape, A.keep.output, A.keep.size, fun k hk => A.keep.block k (by have := h.le; omega) (fun e => by have := h.new k e; omega)⟩
theorem WasM.at_ (h : WasM N W rb R bt vp vw vl v qs) {i : Nat} {q : QT} (hq : qs[i]? = some q) : ∃ g c, v = .slice (some ⟨g, 0, none⟩) qs.length c ∧ g < W.heap.size ∧ qs.length ≤ c ∧ c ≤ maxLen ∧ W.cell? ⟨g, i * 9, none⟩ = some (.string q.p) ∧ W.cell? ⟨g, i * 9 + 1, none⟩ = some (.bool q.lf) ∧ W.cell? ⟨g, i * 9 + 2, none⟩ = some (.int .i64 q.i0) ∧ W.cell? ⟨g, i * 9 + 3, none⟩ = some (.int .i64 q.i1) ∧ W.cell? ⟨g, i * 9 + 4, none⟩ = some (.int .i64 q.i2) ∧ W.cell? ⟨g, i * 9 + 5, none⟩ = some (.int .i64 q.i3) ∧ W.cell? ⟨g, i * 9 + 6, none⟩ = some (.int .i64 q.i4) ∧ W.cell? ⟨g, i * 9 + 7, none⟩ = some (.int .i64 q.i5) ∧ W.cell? ⟨g, i * 9 + 8, none⟩ = some (.slice q.a q.m q.c) := by
  have hlt := (List.getElem?_eq_some_iff.1 hq).1
  obtain ⟨g, c, rfl, h1, h2⟩ := qa9 h.row (by omega)
  have hc : ∀ j u, (qtC q)[j]? = some u → j < 9 → W.cell? ⟨g, i * 9 + j, none⟩ = some u := fun j u hu hj => by
    have := h.row.cells (g := g) rfl (i * 9 + j) u ((qtsC_get qs i j q hq hj).trans hu)
    rw [Addr.add_lit, Nat.zero_add] at this
    exact this
  exact ⟨g, c, rfl, qap h.row rfl, h1, h2, hc 0 _ rfl (by omega), hc 1 _ rfl (by omega), hc 2 _ rfl (by omega), hc 3 _ rfl (by omega), hc 4 _ rfl (by omega), hc 5 _ rfl (by omega), hc 6 _ rfl (by omega), hc 7 _ rfl (by omega), hc 8 _ rfl (by omega)⟩
end
theorem bad_start (w : Bs) : qar (47 :: w) = false := by
  unfold qar qac
  rw [if_neg (by simp)]
  simp [qax, qbr]
theorem bad_end (w : Bs) : qar (w ++ [47]) = false := by
  unfold qar qac
  rw [if_neg (by simp)]
  have h2 : qax [47] = [] :: [[]] := by decide
  have h1 : qax w = (qax w).dropLast ++ [(qax w).getLast (qg8 w)] := (List.dropLast_concat_getLast (qg8 w)).symm
  rw [qlw w [47] h1 h2]
  simp [qbr]
section
variable {F : Nat → Prop} {W w' : World} {rb : Nat} {R : KR} {P : Nat → Prop} {bt : Nat} {vp vw vl : Value} {n : Nat}
theorem kp_badLeaf (h : RunM F W rb R P bt vp vw vl) (s : ByteArray) (hs : s.size ≤ 2000000) (hv : qar (bl s) = false) : Calls Tryz.prog 26 #[.pointer (some ⟨bt, 0, none⟩), .string s, .agg #[.int .i64 0, .int .i64 0], .agg #[.int .i64 0, .int .i64 0]] W (RefK F rb R bt vp vw vl 1 W) := by
  refine (qwx h.tw s hs 0 0 0 0).mono ?_
  rintro e w' ⟨ev, rfl, ho⟩
  have hm : R.k.make (bl s) true 0 0 0 0 = R.k.same 1 := by
    unfold KS.make errE
    rw [hv]
    simp
  rw [hm] at ho ⊢
  exact ⟨ev, rfl, same_of h ho⟩
theorem kp_badCohort (h : RunM F W rb R P bt vp vw vl) (s : ByteArray) (hs : s.size ≤ 2000000) (hv : qar (bl s) = false) : Calls Tryz.prog 27 #[.pointer (some ⟨bt, 0, none⟩), .string s, .agg #[.int .i64 0, .int .i64 0]] W (RefK F rb R bt vp vw vl 1 W) := by
  refine (qpf h.tw s hs 0 0).mono ?_
  rintro e w' ⟨ev, rfl, ho⟩
  have hm : R.k.make (bl s) false 0 0 0 0 = R.k.same 1 := by
    unfold KS.make errE
    rw [hv]
    simp
  rw [hm] at ho ⊢
  exact ⟨ev, rfl, same_of h ho⟩
end
theorem kept_calls {F : Nat → Prop} {wr : World} {rb k : Nat} {s : Stp} (h : ∃ R, RunI k R ∧ NmI R ∧ qau F wr rb R) (hk : k < 50) (h1 : I64 s.k) (h2 : I64 s.a) (h3 : I64 s.b) (h4 : I64 s.c) :
    Calls Tryz.prog 17 #[.pointer (some ⟨rb, 0, none⟩), .agg #[.int .i64 s.k, .int .i64 s.a, .int .i64 s.b, .int .i64 s.c]] wr fun e w' => e = .returned (.bool true) ∧ Hid (∃ R, RunI (k + 1) R ∧ NmI R ∧ qau F w' rb R) ∧ Keep (fun b => ¬ F b) wr w' := by
  obtain ⟨R, hI, hN, hR⟩ := h
  obtain ⟨nodes, K⟩ := hR.kinv
  obtain ⟨R', hS, hI', hc⟩ := q0o hR hI (by omega) h1 h2 h3 h4
  refine hc.mono ?_
  rintro e w' ⟨rfl, g1, g2⟩
  exact ⟨rfl, ⟨R', hI', hN.step hI K hS, g1⟩, g2⟩
end Go.Proofs.YtphclnolomgjoaaGreatDoor
