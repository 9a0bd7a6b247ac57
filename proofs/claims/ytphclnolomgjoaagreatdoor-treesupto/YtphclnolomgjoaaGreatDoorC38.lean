import Derived.Test.YtphclnolomgjoaaGreatDoorC06
import Derived.Test.YtphclnolomgjoaaGreatDoorC37
import Derived.Test.YtphclnolomgjoaaGreatDoorC11
import Derived.Test.YtphclnolomgjoaaGreatDoorC34
import Derived.Test.YtphclnolomgjoaaGreatDoorC12
import Derived.Test.YtphclnolomgjoaaGreatDoorC35
set_option linter.unusedVariables false
set_option linter.unusedSimpArgs false
namespace Go.Proofs.YtphclnolomgjoaaGreatDoor
open Go.RowKit
def noQ : Array Value := #[.string ⟨#[]⟩, .bool false, .int .i64 0, .int .i64 0, .int .i64 0, .int .i64 0, .int .i64 0, .int .i64 0, .slice none 0 0]
def qhv (L : List Ent) (Ws : List Wk) (s : Bs) (w : World) (e : Ending) (w' : World) : Prop :=
 Below w.heap.size w w' /\
 ((qar s = false /\ e = .returned (.tuple #[.agg noQ, .int .i64 1])) \/
  (qar s = true /\ qcv L (qaa s) = none /\ e = .returned (.tuple #[.agg noQ, .int .i64 3])) \/
  (qar s = true /\ ∃ x slv, qcv L (qaa s) = some x /\ e = .returned (.tuple #[.agg #[.string (sb (joinB x.key)), .bool x.leaf, .int .i64 (es0 (qaf L (joinB x.key))), .int .i64 (es1 (qaf L (joinB x.key))), .int .i64 x.b0, .int .i64 x.b1, .int .i64 (ws0 (qae Ws (joinB x.key))), .int .i64 (ws1 (qae Ws (joinB x.key))), slv], .int .i64 0]) /\
   w'.ownsRow 0 3 1 slv (qam Ws x.key Ws.length).length (qfq (qam Ws x.key Ws.length)) /\ (∀ b, slv.ownBlock = some b -> w.heap.size <= b)))
set_option maxRecDepth 100000 in
set_option maxHeartbeats 2000000 in
theorem qq6 {w : World} {br g cap : Nat} {L : List Ent} {ao : Option Addr} {cW : Nat} {Ws : List Wk} {cnt st : Int} (h : GRef w br g cap L ao cW Ws cnt st) (E : Ents L) (EW : Wks Ws) (hinj : ∀ a ∈ L, ∀ b ∈ L, a.key = b.key -> a = b) (s : ByteArray) (hs : s.size <= 2000000) :
  Calls Tryz.prog 124 #[.pointer (some ⟨br, 0, none⟩), .string s] w (qhv L Ws (bl s) w) := by
 have b0 : Blk (w.alloc (.cells #[.string ⟨#[]⟩, .bool false, .int .i64 0, .int .i64 0, .int .i64 0, .int .i64 0, .int .i64 0, .int .i64 0, .slice none 0 0] 37)) w.heap.size 37 #[.string ⟨#[]⟩, .bool false, .int .i64 0, .int .i64 0, .int .i64 0, .int .i64 0, .int .i64 0, .int .i64 0, .slice none 0 0] := Blk.new w 37 _
 cases hv : qar (bl s)
 ·have hn := fun W => qh1 s hs hv W
  have HX : Hid (∀ w', Below w.heap.size w w' -> qhv L Ws (bl s) w (.returned (.tuple #[.agg noQ, .int .i64 1])) w') := fun w' hb => ⟨hb, .inl ⟨hv, rfl⟩⟩
  generalize qhv L Ws (bl s) w = X at HX ⊢
  go_enter Tryz.func124, Tryz.ntmps124
  go_wp2_with (go_at_call 113; refine (hn _).mono ?_; rintro e w1 ⟨rfl, hb1⟩; have b1 := b0.below hb1 (by simp); have hcl := b1.cell; have hfr := b1.frozen)
  have hfin := qjd b1 (.string ⟨#[]⟩) (.bool false) (.int .i64 0) (.int .i64 0) (.int .i64 0) (.int .i64 0) (.int .i64 0) (.int .i64 0) (.slice none 0 0)
  have hc := hfin.cell
  clear hcl hfr
  have hB1 : Below w.heap.size w w1 := qac (by exact bel2) hb1
  exact bodyPost_ret (v := .tuple #[.agg noQ, .int .i64 1]) (by simp [results, Tryz.results124, go_sem, hc, noQ]) rfl (HX.out _ (qgq hB1 (Nat.le_refl _) ..))
 ·have hn := fun W => qdd s hs hv W
  have hkok : qbn (qaa (bl s)) = true := by rw [<- qba]; exact hv
  cases hf : qcv L (qaa (bl s)) with
  | none =>
   have hat := fun W (hW : Below w.heap.size w W) => qgx (h.ref.below hW) E hinj s (qaa (bl s)) hkok (qa6 (bl s)).symm hf
   have HX : Hid (∀ w', Below w.heap.size w w' -> qhv L Ws (bl s) w (.returned (.tuple #[.agg noQ, .int .i64 3])) w') := fun w' hb => ⟨hb, .inr (.inl ⟨hv, hf, rfl⟩)⟩
   generalize qhv L Ws (bl s) w = X at HX ⊢
   clear hf h E hinj
   go_enter Tryz.func124, Tryz.ntmps124
   go_wp2_with (first
    | (go_at_call 113; refine (hn _).mono ?_; rintro e w1 ⟨⟨ao', cp, rfl, hrow⟩, hb1⟩; have hB1 : Below w.heap.size w w1 := qac (by exact bel2) hb1; have b1 := b0.below hb1 (by simp); have hcl := b1.cell; have hfr := b1.frozen)
    | (go_at_call 114; refine (hat _ hB1).mono ?_; rintro e w2 ⟨rfl, hw2⟩; subst hw2))
   have hfin := qjd b1 (.string ⟨#[]⟩) (.bool false) (.int .i64 0) (.int .i64 0) (.int .i64 0) (.int .i64 0) (.int .i64 0) (.int .i64 0) (.slice none 0 0)
   have hc := hfin.cell
   clear hcl hfr
   exact bodyPost_ret (v := .tuple #[.agg noQ, .int .i64 3]) (by simp [results, Tryz.results124, go_sem, hc, noQ]) rfl (HX.out _ (qgq hB1 (Nat.le_refl _) ..))
  | some x =>
   have hat := fun W (hW : Below w.heap.size w W) => qib (h.ref.below hW) E hinj s (qaa (bl s)) hkok (qa6 (bl s)).symm hf
   have htold := fun W (hW : Below w.heap.size w W) i (hi : L[i]? = some x) => qtr (h.below hW) E EW i x hi
   have HX : Hid (∀ w' slv, Below w.heap.size w w' -> w'.ownsRow 0 3 1 slv (qam Ws x.key Ws.length).length (qfq (qam Ws x.key Ws.length)) -> (∀ b, slv.ownBlock = some b -> w.heap.size <= b) -> qhv L Ws (bl s) w (.returned (.tuple #[.agg #[.string (sb (joinB x.key)), .bool x.leaf, .int .i64 (es0 (qaf L (joinB x.key))), .int .i64 (es1 (qaf L (joinB x.key))), .int .i64 x.b0, .int .i64 x.b1, .int .i64 (ws0 (qae Ws (joinB x.key))), .int .i64 (ws1 (qae Ws (joinB x.key))), slv], .int .i64 0])) w') := fun w' slv h1 h2 h3 => ⟨h1, .inr (.inr ⟨hv, x, slv, hf, rfl, h2, h3⟩)⟩
   generalize qhv L Ws (bl s) w = X at HX ⊢
   clear hf h E hinj
   generalize es0 (qaf L (joinB x.key)) = s0 at htold HX
   generalize es1 (qaf L (joinB x.key)) = s1 at htold HX
   generalize ws0 (qae Ws (joinB x.key)) = u0 at htold HX
   generalize ws1 (qae Ws (joinB x.key)) = u1 at htold HX
   generalize sb (joinB x.key) = pth at htold HX
   generalize qfq (qam Ws x.key Ws.length) = nv at htold HX
   generalize (qam Ws x.key Ws.length).length = nl at htold HX
   go_enter Tryz.func124, Tryz.ntmps124
   go_wp2_with (first
    | (go_at_call 113; refine (hn _).mono ?_; rintro e w1 ⟨⟨ao', cp, rfl, hrow⟩, hb1⟩; have hB1 : Below w.heap.size w w1 := qac (by exact bel2) hb1; have b1 := b0.below hb1 (by simp))
    | (go_at_call 114; refine (hat _ hB1).mono ?_; rintro e w2 ⟨⟨i, rfl, hi⟩, hw2⟩; subst hw2)
    | (go_at_call 164; refine (htold _ hB1 _ hi).mono ?_; rintro e w3 ⟨slv, rfl, hown3, hge3, hb3⟩; have hB3 : Below w.heap.size w w3 := qac hB1 hb3; have b3 := b1.below hb3 b1.lt; have hcl := b3.cell; have hfr := b3.frozen; have hn3 := qlw hown3 b3 (by decide); obtain ⟨aS, cS, rfl, hS1, hS2⟩ := qmh hown3))
   have hfin := qjd b3 (.string pth) (.bool x.leaf) (.int .i64 s0) (.int .i64 s1) (.int .i64 x.b0) (.int .i64 x.b1) (.int .i64 u0) (.int .i64 u1) (.slice aS nl cS)
   have hc := hfin.cell
   clear hcl hfr
   exact bodyPost_ret (v := .tuple #[.agg #[.string pth, .bool x.leaf, .int .i64 s0, .int .i64 s1, .int .i64 x.b0, .int .i64 x.b1, .int .i64 u0, .int .i64 u1, .slice aS nl cS], .int .i64 0]) (by simp [results, Tryz.results124, go_sem, hc]) rfl (HX.out _ _ (qgq hB3 (Nat.le_refl _) ..) (qwh hown3 hn3 ..) (fun b hb => Nat.le_trans hB1.size (hge3 b hb)))
def qs5 (Ws : List Wk) (m : Int) (e : Ending) : Prop :=
 (∃ x ∈ Ws, x.num = m /\ e = .returned (.tuple #[.agg #[.string (sb (joinB x.key)), .int .i64 x.d0, .int .i64 x.d1, .bool (decide (0 < x.st))], .int .i64 0])) \/
 ((∀ x ∈ Ws, x.num ≠ m) /\ e = .returned (.tuple #[.agg #[.string ⟨#[]⟩, .int .i64 0, .int .i64 0, .bool false], .int .i64 12]))
set_option maxRecDepth 100000 in
set_option maxHeartbeats 1000000 in
theorem qum {w : World} {br g cap : Nat} {L : List Ent} {ao : Option Addr} {cW : Nat} {Ws : List Wk} {cnt st : Int} (h : GRef w br g cap L ao cW Ws cnt st) (EW : Wks Ws) (m : Int) :
  Calls Tryz.prog 127 #[.pointer (some ⟨br, 0, none⟩), .int .i64 m] w fun e w' => qs5 Ws m e /\ Below w.heap.size w w' := by
 have hbr := h.ref.at_.lt
 have hW24 := EW.len
 obtain ⟨n, hn⟩ : ∃ n, n = Ws.length := ⟨_, rfl⟩
 have hc1 : w.cell? ⟨br, 1, none⟩ = some (.slice ao n cW) := by have := h.ref.at_.cell 1; rw [hn]; simpa using this
 rw [<- hn] at hW24
 have HN : Hid (n = Ws.length) := hn
 clear hn
 have hpl := fun W (hW : Below w.heap.size w W) => qh6 (h.below hW) EW m
 have hb4 : Blk (w.alloc (.cells #[.string ⟨#[]⟩, .int .i64 0, .int .i64 0, .bool false] 52)) w.heap.size 52 #[.string ⟨#[]⟩, .int .i64 0, .int .i64 0, .bool false] := Blk.new w 52 _
 have hB0 : Below w.heap.size w (w.alloc (.cells #[.string ⟨#[]⟩, .int .i64 0, .int .i64 0, .bool false] 52)) := by exact bel2
 go_enter Tryz.func127, Tryz.ntmps127
 go_upto_region 1 with fail
 generalize (w.alloc (.cells #[.string ⟨#[]⟩, .int .i64 0, .int .i64 0, .bool false] 52)) = W0 at hb4 hB0 ⊢
 have l4 := hb4.lt
 have x40 := hb4.cell 0
 have x41 := hb4.cell 1
 have x42 := hb4.cell 2
 have x43 := hb4.cell 3
 have y40 := hb4.frozen 0
 have y41 := hb4.frozen 1
 have y42 := hb4.frozen 2
 have y43 := hb4.frozen 3
 have hd1 := (hB0.cell (p := ⟨br, 1, none⟩) hbr).trans hc1
 simp only [List.getElem?_toArray, List.getElem?_cons_zero, List.getElem?_cons_succ] at x40 x41 x42 x43
 have hwk : Hid (∀ (i : Nat) x, Ws[i]? = some x -> ∃ b, ao = some ⟨b, 0, none⟩ /\ b < w.heap.size /\ n <= cW /\ cW <= maxLen /\ W0.cell? ⟨b, i * 5, none⟩ = some (.int .i64 x.num) /\ W0.cell? ⟨b, i * 5 + 1, none⟩ = some (.string (sb (joinB x.key))) /\ W0.cell? ⟨b, i * 5 + 2, none⟩ = some (.int .i64 x.d0) /\ W0.cell? ⟨b, i * 5 + 3, none⟩ = some (.int .i64 x.d1) /\ W0.cell? ⟨b, i * 5 + 4, none⟩ = some (.int .i64 x.st)) := by
  show ∀ (i : Nat) x, Ws[i]? = some x -> _
  intro i x hi
  obtain ⟨b, h1, h2, h3, h4, p⟩ := (h.below hB0).wk hi
  exact ⟨b, h1, qal h.wrow (by rw [h1]; rfl), by rw [HN.out]; exact h3, h4, p⟩
 go_wp2_with fail
 refine (hpl _ hB0).mono ?_
 rintro e w1 ⟨hP, hw1⟩
 subst hw1
 rcases hP with ⟨i, x, rfl, hi, hm⟩ | ⟨hno, rfl⟩
 ·have HM : Hid (x ∈ Ws /\ x.num = m) := ⟨List.mem_of_getElem? hi, hm⟩
  have hil := (List.getElem?_eq_some_iff.1 hi).1
  rw [<- HN.out] at hil
  obtain ⟨b, hao, hbl, h3, h4, p0, p1, p2, p3, p4⟩ := hwk.out i x hi
  subst hao
  have hii : (i : Int) < n := by omega
  have hi0 : (0 : Int) <= i := by omega
  have hnz : ¬ ((i : Int) < 0) := by omega
  have hz := hB0.size
  have e1 : ¬ (w.heap.size = w1.heap.size) := by omega
  clear hi hm hwk hpl
  go_wp2_with fail
  have b4' := ((((hb4.set 0 (.string (sb (joinB x.key)))).set 1 (.int .i64 x.d0)).set 2 (.int .i64 x.d1)).set 3 (.bool (decide (0 < x.st)))).alloc (.cells #[.int .i64 x.num, .string (sb (joinB x.key)), .int .i64 x.d0, .int .i64 x.d1, .int .i64 x.st] 178)
  have hc' := b4'.cell
  refine bodyPost_ret (v := .tuple #[.agg #[.string (sb (joinB x.key)), .int .i64 x.d0, .int .i64 x.d1, .bool (decide (0 < x.st))], .int .i64 0]) ?_ rfl ⟨.inl ⟨x, HM.out.1, HM.out.2, rfl⟩, by exact bel2⟩
  simp [results, Tryz.results127, go_sem, hc']
 ·have HNO : Hid (∀ x ∈ Ws, x.num ≠ m) := hno
  clear hno hwk hpl
  go_wp2_with fail
  have b4' := (((hb4.set 0 (.string ⟨#[]⟩)).set 1 (.int .i64 0)).set 2 (.int .i64 0)).set 3 (.bool false)
  have hc' := b4'.cell
  refine bodyPost_ret (v := .tuple #[.agg #[.string ⟨#[]⟩, .int .i64 0, .int .i64 0, .bool false], .int .i64 12]) ?_ rfl ⟨.inr ⟨HNO.out, rfl⟩, by exact bel2⟩
  simp [results, Tryz.results127, go_sem, hc']
theorem Rel.waits {nodes : List Node} {Ws : List Wk} {ws as_ : List Pw} (R : Rel nodes Ws ws as_) (T : Tree nodes) (hB : qa7 nodes) {n : Node} (hn : n ∈ nodes) : (qa4 ws n.blk).map (·.x) = qam Ws n.key Ws.length := by
 unfold qa4 qam
 rw [List.take_length]
 have e1 : (ws.filter fun p => p.q == n.blk) = ws.filter fun p => decide (p.x.key = n.key) := List.filter_congr fun p hp => R.qwt T hB hn (List.mem_append_left _ hp)
 have e2 : (ws.filter fun p => decide (p.x.key = n.key)).map (·.x) = (ws.map (·.x)).filter fun y => decide (y.key = n.key) := by rw [List.filter_map]; rfl
 rw [e1, e2, R.w, List.filter_filter]
theorem Rel.qth {nodes : List Node} {Ws : List Wk} {ws as_ : List Pw} (R : Rel nodes Ws ws as_) (T : Tree nodes) (hB : qa7 nodes) {n : Node} (hn : n ∈ nodes) : qfz (qa4 ws n.blk) = qfq (qam Ws n.key Ws.length) /\ (qa4 ws n.blk).length = (qam Ws n.key Ws.length).length := by
 have h := R.waits T hB hn
 refine ⟨?_, by rw [<- h]; simp⟩
 rw [<- h]
 unfold qfz qfq
 rw [List.map_map]
 rfl
theorem Rel.told {nodes : List Node} {Ws : List Wk} {ws as_ : List Pw} (R : Rel nodes Ws ws as_) (T : Tree nodes) (hW : Wks Ws) {n : Node} (hn : n ∈ nodes) (v : Value) :
  qo6 (joinB n.key) n.leaf (pn0 nodes n.key) (pn1 nodes n.key) n.b0 n.b1 (ws0 (pun as_ n.key)) (ws1 (pun as_ n.key)) v = #[.string (sb (joinB n.ent.key)), .bool n.ent.leaf, .int .i64 (es0 (qaf (nodes.map Node.ent) (joinB n.ent.key))), .int .i64 (es1 (qaf (nodes.map Node.ent) (joinB n.ent.key))), .int .i64 n.ent.b0, .int .i64 n.ent.b1, .int .i64 (ws0 (qae Ws (joinB n.ent.key))), .int .i64 (ws1 (qae Ws (joinB n.ent.key))), v] := by
 have hk := (T.ok n hn).1
 unfold qo6
 rw [(qb1 T hk).1, (qb1 T hk).2, (R.use hW hk).1, (R.use hW hk).2]
 rfl
theorem Rel.work {nodes : List Node} {Ws : List Wk} {ws as_ : List Pw} (R : Rel nodes Ws ws as_) {st : Int} (hS : WkS Ws st) {m : Int} {w w' : World} {e e' : Ending} (h1 : WrkR ws as_ m w e w') (h2 : qs5 Ws m e') : e = e' /\ Below w.heap.size w w' := by
 obtain ⟨az, a1, a2, _⟩ := R.a
 unfold WrkR at h1
 rcases h2 with ⟨x, hx, hxm, rfl⟩ | ⟨hno, rfl⟩
 ·cases ha : qc3 as_ m with
  | some p =>
   simp only [ha] at h1
   have hp : p ∈ as_ := List.mem_of_find?_eq_some ha
   have hpn : p.x.num = m := by have := List.find?_some ha; simpa using this
   have hpx : p.x ∈ az.map (·.adm 0) := by rw [<- a1]; exact List.mem_map_of_mem hp
   obtain ⟨z, hz, hze⟩ := List.mem_map.1 hpx
   have hz2 := List.mem_filter.1 (a2.mem_iff.1 hz)
   have hzx : z = x := qew hS.nums hz2.1 hx (by rw [hxm, <- hpn, <- hze]; rfl)
   subst hzx
   have hs0 : decide (0 < z.st) = true := hz2.2
   rw [<- hze] at h1
   rw [hs0]
   exact h1
  | none =>
   simp only [ha] at h1
   cases hw : qc3 ws m with
   | some p =>
    simp only [hw] at h1
    have hp : p ∈ ws := List.mem_of_find?_eq_some hw
    have hpn : p.x.num = m := by have := List.find?_some hw; simpa using this
    have hpx : p.x ∈ Ws.filter fun x => x.st == 0 := by rw [<- R.w]; exact List.mem_map_of_mem hp
    have hz2 := List.mem_filter.1 hpx
    have hzx : p.x = x := qew hS.nums hz2.1 hx (by rw [hxm, hpn])
    have hs0 : decide (0 < x.st) = false := by have h0 := hz2.2; rw [hzx] at h0; simp at h0; simp [h0]
    rw [hzx] at h1
    rw [hs0]
    exact h1
   | none =>
    exfalso
    have := (R.nums (fun x hx => (hS.st x hx).1)).mem_iff.2 (List.mem_map_of_mem hx)
    obtain ⟨q, hq, hqe⟩ := List.mem_map.1 this
    rcases List.mem_append.1 hq with h3 | h3
    ·have := List.find?_eq_none.1 hw q h3; simp [hqe, hxm] at this
    ·have := List.find?_eq_none.1 ha q h3; simp [hqe, hxm] at this
 ·have hl := R.lost hS hno
  have ha : qc3 as_ m = none := by
   cases ha : qc3 as_ m with
   | none => rfl
   | some p => simp [findBk, ha, nptr] at hl
  have hw : qc3 ws m = none := by
   cases hw : qc3 ws m with
   | none => rfl
   | some p => simp [findBk, ha, hw, optP, nptr] at hl
  simp only [ha, hw] at h1
  exact h1
theorem qkq {f : SS -> Option SS} {I : SS -> Prop} (hI : ∀ s s', I s -> f s = some s' -> I s' /\ s'.st = s.st + 1) : ∀ (n : Nat) (s : SS), I s -> I (iterS f n s) /\ s.st <= (iterS f n s).st /\ (iterS f n s).st <= s.st + n
 | 0, s, h => ⟨h, Int.le_refl _, by simp [iterS]⟩
 | n + 1, s, h => by
  unfold iterS
  cases hf : f s with
  | none => exact ⟨h, Int.le_refl _, by simp only; omega⟩
  | some s' =>
   obtain ⟨h1, h2⟩ := hI s s' h hf
   obtain ⟨h3, h4, h5⟩ := qkq hI n s' h1
   simp only
   exact ⟨h3, by omega, by omega⟩
theorem qjj (L : List Ent) {s : SS} (h : SInv s) : SInv ⟨(qaj L s).Ws, (qaj L s).st, []⟩ /\ s.st <= (qaj L s).st /\ (qaj L s).st <= s.st + 48 := by
 have hl : s.Ws.length <= 24 := h.wks.wks.len
 obtain ⟨a1, a2, a3⟩ := qkq (f := ownStep L) (I := SInv) (fun a b ha he => ⟨(ha.own he).1, (ha.own he).2.2.1⟩) s.Ws.length s h
 obtain ⟨b1, b2, b3⟩ := qkq (f := qas L) (I := SInv) (fun a b ha he => ⟨(ha.idle he).1, (ha.idle he).2.2.1⟩) s.Ws.length _ a1
 have e : qaj L s = iterS (qas L) s.Ws.length (iterS (ownStep L) s.Ws.length s) := rfl
 rw [e]
 exact ⟨⟨b1.wks, b1.st0, b1.anti⟩, by omega, by omega⟩
structure Comm (nodes : List Node) (Ws : List Wk) (cnt st : Int) (ws as_ : List Pw) : Prop where
 tree : Tree nodes
 rel : Rel nodes Ws ws as_
 inv : SInv ⟨Ws, st, []⟩
 wkl : WkL nodes Ws cnt
 cnt0 : 0 <= cnt
theorem Comm.settled {nodes : List Node} {Ws : List Wk} {cnt st : Int} {ws' as' : List Pw} (T : Tree nodes) (I : SInv ⟨Ws, st, []⟩) (L : WkL nodes Ws cnt) (hc : 0 <= cnt) (R : Rel nodes (qaj (nodes.map Node.ent) ⟨Ws, st, []⟩).Ws ws' as') :
  Comm nodes (qaj (nodes.map Node.ent) ⟨Ws, st, []⟩).Ws cnt (qaj (nodes.map Node.ent) ⟨Ws, st, []⟩).st ws' as' :=
 ⟨T, R, (qjj _ I).1, L.of (qr8 _ ⟨Ws, st, []⟩), hc⟩
theorem Comm.qwu {nodes : List Node} {Ws : List Wk} {cnt st : Int} {ws as_ : List Pw} (C : Comm nodes Ws cnt st ws as_) {s : Bs} {a b : Int} (he : errWk nodes (ws.length + as_.length) s (qao a b) = 0) :
  SInv ⟨Ws ++ [qct cnt s a b], st, []⟩ /\ WkL nodes (Ws ++ [qct cnt s a b]) (cnt + 1) := by
 obtain ⟨n, hn, hl, hf, h24⟩ := qgw he
 obtain ⟨hnm, hnk⟩ := qbw hn
 rw [C.rel.length C.inv.wks] at h24
 exact ⟨SInv.append C.tree C.inv C.wkl C.cnt0 hnm hl hnk hf h24, C.wkl.append C.cnt0 hnm hl hnk a b⟩
theorem Comm.finish {nodes : List Node} {Ws : List Wk} {cnt st : Int} {ws as_ : List Pw} (C : Comm nodes Ws cnt st ws as_) (i : Nat) : SInv ⟨Ws.take i ++ Ws.drop (i + 1), st, []⟩ /\ WkL nodes (Ws.take i ++ Ws.drop (i + 1)) cnt :=
 ⟨⟨C.inv.wks.sub (qej Ws i), C.inv.st0, C.inv.anti.sub (qej Ws i)⟩, C.wkl.sub (qej Ws i)⟩
theorem WkL.grown {nodes nodes' : List Node} {Ws : List Wk} {cnt : Int} {x : Ent} (h : WkL nodes Ws cnt) (he : nodes'.map Node.ent = nodes.map Node.ent ++ [x]) : WkL nodes' Ws cnt :=
 ⟨fun y hy => by
  obtain ⟨n, hn, e1, e2⟩ := h.leaf y hy
  have : n.ent ∈ nodes'.map Node.ent := by rw [he]; exact List.mem_append_left _ (List.mem_map_of_mem hn)
  obtain ⟨n', hn', e⟩ := List.mem_map.1 this
  have k1 : n'.key = n.key := congrArg Ent.key e
  have k2 : n'.leaf = n.leaf := congrArg Ent.leaf e
  exact ⟨n', hn', k1.trans e1, k2.trans e2⟩, h.num⟩
def qlp (br g : Nat) (o0 : Option Nat) (L : List Ent) (Ws : List Wk) (cnt st : Int) (err : Int) (y : Ent) (w : World) (e : Ending) (w' : World) : Prop :=
 (err ≠ 0 /\ e = .returned (.tuple #[.slice none 0 0, .int .i64 err]) /\ Below w.heap.size w w') \/
 (err = 0 /\ ∃ sl, e = .returned (.tuple #[sl, .int .i64 0]) /\ qdw w br g o0 (L ++ [y]) cnt (qaj (L ++ [y]) ⟨Ws, st, []⟩) sl w')
theorem GRef.made {w W : World} {br g g' cap cap' : Nat} {L : List Ent} {ao : Option Addr} {cW : Nat} {Ws : List Wk} {cnt st : Int} {y : Ent} (h : GRef w br g cap L ao cW Ws cnt st) (hr : qc9 W br g' cap' (L ++ [y]) (.slice ao Ws.length cW) (.int .i64 cnt) (.int .i64 st)) (hk : Keep (fun b => b = br \/ b = g) w W) (hg : g' = g \/ w.heap.size <= g') : GRef W br g' cap' (L ++ [y]) ao cW Ws cnt st := by
 refine ⟨hr, qab h.wrow hk (fun b hb e => ?_), fun b hb => ?_⟩
 ·have := h.ne1 b hb
  rcases e with e | e
  ·exact this.1 e
  ·exact this.2 e
 ·have h1 := h.ne1 b hb
  refine ⟨h1.1, fun e => ?_⟩
  rcases hg with e2 | e2
  ·exact h1.2 (e.trans e2)
  ·have := qal h.wrow hb; omega
set_option maxRecDepth 100000 in
set_option maxHeartbeats 2000000 in
theorem qs4 {w : World} {br g cap : Nat} {L : List Ent} {ao : Option Addr} {cW : Nat} {Ws : List Wk} {cnt st : Int} (h : GRef w br g cap L ao cW Ws cnt st) (E : Ents L) (hinj : ∀ a ∈ L, ∀ b ∈ L, a.key = b.key -> a = b) (I : SInv ⟨Ws, st, []⟩) (hst : st <= 900000000) (s : ByteArray) (hs : s.size <= 2000000) (a b c d : Int)
  (hE : errE L (bl s) (qao a b && qao c d) = 0 -> Ents (L ++ [⟨qaa (bl s), true, a, b, c, d⟩]) /\ Bors (L ++ [⟨qaa (bl s), true, a, b, c, d⟩])) :
  Calls Tryz.prog 69 #[.pointer (some ⟨br, 0, none⟩), .string s, .agg #[.int .i64 a, .int .i64 b], .agg #[.int .i64 c, .int .i64 d]] w (qlp br g (Value.slice ao Ws.length cW).ownBlock L Ws cnt st (errE L (bl s) (qao a b && qao c d)) ⟨qaa (bl s), true, a, b, c, d⟩ w) := by
 have hcr := fun W (hW : Below w.heap.size w W) => qj2 (h.below hW).ref E hinj s hs true a b c d
 have hbr := h.qii
 have hset := fun W g' cap' (hG : GRef W br g' cap' (L ++ [⟨qaa (bl s), true, a, b, c, d⟩]) ao cW Ws cnt st) h0 => settle_ref hG (hE h0).1 (hE h0).2 I hst
 have hb0 : Below w.heap.size w ((w.alloc (.cells #[.int .i64 a, .int .i64 b] 35)).alloc (.cells #[.int .i64 c, .int .i64 d] 35)) := by exact bel2
 have hmade := fun W g' cap' hr hk hg => (h.below hb0).made (W := W) (g' := g') (cap' := cap') (y := ⟨qaa (bl s), true, a, b, c, d⟩) hr hk hg
 generalize errE L (bl s) (qao a b && qao c d) = err at *
 go_enter Tryz.func69, Tryz.ntmps69
 go_wp2_with fail
 refine (hcr _ (by exact bel2)).mono ?_
 rintro e w1 ⟨rfl, (⟨hn0, hb1⟩ | ⟨h0, g', cap', hr, hk, hor⟩)⟩
 ·have HX : Hid (qlp br g (Value.slice ao Ws.length cW).ownBlock L Ws cnt st err ⟨qaa (bl s), true, a, b, c, d⟩ w (.returned (.tuple #[.slice none 0 0, .int .i64 err])) w1) := .inl ⟨hn0, rfl, qac hb0 hb1⟩
  have hne : (err != 0) = true := by simp [hn0]
  have hne2 : (err == 0) = false := by simp [hn0]
  clear hcr hset hmade h
  go_wp2_with fail
  exact bodyPost_ret (v := .tuple #[.slice none 0 0, .int .i64 err]) (by simp [results, Tryz.results69, go_sem]) rfl HX.out
 ·subst h0
  have hG := hmade _ _ _ hr hk hor
  have hset2 := hset _ _ _ hG rfl
  have hor2 : g' = g \/ w.heap.size <= g' := hor.imp id (fun e => by simp at e; omega)
  have hkw : Keep (fun y => y = br \/ y = g \/ (Value.slice ao Ws.length cW).ownBlock = some y) w w1 := ((Keep.new (T := fun y => y = br \/ y = g) hb0).step hk (fun y _ e => e)).mono (fun y e => by
   rcases e with e | e
   ·exact .inl e
   ·exact .inr (.inl e))
  clear hcr hset hmade
  go_wp2_with fail
  refine hset2.mono ?_
  rintro e w2 ⟨sl, a2, c2, rfl, hS⟩
  have HX : Hid (qlp br g (Value.slice ao Ws.length cW).ownBlock L Ws cnt st 0 ⟨qaa (bl s), true, a, b, c, d⟩ w (.returned (.tuple #[sl, .int .i64 0])) w2) := .inr ⟨rfl, sl, rfl, qdw.qn3 hkw hS (fun y hy _ => hy) hor2⟩
  clear hset2 hS
  go_wp2_with fail
  exact bodyPost_ret (v := .tuple #[sl, .int .i64 0]) (by simp [results, Tryz.results69, go_sem]) rfl HX.out
set_option maxRecDepth 100000 in
set_option maxHeartbeats 2000000 in
theorem qoq {w : World} {br g cap : Nat} {L : List Ent} {ao : Option Addr} {cW : Nat} {Ws : List Wk} {cnt st : Int} (h : GRef w br g cap L ao cW Ws cnt st) (E : Ents L) (hinj : ∀ a ∈ L, ∀ b ∈ L, a.key = b.key -> a = b) (I : SInv ⟨Ws, st, []⟩) (hst : st <= 900000000) (s : ByteArray) (hs : s.size <= 2000000) (c d : Int)
  (hE : errE L (bl s) (qao 0 0 && qao c d) = 0 -> Ents (L ++ [⟨qaa (bl s), false, 0, 0, c, d⟩]) /\ Bors (L ++ [⟨qaa (bl s), false, 0, 0, c, d⟩])) :
  Calls Tryz.prog 67 #[.pointer (some ⟨br, 0, none⟩), .string s, .agg #[.int .i64 c, .int .i64 d]] w (qlp br g (Value.slice ao Ws.length cW).ownBlock L Ws cnt st (errE L (bl s) (qao 0 0 && qao c d)) ⟨qaa (bl s), false, 0, 0, c, d⟩ w) := by
 have hcr := fun W (hW : Below w.heap.size w W) => qj2 (h.below hW).ref E hinj s hs false 0 0 c d
 have hbr := h.qii
 have hset := fun W g' cap' (hG : GRef W br g' cap' (L ++ [⟨qaa (bl s), false, 0, 0, c, d⟩]) ao cW Ws cnt st) h0 => settle_ref hG (hE h0).1 (hE h0).2 I hst
 have hb0 : Below w.heap.size w (w.alloc (.cells #[.int .i64 c, .int .i64 d] 35)) := by exact bel2
 have hmade := fun W g' cap' hr hk hg => (h.below hb0).made (W := W) (g' := g') (cap' := cap') (y := ⟨qaa (bl s), false, 0, 0, c, d⟩) hr hk hg
 generalize errE L (bl s) (qao 0 0 && qao c d) = err at *
 go_enter Tryz.func67, Tryz.ntmps67
 go_wp2_with fail
 refine (hcr _ (by exact bel2)).mono ?_
 rintro e w1 ⟨rfl, (⟨hn0, hb1⟩ | ⟨h0, g', cap', hr, hk, hor⟩)⟩
 ·have HX : Hid (qlp br g (Value.slice ao Ws.length cW).ownBlock L Ws cnt st err ⟨qaa (bl s), false, 0, 0, c, d⟩ w (.returned (.tuple #[.slice none 0 0, .int .i64 err])) w1) := .inl ⟨hn0, rfl, qac hb0 hb1⟩
  have hne : (err != 0) = true := by simp [hn0]
  have hne2 : (err == 0) = false := by simp [hn0]
  clear hcr hset hmade h
  go_wp2_with fail
  exact bodyPost_ret (v := .tuple #[.slice none 0 0, .int .i64 err]) (by simp [results, Tryz.results67, go_sem]) rfl HX.out
 ·subst h0
  have hG := hmade _ _ _ hr hk hor
  have hset2 := hset _ _ _ hG rfl
  have hor2 : g' = g \/ w.heap.size <= g' := hor.imp id (fun e => by simp at e; omega)
  have hkw : Keep (fun y => y = br \/ y = g \/ (Value.slice ao Ws.length cW).ownBlock = some y) w w1 := ((Keep.new (T := fun y => y = br \/ y = g) hb0).step hk (fun y _ e => e)).mono (fun y e => by
   rcases e with e | e
   ·exact .inl e
   ·exact .inr (.inl e))
  clear hcr hset hmade
  go_wp2_with fail
  refine hset2.mono ?_
  rintro e w2 ⟨sl, a2, c2, rfl, hS⟩
  have HX : Hid (qlp br g (Value.slice ao Ws.length cW).ownBlock L Ws cnt st 0 ⟨qaa (bl s), false, 0, 0, c, d⟩ w (.returned (.tuple #[sl, .int .i64 0])) w2) := .inr ⟨rfl, sl, rfl, qdw.qn3 hkw hS (fun y hy _ => hy) hor2⟩
  clear hset2 hS
  go_wp2_with fail
  exact bodyPost_ret (v := .tuple #[sl, .int .i64 0]) (by simp [results, Tryz.results67, go_sem]) rfl HX.out
structure qbj (K : Nat) (x : Tw) : Prop where
 L : x.L = x.nodes.map Node.ent
 cnt : x.cnt = x.last
 com : Comm x.nodes x.Ws x.cnt x.st x.ws x.as_
 cntK : x.cnt <= K
 stK : x.st <= 48 * K
theorem qbj.mono {K K' : Nat} {x : Tw} (h : qbj K x) (hk : K <= K') : qbj K' x := ⟨h.L, h.cnt, h.com, by have := h.cntK; omega, by have := h.stK; omega⟩
def qci (n₀ : Nat) (τ : Nat -> Tag) (W : World) (bw : Nat) (k K : Nat) (e : Ending) (w' : World) : Prop :=
 e = .returned (.bool true) /\ ∃ τ' tws', qbh τ W τ' w' /\ St n₀ τ' w' bw tws' (200 * K) /\ (∀ x ∈ tws', qbj K x) /\ k <= tws'.length /\ tws'.length <= k + 1
structure Out where
 err : Int
 L : List Ent
 Ws : List Wk
 cnt : Int
 st : Int
 evs : List (Int × Int)
def POut (τ : Nat -> Tag) (t : Nat) (W : World) (bt : Nat) (o : Out) (ev : Value) (w' : World) : Prop :=
 ∃ τ' nodes' vw' va' ws' as', (∀ b, b < W.heap.size -> τ' b = τ b) /\ (∀ b, W.heap.size <= b -> τ' b = .free \/ (τ' b).prog t) /\ qb6 τ' t w' bt nodes' o.cnt vw' va' ws' as' /\ nodes'.map Node.ent = o.L /\ Comm nodes' o.Ws o.cnt o.st ws' as' /\
  w'.ownsRow 0 60 2 ev o.evs.length (qai o.evs) /\ (∀ b, ev.ownBlock = some b -> W.heap.size <= b /\ τ' b = .free) /\ Keep (fun b => b < W.heap.size /\ (τ b).prog t) W w'
def Mid (n₀ : Nat) (τ : Nat -> Tag) (W : World) (bw : Nat) (tws : List Tw) (t : Nat) (x : Tw) (N : Nat) (o : Out) (ev : Value) (w' : World) : Prop :=
 ∃ τ' nodes' vw' va' ws' as', qbh τ W τ' w' /\ St n₀ τ' w' bw (tws.set t { x with nodes := nodes', last := o.cnt, vw := vw', va := va', ws := ws', as_ := as' }) N /\ nodes'.map Node.ent = o.L /\ Comm nodes' o.Ws o.cnt o.st ws' as' /\
  w'.ownsRow 0 60 2 ev o.evs.length (qai o.evs) /\ (∀ b, ev.ownBlock = some b -> W.heap.size <= b /\ τ' b = .free)
def Mid2 (n₀ : Nat) (τ : Nat -> Tag) (W : World) (bw k N K : Nat) (evs : List (Int × Int)) (ev ev2 : Value) (w' : World) : Prop :=
 ∃ τ' tws', qbh τ W τ' w' /\ St n₀ τ' w' bw tws' N /\ (∀ x ∈ tws', qbj K x) /\ tws'.length = k /\ w'.ownsRow 0 60 2 ev evs.length (qai evs) /\ w'.ownsRow 0 60 2 ev2 evs.length (qai evs) /\ (∀ b, ev.ownBlock = some b -> W.heap.size <= b /\ τ' b = .free)
section
variable {n₀ : Nat} {τ : Nat -> Tag} {W : World} {bw : Nat} {tws : List Tw} {N : Nat} {t : Nat} {x : Tw} {o : Out}
theorem qrf {W1 w' : World} {ev : Value} (h : St n₀ τ W bw tws N) (hb : Below W.heap.size W W1) (hx : tws[t]? = some x) (hM : POut (qde τ W.heap.size) t W1 x.bt o ev w') :
  Keep (fun b => b < W.heap.size) W1 w' /\ Mid n₀ τ W bw tws t x N o ev w' := by
 obtain ⟨τ', nodes', vw', va', ws', as', m1, m2, m3, m4, m5, m6, m7, m8⟩ := hM
 have hz := hb.size
 have hk : Keep (fun b => b < W.heap.size) W1 w' := by
  refine m8.mono (fun b hb' => ?_)
  rcases Nat.lt_or_ge b W.heap.size with h1 | h1
  ·exact h1
  ·have := hb'.2; rw [qe4 h1] at this; exact this.elim
 obtain ⟨k1, k2⟩ := (h.below hb).qxa hx m1 m3 m8
 exact ⟨hk, τ', nodes', vw', va', ws', as', (qbh.below hb).trans k1, k2, m4, m5, m6, fun b hb' => ⟨by have := (m7 b hb').1; omega, (m7 b hb').2⟩⟩
theorem Mid.below {W1 W2 : World} {ev : Value} (h : Mid n₀ τ W bw tws t x N o ev W1) (hb : Below W1.heap.size W1 W2) : Mid n₀ τ W bw tws t x N o ev W2 := by
 obtain ⟨τ', nodes', vw', va', ws', as', m1, m2, m3, m4, m5, m6⟩ := h
 refine ⟨qde τ' W1.heap.size, nodes', vw', va', ws', as', m1.trans (qbh.below hb), m2.below hb, m3, m4, qab (T := fun _ => False) m5 (Keep.new hb) (fun _ _ h => h), fun b hb' => ⟨(m6 b hb').1, ?_⟩⟩
 rw [qbx (qal m5 hb')]; exact (m6 b hb').2
theorem Mid2.below {W1 W2 : World} {k K : Nat} {evs : List (Int × Int)} {ev ev2 : Value} (h : Mid2 n₀ τ W bw k N K evs ev ev2 W1) (hb : Below W1.heap.size W1 W2) : Mid2 n₀ τ W bw k N K evs ev ev2 W2 := by
 obtain ⟨τ', tws', m1, m2, m3, m4, m5, m5', m6⟩ := h
 refine ⟨qde τ' W1.heap.size, tws', m1.trans (qbh.below hb), m2.below hb, m3, m4, qab (T := fun _ => False) m5 (Keep.new hb) (fun _ _ h => h), qab (T := fun _ => False) m5' (Keep.new hb) (fun _ _ h => h), fun b hb' => ⟨(m6 b hb').1, ?_⟩⟩
 rw [qbx (qal m5 hb')]; exact (m6 b hb').2
theorem qo7 {W1 w' : World} {ev sl : Value} {K : Nat} (hxl : tws[t]? = some x) (hA : ∀ y ∈ tws, qbj K y) (hbr : x.br < W.heap.size /\ x.g < W.heap.size /\ ∀ b, x.wv.ownBlock = some b -> b < W.heap.size) (h : Mid n₀ τ W bw tws t x N o ev W1) (hc : o.cnt <= K + 1) (hs : o.st <= 48 * (K + 1))
  (hM : qdw W1 x.br x.g x.wv.ownBlock o.L o.cnt ⟨o.Ws, o.st, o.evs⟩ sl w') : Keep (fun b => b < W.heap.size) W1 w' /\ Mid2 n₀ τ W bw tws.length N (K + 1) o.evs ev sl w' := by
 obtain ⟨τ', nodes', vw', va', ws', as', m1, m2, m3, m4, m5, m6⟩ := h
 have hl := (List.getElem?_eq_some_iff.1 hxl).1
 have hk : Keep (fun b => b < W.heap.size) W1 w' := hM.keep.mono (fun b hb' => by rcases hb' with rfl | rfl | e; exact hbr.1; exact hbr.2.1; exact hbr.2.2 b e)
 have hx1 : (tws.set t { x with nodes := nodes', last := o.cnt, vw := vw', va := va', ws := ws', as_ := as' })[t]? = some { x with nodes := nodes', last := o.cnt, vw := vw', va := va', ws := ws', as_ := as' } := by rw [List.getElem?_set_self hl]
 obtain ⟨τ2, g', cap', ao', cW', k1, k2, k3⟩ := m2.qwz hx1 (L' := o.L) (cnt' := o.cnt) (s := ⟨o.Ws, o.st, o.evs⟩) (sl := sl) hM
 refine ⟨hk, τ2, _, m1.trans k1, k2, ?_, by simp, qab m5 k3 (fun b hb e => ?_), hM.row, fun b hb => ⟨(m6 b hb).1, ?_⟩⟩
 ·rw [List.set_set]
  intro z hz
  rcases List.mem_or_eq_of_mem_set hz with hz | rfl
  ·exact (hA z hz).mono (by omega)
  ·exact ⟨m3.symm, rfl, m4, by simp only; omega, by simp only; omega⟩
 ·have := e.2; rw [(m6 b hb).2] at this; exact this
 ·rw [k1.old b (qal m5 hb)]; exact (m6 b hb).2
theorem qtg {W1 : World} {k K n : Nat} {evs : List (Int × Int)} {a a2 : Option Addr} {c c2 : Nat} (hn : n = evs.length) (hK : K <= 2000000) (hn9 : n <= 990) (hle : n₀ <= W.heap.size) (h : Mid2 n₀ τ W bw k (200 * K) (K + 1) evs (.slice a n c) (.slice a2 n c2) W1) (er : Int) :
  Calls Tryz.prog 68 #[.pointer (some ⟨bw, 0, none⟩), .slice a n c, .int .i64 er, .slice a2 n c2, .int .i64 er] W1 (qci n₀ τ W bw k (K + 1)) := by
 obtain ⟨τ', tws', m1, ⟨slT, slN, slE, slA, slB, ns, es, ms, me, m2⟩, m3, rfl, m5, m5', m6⟩ := h
 rw [<- hn] at m5 m5'
 refine (qtf m2.law (200 * K) (by omega) m2.n1 m2.n2 hn hn9 m5 m5' (fun b hb => (m6 b hb).2) er).mono ?_
 intro e w' hT
 obtain ⟨τ2, k1, slT', slN', slE', slA', slB', ns', es', ms', me', k2⟩ := St.told m2 (fun b hb => ⟨(m6 b hb).2, by have := (m6 b hb).1; omega⟩) hT
 exact ⟨hT.1, τ2, tws', m1.own k1 (fun b hb => (m6 b hb).1), ⟨slT', slN', slE', slA', slB', ns', es', ms', me', k2.law, by have := k2.n1; omega, by have := k2.n2; omega, k2.row, k2.tT, k2.tw, k2.lo, k2.le⟩, m3, Nat.le_refl _, Nat.le_succ _⟩
theorem qev {W : World} {e : TypeId} {size n : Nat} {v : Value} {xs : List Value} (h : W.ownsRow 0 e size v n xs) : ∃ a c, v = .slice a n c := by
 rcases h.2 with ⟨rfl, rfl⟩ | ⟨g, cap, cur, rfl, _⟩
 ·exact ⟨none, 0, rfl⟩
 ·exact ⟨_, cap, rfl⟩
theorem qs1 {K : Nat} (hK : K <= 2000000) (h : St n₀ τ W bw tws (200 * K)) (hA : ∀ y ∈ tws, qbj K y) (hx : tws[t]? = some x) {n : Nat} (hn : n = o.evs.length) (hn9 : n <= 990) (hc : o.cnt <= K + 1) (hs : o.st <= 48 * (K + 1))
  {F1 F2 : Nat} {args1 args2 : Array Value} {mk1 mk2 : Value -> Value}
  (hp : ∀ τ1 W1, qb6 τ1 t W1 x.bt x.nodes x.last x.vw x.va x.ws x.as_ -> Calls Tryz.prog F1 args1 W1 fun e w' => ∃ ev, e = .returned (mk1 ev) /\ POut τ1 t W1 x.bt o ev w')
  (hr : ∀ W1, GRef W1 x.br x.g x.cap x.L x.ao x.cW x.Ws x.cnt x.st -> Calls Tryz.prog F2 args2 W1 fun e w' => ∃ sl, e = .returned (mk2 sl) /\ qdw W1 x.br x.g x.wv.ownBlock o.L o.cnt ⟨o.Ws, o.st, o.evs⟩ sl w') :
  ∃ (M1 : Option Addr -> Nat -> World -> Prop) (M2 : Option Addr -> Nat -> Option Addr -> Nat -> World -> Prop),
   (∀ W1, Below W.heap.size W W1 -> Calls Tryz.prog F1 args1 W1 fun e w' => ∃ a c, e = .returned (mk1 (.slice a n c)) /\ Keep (fun b => b < W.heap.size) W1 w' /\ M1 a c w') /\
   (∀ a c W1 W2, M1 a c W1 -> Below W1.heap.size W1 W2 -> Calls Tryz.prog F2 args2 W2 fun e w' => ∃ a2 c2, e = .returned (mk2 (.slice a2 n c2)) /\ Keep (fun b => b < W.heap.size) W2 w' /\ M2 a c a2 c2 w') /\
   (∀ a c a2 c2 W1 W2, M2 a c a2 c2 W1 -> Below W1.heap.size W1 W2 -> Calls Tryz.prog 68 #[.pointer (some ⟨bw, 0, none⟩), .slice a n c, .int .i64 o.err, .slice a2 n c2, .int .i64 o.err] W2 (qci n₀ τ W bw tws.length (K + 1))) := by
 obtain ⟨slT, slN, slE, slA, slB, ns, es, ms, me, hS⟩ := id h
 have hT := hS.tw t x hx
 refine ⟨fun a c => Mid n₀ τ W bw tws t x (200 * K) o (.slice a n c), fun a c a2 c2 => Mid2 n₀ τ W bw tws.length (200 * K) (K + 1) o.evs (.slice a n c) (.slice a2 n c2), fun W1 hb => ?_, fun a c W1 W2 hM hb => ?_, fun a c a2 c2 W1 W2 hM hb => qtg hn hK hn9 hS.le (hM.below hb) _⟩
 ·have hP := hT.P.keep (τ' := qde τ W.heap.size) (T := fun _ => False) (Keep.new hb) (fun _ _ h => h.elim) (fun b hb => qbx hb)
  refine (hp _ W1 hP).mono ?_
  rintro e w' ⟨ev, rfl, hM⟩
  obtain ⟨a, c, rfl⟩ : ∃ a c, ev = .slice a n c := by
   obtain ⟨_, _, _, _, _, _, _, _, _, _, _, hrow, _⟩ := hM
   rw [<- hn] at hrow
   exact qev hrow
  exact ⟨a, c, rfl, qrf h hb hx hM⟩
 ·have hlt := (List.getElem?_eq_some_iff.1 hx).1
  have hM2 := hM.below hb
  obtain ⟨τ1, nodes1, vw1, va1, ws1, as1, p1, ⟨slT', slN', slE', slA', slB', ns', es', ms', me', hS'⟩, p3⟩ := id hM2
  have hR := (hS'.tw t { x with nodes := nodes1, last := o.cnt, vw := vw1, va := va1, ws := ws1, as_ := as1 } (by rw [List.getElem?_set_self hlt])).R
  refine (hr W2 hR).mono ?_
  rintro e w' ⟨sl, rfl, hRM⟩
  obtain ⟨a2, c2, rfl⟩ : ∃ a2 c2, sl = .slice a2 n c2 := by
   have hrow := hRM.row
   rw [<- hn] at hrow
   exact qev hrow
  exact ⟨a2, c2, rfl, qo7 hx hA hT.R.lts hM2 hc hs hRM⟩
end
end Go.Proofs.YtphclnolomgjoaaGreatDoor
