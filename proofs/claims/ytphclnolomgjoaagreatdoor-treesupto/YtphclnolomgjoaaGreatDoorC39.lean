import Derived.Test.YtphclnolomgjoaaGreatDoorC06
import Derived.Test.YtphclnolomgjoaaGreatDoorC38
import Derived.Deep.RegionLaw
import Derived.Test.YtphclnolomgjoaaGreatDoorC14
import Derived.BigQuiet
set_option linter.unusedVariables false
set_option linter.unusedSimpArgs false
namespace Go.Proofs.YtphclnolomgjoaaGreatDoor
open Go.RowKit
set_option maxRecDepth 100000 in
set_option maxHeartbeats 400000 in
theorem qva (w : World) : Calls Tryz.prog 38 #[] w fun e w' => e = .returned (.pointer (some ⟨w.heap.size + 2, 0, none⟩)) /\
  w' = ((w.alloc (.cells #[.int .i64 0, .int .i64 0] 35)).alloc (.cells #[.string ⟨#[]⟩, .bool false, .int .i64 0, .int .i64 0, .int .i64 0, .int .i64 0, .pointer none, .slice none 0 0] 136)).alloc (.cells #[.pointer (some ⟨w.heap.size + 1, 0, none⟩), .int .i64 0, .slice none 0 0, .slice none 0 0] 102) := by
 go_enter Tryz.func38, Tryz.ntmps38
 go_wp2_with (go_at_call 54; refine (qee _ _ _).mono ?_; rintro e w1 ⟨rfl, hw1⟩; subst hw1)
 go_ret
 exact ⟨by simp, rfl⟩
set_option maxRecDepth 100000 in
set_option maxHeartbeats 400000 in
theorem qp1 (w : World) : Calls Tryz.prog 65 #[] w fun e w' => e = .returned (.pointer (some ⟨w.heap.size + 1, 0, none⟩)) /\
  w' = (w.alloc (.cells #[.string ⟨#[]⟩, .bool false, .int .i64 0, .int .i64 0, .int .i64 0, .int .i64 0] 163)).alloc (.cells #[.slice (some ⟨w.heap.size, 0, none⟩) 1 1, .slice none 0 0, .int .i64 0, .int .i64 0] 167) := by
 go_enter Tryz.func65, Tryz.ntmps65
 go_wp2
 go_ret
 exact ⟨by simp, rfl⟩
def qiw (b : Nat) : Node := { blk := b, key := [], leaf := false, n0 := 0, n1 := 0, b0 := 0, b1 := 0, up := none, sl := .slice none 0 0, kids := [] }
theorem qwp (b : Nat) : Tree [qiw b] := by
 refine ⟨⟨qiw b, rfl, rfl, rfl, rfl, rfl⟩, ?_, by simp, ?_, ?_, ?_, ?_, ?_, by simp⟩
 ·intro n hn m hm _; simp at hn hm; rw [hn, hm]
 ·intro n hn; simp at hn; subst hn; exact ⟨rfl, by simp [qiw]⟩
 ·intro n hn; simp at hn; subst hn; simp [qiw]
 ·intro n hn _; simp at hn; subst hn; rfl
 ·intro n hn k x hk; simp at hn; subst hn; simp [qiw] at hk
 ·intro p hp; simp at hp; subst hp
  refine ⟨[], rfl, fun k => ?_, by simp⟩
  simp only [List.not_mem_nil, List.mem_singleton, false_iff, not_and]
  rintro rfl ⟨x, hx⟩; simp [qiw] at hx
theorem i44a : (Tryz.prog.info? 128).map (fun i => (i.size, i.bytes)) = some (2, 16) := by kernel_rfl
theorem i44b : (Tryz.prog.info? 128).bind (fun i => i.zero) = some (.agg #[.pointer none, .pointer none]) := by kernel_rfl
theorem qw3 : qdf 128 2 16 := qep i44a i44b rfl
theorem un26 : Tryz.prog.underlying 79 = some (.slice 128) := by kernel_rfl
theorem que (w : World) : Calls Tryz.prog 38 #[] w fun e w' => ∃ nd bt, e = .returned (.pointer (some ⟨bt, 0, none⟩)) /\ Below w.heap.size w w' /\ Blk w' nd 136 #[.string ⟨#[]⟩, .bool false, .int .i64 0, .int .i64 0, .int .i64 0, .int .i64 0, .pointer none, .slice none 0 0] /\ Blk w' bt 102 #[.pointer (some ⟨nd, 0, none⟩), .int .i64 0, .slice none 0 0, .slice none 0 0] /\ w.heap.size <= nd /\ nd < bt /\ bt < w'.heap.size := by
 refine (qva w).mono ?_
 rintro e w' ⟨rfl, rfl⟩
 refine ⟨w.heap.size + 1, w.heap.size + 2, rfl, ?_, ?_, Blk.new' (by simp), by omega, by omega, by simp⟩
 ·exact (((Below.refl _ _).alloc (Nat.le_refl _) _).alloc (by simp) _).alloc (by simp; omega) _
 ·exact (Blk.new' (by simp)).alloc _
theorem qmq (w : World) : Calls Tryz.prog 65 #[] w fun e w' => ∃ rr br, e = .returned (.pointer (some ⟨br, 0, none⟩)) /\ Below w.heap.size w w' /\ Blk w' rr 163 #[.string ⟨#[]⟩, .bool false, .int .i64 0, .int .i64 0, .int .i64 0, .int .i64 0] /\ Blk w' br 167 #[.slice (some ⟨rr, 0, none⟩) 1 1, .slice none 0 0, .int .i64 0, .int .i64 0] /\ w.heap.size <= rr /\ rr < br /\ br < w'.heap.size := by
 refine (qp1 w).mono ?_
 rintro e w' ⟨rfl, rfl⟩
 refine ⟨w.heap.size, w.heap.size + 1, rfl, ?_, ?_, Blk.new' (by simp), by omega, by omega, by simp⟩
 ·exact ((Below.refl _ _).alloc (Nat.le_refl _) _).alloc (by simp) _
 ·exact (Blk.new' rfl).alloc _
structure NewP (W : World) (bw k : Nat) (slT : Value) (cells : List Value) (op : Array Value) (U : World) (nd bt rr br gT cT : Nat) (w' : World) : Prop where
 u : Below W.heap.size W U
 nd_ : Blk U nd 136 #[.string ⟨#[]⟩, .bool false, .int .i64 0, .int .i64 0, .int .i64 0, .int .i64 0, .pointer none, .slice none 0 0]
 bt_ : Blk U bt 102 #[.pointer (some ⟨nd, 0, none⟩), .int .i64 0, .slice none 0 0, .slice none 0 0]
 rr_ : Blk U rr 163 #[.string ⟨#[]⟩, .bool false, .int .i64 0, .int .i64 0, .int .i64 0, .int .i64 0]
 br_ : Blk U br 167 #[.slice (some ⟨rr, 0, none⟩) 1 1, .slice none 0 0, .int .i64 0, .int .i64 0]
 lo : W.heap.size <= nd /\ nd < bt /\ bt < rr /\ rr < br
 end_ : ∃ wA, AppR U slT.ownBlock 128 2 (k + 1) (cells ++ [.pointer (some ⟨bt, 0, none⟩), .pointer (some ⟨br, 0, none⟩)]) gT cT wA /\ w' = wA.setCell ⟨bw, 0, none⟩ (.slice (some ⟨gT, 0, none⟩) (k + 1) cT)
theorem qvk (w : World) : Sem.run Tryz.prog (callFunc 65 #[]) w = .ok (.enter 65 #[]) w := by kernel_rfl
theorem qj4 {P : Program} {ops : Array Oper} {o : Oper} {a : Act} {w : World} {K : Act -> World -> Prop} {Q : Exit -> Act -> World -> Prop} {E : Prop} {R : Value -> World -> Prop} (f : Nat)
  (hg : o.guard = none) (hop : o.op = Op.call { callee := Callee.value (Operand.func f), args := #[], argTypes := #[] }) (hf : Sem.run P (callFunc f #[]) w = .ok (.enter f #[]) w)
  (hc : Calls P f #[] w fun e w' => ∃ v, e = .returned v /\ R v w') (hK : ∀ v' w', R v' w' -> K (a.put o.dst v') w') :
  if Region.wanted o (yielded ops a.tmps) = true then Oper.wp P o a w K Q else E := by
 rw [if_pos (by simp [Region.wanted, hg])]
 unfold Oper.wp
 simp [hop, go_sem]
 rw [hf]
 refine hc.mono ?_
 rintro e w' ⟨v, rfl, hR⟩
 exact hK v w' hR
set_option maxRecDepth 100000 in
set_option maxHeartbeats 2000000 in
theorem qtc {W : World} {bw k : Nat} {slT slN slE slA slB : Value} (hb : Blk W bw 84 #[slT, slN, slE, slA, slB]) {cells : List Value} (hrow : W.ownsRow 0 128 2 slT k cells) (hk : k <= 100000000) (hne : slT.ownBlock ≠ some bw) (s s2 : ByteArray) (T a0 a1 c0 c1 nm : Int) :
  Calls Tryz.prog 36 #[.pointer (some ⟨bw, 0, none⟩), .agg #[.int .i64 1, .int .i64 T, .string s, .string s2, .int .i64 a0, .int .i64 a1, .int .i64 c0, .int .i64 c1, .int .i64 nm]] W
   fun e w' => e = .returned (.bool true) /\ ∃ U nd bt rr br gT cT, NewP W bw k slT cells #[] U nd bt rr br gT cT w' := by
 obtain ⟨aT, cT0, rfl⟩ := qev hrow
 have hap := fun W' (h : W'.ownsRow 0 128 2 (.slice aT k cT0) k cells) nb (bt br : Nat) (hnb : Blk W' nb 128 #[.pointer (some ⟨bt, 0, none⟩), .pointer (some ⟨br, 0, none⟩)]) =>
  qby un26 qw3 (by omega) W' _ k cells h nb 1 1 (by omega) [.pointer (some ⟨bt, 0, none⟩), .pointer (some ⟨br, 0, none⟩)] rfl hnb (by intro u hu; simp at hu; rcases hu with rfl | rfl <;> rfl) (by unfold maxLen; omega) (by omega)
 have hlt := hb.lt
 have c0' := hb.cell 0
 simp only [List.getElem?_toArray, List.getElem?_cons_zero, List.getElem?_cons_succ] at c0'
 go_enter Tryz.func36, Tryz.ntmps36
 go_wp2_with (go_at_call 38; refine (que _).mono ?_; rintro e w1 ⟨nd, bt, rfl, hb1, bnd, bbt, o1, o2, o3⟩; have hB1 : Below W.heap.size W w1 := qac (by exact bel2) hb1; have hz1 := hB1.size; have bw1 := hb.below hB1 hlt; have cw1 := bw1.cell 0; have ltw1 := bw1.lt; simp only [List.getElem?_toArray, List.getElem?_cons_zero, List.getElem?_cons_succ] at cw1)
 have h8 : ∀ W', Calls Tryz.prog 65 #[] W' fun e w' => ∃ v, e = .returned v /\ ∃ rr br, v = .pointer (some ⟨br, 0, none⟩) /\ Below W'.heap.size W' w' /\ Blk w' rr 163 #[.string ⟨#[]⟩, .bool false, .int .i64 0, .int .i64 0, .int .i64 0, .int .i64 0] /\ Blk w' br 167 #[.slice (some ⟨rr, 0, none⟩) 1 1, .slice none 0 0, .int .i64 0, .int .i64 0] /\ W'.heap.size <= rr /\ rr < br /\ br < w'.heap.size := fun W' => (qmq W').mono (fun e w' ⟨rr, br, h1, h2⟩ => ⟨_, h1, rr, br, rfl, h2⟩)
 go_region_law (first
  | (refine qj4 65 rfl rfl (qvk _) (h8 _) ?_; rintro v2 w2 ⟨rr, br, rfl, hb2, brr, bbr, o4, o5, o6⟩; have hB2 : Below W.heap.size W w2 := qac (by exact bel2) hb2; have hz2 := hB2.size; have bw2 := hb.below hB2 hlt; have cw2 := bw2.cell 0; have ltw2 := bw2.lt; have bnd2 : Blk w2 nd 136 #[.string ⟨#[]⟩, .bool false, .int .i64 0, .int .i64 0, .int .i64 0, .int .i64 0, .pointer none, .slice none 0 0] := Blk.below (by exact blk2) hb2 bnd.lt; have bbt2 : Blk w2 bt 102 #[.pointer (some ⟨nd, 0, none⟩), .int .i64 0, .slice none 0 0, .slice none 0 0] := Blk.below (by exact blk2) hb2 bbt.lt; simp only [List.getElem?_toArray, List.getElem?_cons_zero, List.getElem?_cons_succ] at cw2)
  | (refine qau rfl (.tmp 46) (.tmp 50) 79 79 rfl _ _ ?_ ?_ (hap _ ?_ ?_ bt br ?_) ?_; (focus (simp [Act.eval, Act.put])); (focus ((try simp [Act.eval, Act.put]); (try rfl))); (focus (exact qab (T := fun _ => False) hrow (Keep.new (by exact bel2)) (fun _ _ h => h))); (focus exact blk2); rintro vA wA ⟨gT, cT, rfl, RA⟩; have bA := Blk.keep (show Blk _ bw 84 #[.slice aT k cT0, slN, slE, slA, slB] by exact blk2) RA.keep hne; have cA3 := bA.cell 0; have fA3 := bA.frozen 0; simp only [List.getElem?_toArray, List.getElem?_cons_zero, List.getElem?_cons_succ] at cA3))
 all_goals go_wp2
 all_goals go_ret
 all_goals exact ⟨rfl, _, nd, bt, rr, br, gT, cT, ⟨(by exact bel2), (by exact blk2), (by exact blk2), (by exact blk2), (by exact blk2), ⟨(by first | omega | (simp at o1; omega)), o2, (by first | omega | (simp at o4; omega)), o5⟩, wA, RA, rfl⟩⟩
def tw0 (bt nd br rr : Nat) : Tw := ⟨bt, [qiw nd], 0, .slice none 0 0, .slice none 0 0, [], [], br, rr, 1, [⟨[], false, 0, 0, 0, 0⟩], none, 0, [], 0, 0⟩
theorem qrh (bt nd br rr K : Nat) : qbj K (tw0 bt nd br rr) := by
 refine ⟨rfl, rfl, ⟨qwp nd, ⟨rfl, ⟨[], rfl, List.Perm.refl _, List.Pairwise.nil⟩, fun p hp => (by cases hp)⟩, ⟨⟨⟨fun x hx => (by cases hx), fun x hx => (by cases hx), by simp [tw0]⟩, by simp [tw0], fun x hx => (by cases hx), by simp [tw0]⟩, by simp [tw0], fun x hx => (by cases hx)⟩, ⟨fun x hx => (by cases hx), fun x hx => (by cases hx)⟩, by simp [tw0]⟩, by simp [tw0], by simp [tw0]; omega⟩
theorem qn7 {n₀ : Nat} {τ : Nat -> Tag} {W : World} {bw : Nat} {tws : List Tw} {K : Nat} (h : St n₀ τ W bw tws (200 * K)) (hA : ∀ y ∈ tws, qbj K y) (hmax : tws.length <= 100000000) (s s2 : ByteArray) (T a0 a1 c0 c1 nm : Int) :
  Calls Tryz.prog 36 #[.pointer (some ⟨bw, 0, none⟩), .agg #[.int .i64 1, .int .i64 T, .string s, .string s2, .int .i64 a0, .int .i64 a1, .int .i64 c0, .int .i64 c1, .int .i64 nm]] W (fun e w' => qci n₀ τ W bw tws.length (K + 1) e w' /\ ∃ τ' tws', St n₀ τ' w' bw tws' (200 * (K + 1)) /\ (∀ y ∈ tws', qbj (K + 1) y) /\ qbh τ W τ' w' /\ tws'.length = tws.length + 1) := by
 obtain ⟨slT, slN, slE, slA, slB, ns, es, ms, me, h⟩ := h
 have hne : slT.ownBlock ≠ some bw := fun e => by have := h.tT _ e; rw [h.law.tag] at this; cases this
 refine (qtc h.law.blk h.row hmax hne s s2 T a0 a1 c0 c1 nm).mono ?_
 rintro e w' ⟨rfl, U, nd, bt, rr, br, gT, cT, hu, bnd, bbt, brr, bbr, ⟨o1, o2, o3, o4⟩, wA, RA, hend⟩
 suffices hh : ∃ τ' tws', qbh τ W τ' w' /\ St n₀ τ' w' bw tws' (200 * (K + 1)) /\ (∀ y ∈ tws', qbj (K + 1) y) /\ tws'.length = tws.length + 1 by
  obtain ⟨τ', tws', m1, m2, m3, m4⟩ := hh
  exact ⟨⟨rfl, τ', tws', m1, m2, m3, by omega, by omega⟩, τ', tws', m2, m3, m1, m4⟩
 have hbw := h.law.blk.lt
 have hus := hu.size
 have hbrl := bbr.lt
 obtain ⟨TT, hTT⟩ : ∃ TT : Nat -> Prop, TT = fun b => b = bw \/ slT.ownBlock = some b := ⟨_, rfl⟩
 have kA : Keep TT wA w' := by rw [hend]; exact (Keep.refl _ _).setCell (p := ⟨bw, 0, none⟩) (by rw [hTT]; exact Or.inl rfl) _
 have kU : Keep TT U w' := (RA.keep.mono (fun b hb => by rw [hTT]; exact Or.inr hb)).trans kA
 have kW : Keep TT W w' := (Keep.new hu : Keep TT W U).trans kU
 have hTlt : ∀ b, TT b -> b < W.heap.size := fun b hb => by
  rw [hTT] at hb
  rcases hb with rfl | e
  ·exact hbw
  ·exact qal h.row e
 have hTtag : ∀ b, TT b -> τ b = .law \/ τ b = .lawT := fun b hb => by
  rw [hTT] at hb
  rcases hb with rfl | e
  ·exact .inl h.law.tag
  ·exact .inr (h.tT _ e)
 have hnew : ∀ b, W.heap.size <= b -> ¬ TT b := fun b hb ht => by have := hTlt b ht; omega
 obtain ⟨τ', hτ'⟩ : ∃ τ' : Nat -> Tag, τ' = fun b => if b < W.heap.size then τ b else if b = nd then .node tws.length 0 else if b = bt then .tow tws.length else if b = rr then .rrow tws.length else if b = br then .ref tws.length else if b = gT then .lawT else .free := ⟨_, rfl⟩
 have old : ∀ b, b < W.heap.size -> τ' b = τ b := fun b hb => by rw [hτ']; simp [hb]
 have tnd : τ' nd = .node tws.length 0 := by rw [hτ']; simp only; rw [if_neg (by omega), if_pos trivial]
 have tbt : τ' bt = .tow tws.length := by rw [hτ']; simp only; rw [if_neg (by omega), if_neg (by omega), if_pos trivial]
 have trr : τ' rr = .rrow tws.length := by rw [hτ']; simp only; rw [if_neg (by omega), if_neg (by omega), if_neg (by omega), if_pos trivial]
 have tbr : τ' br = .ref tws.length := by rw [hτ']; simp only; rw [if_neg (by omega), if_neg (by omega), if_neg (by omega), if_neg (by omega), if_pos trivial]
 have tgT : τ' gT = .lawT := by
  rcases RA.new with e | e
  ·rw [old _ (qal h.row e)]; exact h.tT _ e
  ·rw [hτ']; simp only; rw [if_neg (by omega), if_neg (by omega), if_neg (by omega), if_neg (by omega), if_neg (by omega), if_pos trivial]
 have hgb : gT ≠ bw := by
  rcases RA.new with e | e
  ·exact fun e2 => hne (by rw [e, e2])
  ·omega
 obtain ⟨n1, n2, n3⟩ := h.law.N.lt
 obtain ⟨e1, e2, e3⟩ := h.law.E.lt
 have hx : ∀ g t, τ g = t -> t ≠ .law -> t ≠ .lawT -> ¬ TT g := fun g t ht h1 h2 hg => by
  rcases hTtag g hg with e | e
  ·exact h1 (by rw [<- ht, e])
  ·exact h2 (by rw [<- ht, e])
 refine ⟨τ', tws ++ [tw0 bt nd br rr], ⟨old, kW.qlj (fun b hb ht => ⟨hb, fun e => by rcases hTtag b ht with e' | e' <;> rw [e] at e' <;> cases e'⟩)⟩,
  ⟨.slice (some ⟨gT, 0, none⟩) (tws.length + 1) cT, slN, slE, slA, slB, ns, es, ms, me, ⟨⟨?_, by rw [old _ hbw]; exact h.law.tag, ?_, ?_, ?_, ?_, ?_, ?_, ?_, ?_⟩, by have := h.n1; omega, by have := h.n2; omega, ?_, ?_, ?_, ?_, Nat.le_trans h.le kW.size⟩⟩, ?_, by simp⟩
 ·have b1 : Blk U bw 84 _ := h.law.blk.below hu hbw
  have b2 := (b1.keep RA.keep hne).set 0 (.slice (some ⟨gT, 0, none⟩) (tws.length + 1) cT)
  rw [<- hend] at b2
  exact b2
 ·exact h.law.N.keep kW (fun g hg => hx g _ (h.law.tN g hg) (by simp) (by simp)) (fun g hg => hx g _ (h.law.tA g hg) (by simp) (by simp)) (fun v hv g hg => hx g _ (h.law.ln v hv g hg) (by simp) (by simp))
 ·exact h.law.E.keep kW (fun g hg => hx g _ (h.law.tE g hg) (by simp) (by simp)) (fun g hg => hx g _ (h.law.tB g hg) (by simp) (by simp)) (fun v hv g hg => hx g _ (h.law.le v hv g hg) (by simp) (by simp))
 ·intro g hg; rw [old _ (n1 g hg)]; exact h.law.tN g hg
 ·intro g hg; rw [old _ (e1 g hg)]; exact h.law.tE g hg
 ·intro g hg; rw [old _ (n2 g hg)]; exact h.law.tA g hg
 ·intro g hg; rw [old _ (e2 g hg)]; exact h.law.tB g hg
 ·intro v hv g hg; rw [old _ (n3 v hv g hg)]; exact h.law.ln v hv g hg
 ·intro v hv g hg; rw [old _ (e3 v hv g hg)]; exact h.law.le v hv g hg
 ·have kk : Keep (fun b => b = bw) wA w' := by rw [hend]; exact (Keep.refl (fun b => b = bw) _).setCell (p := ⟨bw, 0, none⟩) rfl _
  have := qab RA.own kk (fun g hg => by simp [Value.ownBlock] at hg; subst hg; exact hgb)
  simpa [qed, tw0] using this
 ·intro g hg; simp [Value.ownBlock] at hg; subst hg; exact tgT
 ·intro t x hxx
  rcases Nat.lt_or_ge t tws.length with hlt | hge
  ·rw [List.getElem?_append_left hlt] at hxx
   refine (h.tw t x hxx).keep kW (fun b hb ht => ?_) old
   rcases hTtag b ht with e | e <;> rw [e] <;> exact ⟨fun h => h, fun h => h⟩
  ·rw [List.getElem?_append_right hge] at hxx
   have ht0 : t = tws.length := by
    rcases Nat.eq_zero_or_pos (t - tws.length) with h0 | h0
    ·omega
    ·rw [List.getElem?_eq_none (by simp; omega)] at hxx; cases hxx
   subst ht0
   simp at hxx; subst hxx
   have bnd' := bnd.keep kU (hnew _ (by omega))
   have bbt' := bbt.keep kU (hnew _ (by omega))
   have brr' := brr.keep kU (hnew _ (by omega))
   have bbr' := bbr.keep kU (hnew _ (by omega))
   have hpr : qfn τ' tws.length w' bt [qiw nd] (.int .i64 0) (.slice none 0 0) (.slice none 0 0) := by
    refine ⟨qwp nd, ?_, ?_, ⟨qiw nd, rfl, bbt'⟩, tbt⟩
    ·intro n hn; simp at hn; subst hn
     exact ⟨bnd', World.ownsRow_nil _ _ _ _⟩
    ·intro i n hn
     match i, hn with
     | 0, hn => simp at hn; subst hn; exact ⟨tnd, fun g hg => by cases hg⟩
     | i + 1, hn => simp at hn
   refine ⟨⟨hpr, ⟨qiw nd, rfl, hpr.ins, ⟨bbt', World.ownsRow_nil _ _ _ _, World.ownsRow_nil _ _ _ _, fun p hp => (by cases hp), fun b hb => (by cases hb), List.nodup_nil, fun a ha => (by cases ha), by simp [tw0]⟩, fun p hp => (by cases hp), fun p hp => (by cases hp)⟩, fun b hb => (by rcases hb with hb | hb <;> cases hb), fun p hp => (by cases hp)⟩, ⟨⟨bbr', ?_⟩, World.ownsRow_nil _ _ _ _, fun b hb => (by cases hb)⟩, tbr, trr, fun b hb => (by cases hb)⟩
   exact ⟨rfl, .inr ⟨rr, 1, _, rfl, Nat.zero_le _, brr', Nat.le_refl _, by unfold maxLen; omega, rfl, rfl⟩⟩
 ·intro b hb; rw [old _ (Nat.lt_of_lt_of_le hb h.le)]; exact h.lo b hb
 ·intro x hx'
  rcases List.mem_append.1 hx' with h1 | h1
  ·exact (hA x h1).mono (by omega)
  ·simp at h1; subst h1; exact qrh _ _ _ _ _
structure OpC where
 k : Int
 t : Int
 s : ByteArray
 s2 : ByteArray
 a0 : Int
 a1 : Int
 c0 : Int
 c1 : Int
 nm : Int
def OpC.cells (o : OpC) : Array Value := #[.int .i64 o.k, .int .i64 o.t, .string o.s, .string o.s2, .int .i64 o.a0, .int .i64 o.a1, .int .i64 o.c0, .int .i64 o.c1, .int .i64 o.nm]
def qfd (W : World) (ao : Option Addr) (len : Nat) (O : Nat -> OpC) : Prop :=
 ∀ i, i < len -> ∃ b off, ao = some ⟨b, off, none⟩ /\ b < W.heap.size /\ W.cell? ⟨b, off + i * 9, none⟩ = some (.int .i64 (O i).k) /\ W.cell? ⟨b, off + i * 9 + 1, none⟩ = some (.int .i64 (O i).t) /\ W.cell? ⟨b, off + i * 9 + 2, none⟩ = some (.string (O i).s) /\ W.cell? ⟨b, off + i * 9 + 3, none⟩ = some (.string (O i).s2) /\
  W.cell? ⟨b, off + i * 9 + 4, none⟩ = some (.int .i64 (O i).a0) /\ W.cell? ⟨b, off + i * 9 + 5, none⟩ = some (.int .i64 (O i).a1) /\ W.cell? ⟨b, off + i * 9 + 6, none⟩ = some (.int .i64 (O i).c0) /\ W.cell? ⟨b, off + i * 9 + 7, none⟩ = some (.int .i64 (O i).c1) /\ W.cell? ⟨b, off + i * 9 + 8, none⟩ = some (.int .i64 (O i).nm)
set_option maxRecDepth 100000 in
set_option maxHeartbeats 2000000 in
theorem qnl {W : World} {ao : Option Addr} {len cap : Nat} (hl : len <= cap) (hm : cap <= maxLen) {O : Nat -> OpC} (hS : qfd W ao len O) (last : Int) {A : Nat -> World -> Prop}
  (h0 : ∀ w, Below W.heap.size W w -> Blk w W.heap.size 84 #[.slice none 0 0, .slice none 0 0, .slice none 0 0, .slice none 0 0, .slice none 0 0] ->
   Calls Tryz.prog 36 #[.pointer (some ⟨W.heap.size, 0, none⟩), .agg #[.int .i64 1, .int .i64 0, .string ⟨#[]⟩, .string ⟨#[]⟩, .int .i64 0, .int .i64 0, .int .i64 0, .int .i64 0, .int .i64 0]] w fun e w' => e = .returned (.bool true) /\ A 1 w')
  (h1 : ∀ w, A 1 w -> Calls Tryz.prog 36 #[.pointer (some ⟨W.heap.size, 0, none⟩), .agg #[.int .i64 3, .int .i64 0, .string ⟨#[97]⟩, .string ⟨#[]⟩, .int .i64 10, .int .i64 10, .int .i64 5, .int .i64 0, .int .i64 0]] w fun e w' => e = .returned (.bool true) /\ A 2 w')
  (h2 : ∀ w, A 2 w -> Calls Tryz.prog 36 #[.pointer (some ⟨W.heap.size, 0, none⟩), .agg #[.int .i64 4, .int .i64 0, .string ⟨#[97]⟩, .string ⟨#[]⟩, .int .i64 0, .int .i64 0, .int .i64 0, .int .i64 0, .int .i64 0]] w fun e w' => e = .returned (.bool true) /\ A 3 w')
  (h3 : ∀ i, i < len -> (O i).k <= last -> ∀ w, A (3 + i) w -> Calls Tryz.prog 36 #[.pointer (some ⟨W.heap.size, 0, none⟩), .agg #[.int .i64 (O i).k, .int .i64 (O i).t, .string (O i).s, .string (O i).s2, .int .i64 (O i).a0, .int .i64 (O i).a1, .int .i64 (O i).c0, .int .i64 (O i).c1, .int .i64 (O i).nm]] w fun e w' => e = .returned (.bool true) /\ A (3 + (i + 1)) w')
  (h4 : ∀ i, i <= len -> ∀ w, A (3 + i) w -> Calls Tryz.prog 37 #[.pointer (some ⟨W.heap.size, 0, none⟩)] w fun e w' => e = .returned (.bool true) /\ A (3 + i) w')
  (hA : ∀ i w, A i w -> Below W.heap.size W w /\ A (i + 1) w) :
  Calls Tryz.prog 14 #[.slice ao len cap, .int .i64 last] W fun e w' => e = .returned (.bool true) /\ Below W.heap.size W w' := by
 have HS : Hid (qfd W ao len O) := hS
 have HA : Hid (∀ i w, A i w -> Below W.heap.size W w /\ A (i + 1) w) := hA
 clear hS hA
 have hlen : len <= 9223372036854775807 := by unfold maxLen at hm; omega
 go_enter Tryz.func14, Tryz.ntmps14
 go_wp2_with (first
  | (go_at_call 36; refine (h2 _ hA2).mono ?_; rintro e w3 ⟨rfl, hA3⟩)
  | (go_at_call 36; refine (h1 _ hA1).mono ?_; rintro e w2 ⟨rfl, hA2⟩)
  | (go_at_call 36; refine (h0 _ (by exact bel2) (by exact blk2)).mono ?_; rintro e w1 ⟨rfl, hA1⟩))
 go_loopw [6, 7] (fun ok i wr => ok = .bool true /\ ∃ k : Nat, k <= len /\ i = .int .i64 k /\ A (3 + k) wr) (fun _ i _ => len - (intOf i).toNat)
 case atStart => exact ⟨rfl, 0, Nat.zero_le _, rfl, hA3⟩
 case round =>
  obtain ⟨rfl, k, hk, rfl, hAk⟩ := hrel
  by_cases hlt : k < len
  ·obtain ⟨b, off, rfl, hb, q0, q1, q2, q3, q4, q5, q6, q7, q8⟩ := HS.out k hlt
   have hB := (HA.out _ _ hAk).1
   have r0 := (hB.cell (p := ⟨b, off + k * 9, none⟩) hb).trans q0
   have r1 := (hB.cell (p := ⟨b, off + k * 9 + 1, none⟩) hb).trans q1
   have r2 := (hB.cell (p := ⟨b, off + k * 9 + 2, none⟩) hb).trans q2
   have r3 := (hB.cell (p := ⟨b, off + k * 9 + 3, none⟩) hb).trans q3
   have r4 := (hB.cell (p := ⟨b, off + k * 9 + 4, none⟩) hb).trans q4
   have r5 := (hB.cell (p := ⟨b, off + k * 9 + 5, none⟩) hb).trans q5
   have r6 := (hB.cell (p := ⟨b, off + k * 9 + 6, none⟩) hb).trans q6
   have r7 := (hB.cell (p := ⟨b, off + k * 9 + 7, none⟩) hb).trans q7
   have r8 := (hB.cell (p := ⟨b, off + k * 9 + 8, none⟩) hb).trans q8
   clear q0 q1 q2 q3 q4 q5 q6 q7 q8
   have hnext := (HA.out _ _ hAk).2
   by_cases hle : (O k).k <= last
   ·have h3k := h3 k hlt hle
    have h4k := h4 (k + 1) (by omega)
    clear h3 h4 h0 h1 h2 hnext
    go_wp2_with (first
     | (go_at_call 36; refine (h3k _ hAk).mono ?_; rintro e w4 ⟨rfl, hA4⟩)
     | (go_at_call 37; refine (h4k _ hA4).mono ?_; rintro e w5 ⟨rfl, hA5⟩))
    exact ⟨⟨rfl, k + 1, by omega, by go_num, hA5⟩, by simp [intOf]; omega⟩
   ·have h4k := h4 k (by omega)
    clear h3 h4 h0 h1 h2 hnext
    go_wp2_with (go_at_call 37; refine (h4k _ hAk).mono ?_; rintro e w5 ⟨rfl, hA5⟩)
    exact ⟨⟨rfl, k + 1, by omega, by go_num, (HA.out _ _ hA5).2⟩, by simp [intOf]; omega⟩
  ·go_wp2
   go_ret
   exact ⟨rfl, (HA.out _ _ hAk).1⟩
theorem St.low {n₀ : Nat} {τ : Nat -> Tag} {W : World} {bw : Nat} {tws : List Tw} {N : Nat} (h : St n₀ τ W bw tws N) : (∀ b, b < n₀ -> τ b = .free) /\ n₀ <= W.heap.size := by
 obtain ⟨slT, slN, slE, slA, slB, ns, es, ms, me, h⟩ := h
 exact ⟨h.lo, h.le⟩
theorem St.mono {n₀ : Nat} {τ : Nat -> Tag} {W : World} {bw : Nat} {tws : List Tw} {N M : Nat} (h : St n₀ τ W bw tws N) (hNM : N <= M) : St n₀ τ W bw tws M := by
 obtain ⟨slT, slN, slE, slA, slB, ns, es, ms, me, h⟩ := h
 exact ⟨slT, slN, slE, slA, slB, ns, es, ms, me, ⟨h.law, Nat.le_trans h.n1 hNM, Nat.le_trans h.n2 hNM, h.row, h.tT, h.tw, h.lo, h.le⟩⟩
theorem qbh.low {n₀ : Nat} {τ τ' : Nat -> Tag} {W w' : World} {bw : Nat} {tws : List Tw} {N : Nat} (h : St n₀ τ W bw tws N) (hm : qbh τ W τ' w') : Below n₀ W w' :=
 ⟨hm.keep.os, hm.keep.tape, hm.keep.output, hm.keep.size, fun k hk => hm.keep.block k (Nat.lt_of_lt_of_le hk h.low.2) (fun hn => hn.2 (h.low.1 k hk))⟩
def At (W0 : World) (k : Nat) (w : World) : Prop := ∃ τ tws, St W0.heap.size τ w W0.heap.size tws (200 * k) /\ (∀ y ∈ tws, qbj k y) /\ 0 < tws.length /\ tws.length <= k /\ Below W0.heap.size W0 w
theorem At.low {W0 w : World} {k : Nat} (h : At W0 k w) : Below W0.heap.size W0 w /\ At W0 (k + 1) w := by
 obtain ⟨τ, tws, h1, h2, h3, h4, h5⟩ := h
 exact ⟨h5, τ, tws, h1.mono (by omega), fun y hy => (h2 y hy).mono (by omega), h3, by omega, h5⟩
theorem At.next {W0 w w' : World} {k : Nat} {τ : Nat -> Tag} {tws : List Tw} {e : Ending} (hS : St W0.heap.size τ w W0.heap.size tws (200 * k)) (h3 : 0 < tws.length) (h4 : tws.length <= k) (h5 : Below W0.heap.size W0 w)
  (hR : qci W0.heap.size τ w W0.heap.size tws.length (k + 1) e w') : e = .returned (.bool true) /\ At W0 (k + 1) w' := by
 obtain ⟨rfl, τ', tws', m1, m2, m3, m4, m5⟩ := hR
 exact ⟨rfl, τ', tws', m2.mono (by omega), m3, by omega, by omega, h5.trans (qbh.low hS m1)⟩
theorem qvd {W0 w : World} {k : Nat} (hk : k <= 2000000) (h : At W0 k w) : Calls Tryz.prog 37 #[.pointer (some ⟨W0.heap.size, 0, none⟩)] w fun e w' => e = .returned (.bool true) /\ At W0 k w' := by
 obtain ⟨τ, tws, h1, h2, h3, h4, h5⟩ := h
 obtain ⟨slT, slN, slE, slA, slB, ns, es, ms, me, hS⟩ := id h1
 have n1 := hS.n1
 have n2 := hS.n2
 refine (qhq hS.law.blk hS.law.N hS.law.E (by omega) (by omega)).mono ?_
 rintro e w' ⟨rfl, hb⟩
 exact ⟨rfl, _, tws, h1.below hb, h2, h3, h4, h5.trans (hb.mono h1.low.2)⟩
theorem qrn (w : World) (c : Nat) (tl : TypeId) : qdz w c tl (.slice none 0 0) (.slice none 0 0) [] [] :=
 ⟨World.ownsRow_nil _ _ _ _, World.ownsRow_nil _ _ _ _, rfl, fun i v m h => by simp at h⟩
theorem qs8 {W0 w : World} (hb : Below W0.heap.size W0 w) (bk : Blk w W0.heap.size 84 #[.slice none 0 0, .slice none 0 0, .slice none 0 0, .slice none 0 0, .slice none 0 0]) :
  St W0.heap.size (fun b => if b = W0.heap.size then .law else .free) w W0.heap.size [] 0 := by
 have hno : ∀ g, (Value.slice none 0 0).ownBlock = some g -> False := fun g hg => by cases hg
 refine ⟨.slice none 0 0, .slice none 0 0, .slice none 0 0, .slice none 0 0, .slice none 0 0, [], [], [], [], ⟨⟨bk, by simp, qrn _ _ _, qrn _ _ _, fun g hg => (hno g hg).elim, fun g hg => (hno g hg).elim, fun g hg => (hno g hg).elim, fun g hg => (hno g hg).elim, fun v hv => (by cases hv), fun v hv => (by cases hv)⟩, Nat.le_refl _, Nat.le_refl _, World.ownsRow_nil _ _ _ _, fun g hg => (hno g hg).elim, fun t x hx => by simp at hx, fun b hb' => ?_, hb.size⟩⟩
 rw [if_neg (by omega)]
theorem qts {W0 w : World} (hb : Below W0.heap.size W0 w) (bk : Blk w W0.heap.size 84 #[.slice none 0 0, .slice none 0 0, .slice none 0 0, .slice none 0 0, .slice none 0 0]) (s s2 : ByteArray) (T a0 a1 c0 c1 nm : Int) :
  Calls Tryz.prog 36 #[.pointer (some ⟨W0.heap.size, 0, none⟩), .agg #[.int .i64 1, .int .i64 T, .string s, .string s2, .int .i64 a0, .int .i64 a1, .int .i64 c0, .int .i64 c1, .int .i64 nm]] w fun e w' => e = .returned (.bool true) /\ At W0 1 w' := by
 have h1 := qs8 hb bk
 refine (qn7 (K := 0) h1 (fun x hx => by cases hx) (by simp) s s2 T a0 a1 c0 c1 nm).mono ?_
 rintro e w' ⟨hR, τ', tws', m2, m3, m1, m4⟩
 simp at m4
 exact ⟨hR.1, τ', tws', m2.mono (by omega), m3, by omega, by omega, hb.trans (qbh.low h1 m1)⟩
def OpOK (o : OpC) : Prop := (o.s.size <= 1048576 /\ o.s2.size <= 1048576 /\ -9223372036854775808 <= o.nm /\ o.nm <= 9223372036854775807) /\ -9223372036854775808 <= o.t /\ o.t <= 9223372036854775807
def qur (last : Int) : Prop := ∀ (W0 w : World) (k : Nat), k <= 1999999 -> At W0 k w -> ∀ (z T : Int) (s s2 : ByteArray) (a0 a1 c0 c1 nm : Int), z <= last -> s.size <= 2000000 -> s2.size <= 2000000 -> -9223372036854775808 <= T -> T <= 9223372036854775807 -> -9223372036854775808 <= nm -> nm <= 9223372036854775807 ->
  Calls Tryz.prog 36 #[.pointer (some ⟨W0.heap.size, 0, none⟩), .agg #[.int .i64 z, .int .i64 T, .string s, .string s2, .int .i64 a0, .int .i64 a1, .int .i64 c0, .int .i64 c1, .int .i64 nm]] w fun e w' => e = .returned (.bool true) /\ At W0 (k + 1) w'
theorem qqh (last : Int) (hst : qur last) (h4 : 4 <= last) {W : World} {ao : Option Addr} {len cap : Nat} (hl : len <= cap) (hm : cap <= maxLen) {O : Nat -> OpC} (hS : qfd W ao len O) (hlen : len <= 1048576) (hO : ∀ i, i < len -> OpOK (O i)) :
  Calls Tryz.prog 14 #[.slice ao len cap, .int .i64 last] W fun e w' => e = .returned (.bool true) /\ Below W.heap.size W w' := by
 refine qnl hl hm hS last (A := At W) (fun w h1 h2 => qts h1 h2 _ _ _ _ _ _ _ _) (fun w h => ?_) (fun w h => ?_) (fun i hi hk w h => ?_) (fun i hi w h => ?_) (fun i w h => h.low)
 ·exact hst W w 1 (by omega) h 3 0 ⟨#[97]⟩ ⟨#[]⟩ 10 10 5 0 0 (by omega) (by decide) (by decide) (by omega) (by omega) (by omega) (by omega)
 ·exact hst W w 2 (by omega) h 4 0 ⟨#[97]⟩ ⟨#[]⟩ 0 0 0 0 0 (by omega) (by decide) (by decide) (by omega) (by omega) (by omega) (by omega)
 ·obtain ⟨⟨o1, o2, o3, o4⟩, o5, o6⟩ := hO i hi
  exact hst W w (3 + i) (by omega) h _ _ _ _ _ _ _ _ _ hk (by omega) (by omega) o5 o6 o3 o4
 ·exact qvd (by omega) h
end Go.Proofs.YtphclnolomgjoaaGreatDoor
