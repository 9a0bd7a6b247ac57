import Derived.Test.YtphclnolomgjoaaGreatDoorC19
import Derived.Test.YtphclnolomgjoaaGreatDoorC20
import Derived.Test.YtphclnolomgjoaaGreatDoorC06
import Derived.Deep.RegionLaw
import Derived.Test.YtphclnolomgjoaaGreatDoorC29
set_option linter.unusedVariables false
set_option linter.unusedSimpArgs false
namespace Go.Proofs.YtphclnolomgjoaaGreatDoor
open Go.RowKit
set_option maxRecDepth 100000 in
set_option maxHeartbeats 2000000 in
theorem qtt {w : World} {bt : Nat} {r lst vw va : Value} {ws as_ : List Pw} (h : BkAt w bt r lst vw va ws as_) {i : Nat} {p : Pw} (hi : ws[i]? = some p) :
  Calls Tryz.prog 83 #[.pointer (some ⟨bt, 1, none⟩), nptr p.blk] w fun e w' => e = .returned (.tuple #[]) /\ ∃ vw', BkAt w' bt r lst vw' va (ws.take i ++ ws.drop (i + 1)) as_ /\ Keep (BkT bt vw va) w w' /\ vw'.ownBlock = vw.ownBlock := by
 have hpm := List.mem_of_getElem? hi
 have hpB := h.works p (List.mem_append_left _ hpm)
 have hlt := h.at_.lt
 have hlen := h.len
 have hwsl : ws.length <= 100 := by omega
 have hpa : p ∉ as_ := fun e => (List.nodup_append.1 h.nd).2.2 p hpm p e rfl
 have hwo := qb7 ⟨h.wrow, fun q hq => h.works q (List.mem_append_left _ hq)⟩ hwsl hpB (fun a ha e => h.inj a (List.mem_append_left _ ha) p (List.mem_append_left _ hpm) e) (List.nodup_append.1 h.nd).1
 have hnbw : vw.ownBlock ≠ some bt := qag h.wrow h.at_ (by decide)
 have hnba : va.ownBlock ≠ some bt := qag h.arow h.at_ (by decide)
 have c2 := h.at_.cell 2
 simp only [List.getElem?_toArray, List.getElem?_cons_zero, List.getElem?_cons_succ] at c2
 unfold nptr at hwo ⊢
 go_enter Tryz.func83, Tryz.ntmps83
 go_wp2_with fail
 refine hwo.mono ?_
 rintro e w1 (⟨hno, rfl, hB⟩ | ⟨i', v1, hi', rfl, hW1, hK1, hown1⟩)
 ·exact absurd hpm hno
 ·have hii : i' = i := (List.getElem?_inj (List.getElem?_eq_some_iff.1 hi').1 (List.nodup_append.1 h.nd).1).1 (hi'.trans hi.symm)
  subst hii
  have hat1 := h.at_.keep hK1 hnbw
  have f2 := hat1.frozen 2
  have k2 := hat1.cell 2
  have k3 := hat1.cell 3
  simp only [List.getElem?_toArray, List.getElem?_cons_zero, List.getElem?_cons_succ] at k2 k3
  have hat2 : Blk (w1.setCell ⟨bt, 2, none⟩ v1) bt 102 #[r, lst, v1, va] := by have := hat1.set 2 v1; simpa using this
  have har2 : (w1.setCell ⟨bt, 2, none⟩ v1).ownsRow 0 95 1 va as_.length (qay as_) := ownsRow_setCell_other (qab h.arow hK1 (fun g hg e => h.sep g e hg)) (fun e => hnba e) _
  have hwr2 : (w1.setCell ⟨bt, 2, none⟩ v1).ownsRow 0 95 1 v1 (ws.take i' ++ ws.drop (i' + 1)).length (qay (ws.take i' ++ ws.drop (i' + 1))) := ownsRow_setCell_other hW1.row (fun e => hnbw (by rw [<- hown1]; exact e)) _
  have hwk2 : ∀ q ∈ ws ++ as_, Blk (w1.setCell ⟨bt, 2, none⟩ v1) q.blk 105 q.cells := fun q hq => ((h.works q hq).keep hK1 (qag h.wrow (h.works q hq) (by decide))).other _ _ (fun e => by
   have h1 := h.works q hq
   rw [show q.blk = bt from e] at h1
   have := h1.symm.trans h.at_
   injection this with this
   injection this with _ h2 _
   exact absurd h2 (by decide))
  have hK2 : Keep (BkT bt vw va) w (w1.setCell ⟨bt, 2, none⟩ v1) := (hK1.mono (fun y e => .inr (.inl e))).setCell (p := ⟨bt, 2, none⟩) (.inl rfl) _
  have hbk2 : BkAt (w1.setCell ⟨bt, 2, none⟩ v1) bt r lst v1 va (ws.take i' ++ ws.drop (i' + 1)) as_ := by
   have hmem : ∀ q, q ∈ (ws.take i' ++ ws.drop (i' + 1)) ++ as_ -> q ∈ ws ++ as_ := fun q hq => (List.mem_append.1 hq).elim (fun e => List.mem_append_left _ (qbb e)) (fun e => List.mem_append_right _ e)
   have hsub : List.Sublist ((ws.take i' ++ ws.drop (i' + 1)) ++ as_) (ws ++ as_) := by
    refine List.Sublist.append ?_ (List.Sublist.refl _)
    have := qeb hi
    conv => rhs; rw [this]
    exact List.Sublist.append (List.Sublist.refl _) (List.sublist_cons_self _ _)
   refine ⟨hat2, hwr2, har2, fun q hq => hwk2 q (hmem q hq), fun b hb => h.sep b (by rw [<- hown1]; exact hb), hsub.nodup h.nd, fun a ha b hb e => h.inj a (hmem a ha) b (hmem b hb) e, ?_⟩
   have := hsub.length_le
   simp only [List.length_append] at this ⊢
   omega
  have hwo2 := qb7 ⟨hbk2.arow, fun q hq => hbk2.works q (List.mem_append_right _ hq)⟩ (by omega) (hwk2 p (List.mem_append_left _ hpm)) (fun a ha e => h.inj a (List.mem_append_right _ ha) p (List.mem_append_left _ hpm) e) (List.nodup_append.1 h.nd).2.1
  obtain ⟨a1, n1c, hv1, _, _⟩ := qbe hbk2.wrow
  obtain ⟨a2, n2c, hv2, _, _⟩ := qbe hbk2.arow
  have hvF1 : ∃ n1, v1 = .slice a1 n1 n1c := ⟨_, hv1⟩
  have hvF2 : ∃ n2, va = .slice a2 n2 n2c := ⟨_, hv2⟩
  have hpost : ∀ w2, Below (w1.setCell ⟨bt, 2, none⟩ v1).heap.size (w1.setCell ⟨bt, 2, none⟩ v1) w2 -> Blk w2 bt 102 #[r, lst, v1, va] /\ Hid (BkAt (w2.setCell ⟨bt, 3, none⟩ va) bt r lst v1 va (ws.take i' ++ ws.drop (i' + 1)) as_ /\ Keep (BkT bt vw va) w (w2.setCell ⟨bt, 3, none⟩ va)) := by
   intro w2 hB
   have hat3 := hat2.below hB hat2.lt
   have hb3 := hbk2.keep (T := fun _ => False) (Keep.new hB) id (fun _ _ => id) (fun _ _ => id) (fun _ _ => id)
   refine ⟨hat3, ⟨?_, ?_, ?_, ?_, hb3.sep, hb3.nd, hb3.inj, hb3.len⟩, (hK2.qc5 hB).setCell (p := ⟨bt, 3, none⟩) (.inl rfl) _⟩
   ·have := hat3.set 3 va
    simpa using this
   ·exact ownsRow_setCell_other hb3.wrow (fun e => hnbw (by rw [<- hown1]; exact e)) _
   ·exact ownsRow_setCell_other hb3.arow (fun e => hnba e) _
   ·exact fun q hq => (hb3.works q hq).other _ _ (qax (hb3.works q hq) hat3 (by decide))
  clear h hW1 har2 hwr2 hwk2 hK2 hbk2 hwo hv1 hv2
  obtain ⟨n1, rfl⟩ := hvF1
  obtain ⟨n2, rfl⟩ := hvF2
  unfold nptr at hwo2
  go_wp2_with fail
  refine hwo2.mono ?_
  rintro e w2 (⟨_, rfl, hB⟩ | ⟨i', v2, hi2, _⟩)
  ·obtain ⟨hat3, hp⟩ := hpost w2 hB
   have f3 := hat3.frozen 3
   have hcc := hat3.cell 3
   simp only [List.getElem?_toArray, List.getElem?_cons_zero, List.getElem?_cons_succ] at hcc
   clear hpost hwo2
   go_wp2_with fail
   go_end0
   exact ⟨rfl, _, hp.out.1, hp.out.2, hown1⟩
  ·exact absurd (List.mem_of_getElem? hi2) hpa
set_option maxRecDepth 100000 in
set_option maxHeartbeats 2000000 in
theorem qtv {w : World} {bt : Nat} {r lst vw va : Value} {ws as_ : List Pw} (h : BkAt w bt r lst vw va ws as_) {i : Nat} {p : Pw} (hi : as_[i]? = some p) :
  Calls Tryz.prog 83 #[.pointer (some ⟨bt, 1, none⟩), nptr p.blk] w fun e w' => e = .returned (.tuple #[]) /\ ∃ va', BkAt w' bt r lst vw va' ws (as_.take i ++ as_.drop (i + 1)) /\ Keep (BkT bt vw va) w w' /\ va'.ownBlock = va.ownBlock := by
 have hpm := List.mem_of_getElem? hi
 have hpB := h.works p (List.mem_append_right _ hpm)
 have hlt := h.at_.lt
 have hlen := h.len
 have hwsl : ws.length <= 100 := by omega
 have hpw : p ∉ ws := fun e => (List.nodup_append.1 h.nd).2.2 p e p hpm rfl
 have hwo := qb7 ⟨h.wrow, fun q hq => h.works q (List.mem_append_left _ hq)⟩ hwsl hpB (fun a ha e => h.inj a (List.mem_append_left _ ha) p (List.mem_append_right _ hpm) e) (List.nodup_append.1 h.nd).1
 have hnbw : vw.ownBlock ≠ some bt := qag h.wrow h.at_ (by decide)
 have hnba : va.ownBlock ≠ some bt := qag h.arow h.at_ (by decide)
 have c2 := h.at_.cell 2
 simp only [List.getElem?_toArray, List.getElem?_cons_zero, List.getElem?_cons_succ] at c2
 obtain ⟨a1, n1c, hv1, _, _⟩ := qbe h.wrow
 have hvF1 : ∃ n1, vw = .slice a1 n1 n1c := ⟨_, hv1⟩
 clear hv1
 unfold nptr at hwo ⊢
 go_enter Tryz.func83, Tryz.ntmps83
 go_wp2_with fail
 refine hwo.mono ?_
 rintro e w1 (⟨_, rfl, hB⟩ | ⟨i', v2, hi2, _⟩)
 ·have hat1 := h.at_.below hB hlt
  have f2 := hat1.frozen 2
  have k2 := hat1.cell 2
  have k3 := hat1.cell 3
  simp only [List.getElem?_toArray, List.getElem?_cons_zero, List.getElem?_cons_succ] at k2 k3
  have hb1 := h.keep (T := fun _ => False) (Keep.new hB) id (fun _ _ => id) (fun _ _ => id) (fun _ _ => id)
  have hK1 : Keep (BkT bt vw va) w (w1.setCell ⟨bt, 2, none⟩ vw) := (Keep.new (T := BkT bt vw va) hB).setCell (p := ⟨bt, 2, none⟩) (.inl rfl) _
  have hb2 : BkAt (w1.setCell ⟨bt, 2, none⟩ vw) bt r lst vw va ws as_ := by
   refine ⟨?_, ownsRow_setCell_other hb1.wrow (fun e => hnbw e) _, ownsRow_setCell_other hb1.arow (fun e => hnba e) _, fun q hq => (hb1.works q hq).other _ _ (qax (hb1.works q hq) hat1 (by decide)), h.sep, h.nd, h.inj, h.len⟩
   have := hat1.set 2 vw
   simpa using this
  have hwo2 := qb7 ⟨hb2.arow, fun q hq => hb2.works q (List.mem_append_right _ hq)⟩ (by omega) (hb2.works p (List.mem_append_right _ hpm)) (fun a ha e => h.inj a (List.mem_append_right _ ha) p (List.mem_append_right _ hpm) e) (List.nodup_append.1 h.nd).2.1
  have hpost : ∀ w2 v1, WRow w2 v1 (as_.take i ++ as_.drop (i + 1)) -> Keep (fun y => va.ownBlock = some y) (w1.setCell ⟨bt, 2, none⟩ vw) w2 -> v1.ownBlock = va.ownBlock -> Blk w2 bt 102 #[r, lst, vw, va] /\ (∃ a n c, v1 = .slice a n c) /\ Hid (BkAt (w2.setCell ⟨bt, 3, none⟩ v1) bt r lst vw v1 ws (as_.take i ++ as_.drop (i + 1)) /\ Keep (BkT bt vw va) w (w2.setCell ⟨bt, 3, none⟩ v1)) := by
   intro w2 v1 hW hk ho
   have hat3 := hb2.at_.keep hk hnba
   have hmem : ∀ q, q ∈ ws ++ (as_.take i ++ as_.drop (i + 1)) -> q ∈ ws ++ as_ := fun q hq => (List.mem_append.1 hq).elim (fun e => List.mem_append_left _ e) (fun e => List.mem_append_right _ (qbb e))
   have hsub : List.Sublist (ws ++ (as_.take i ++ as_.drop (i + 1))) (ws ++ as_) := by
    refine List.Sublist.append (List.Sublist.refl _) ?_
    have := qeb hi
    conv => rhs; rw [this]
    exact List.Sublist.append (List.Sublist.refl _) (List.sublist_cons_self _ _)
   have hwk : ∀ q ∈ ws ++ as_, Blk w2 q.blk 105 q.cells := fun q hq => (hb2.works q hq).keep hk (qag hb2.arow (hb2.works q hq) (by decide))
   obtain ⟨a, c, hv, _, _⟩ := qbe hW.row
   refine ⟨hat3, ⟨a, _, c, hv⟩, ⟨?_, ?_, ?_, ?_, ?_, ?_, ?_, ?_⟩, (hK1.qbo hk (fun b _ e => .inr (.inr e))).setCell (p := ⟨bt, 3, none⟩) (.inl rfl) _⟩
   ·have := hat3.set 3 v1
    simpa using this
   ·exact ownsRow_setCell_other (qab hb2.wrow hk (fun g hg e => h.sep g hg e)) (fun e => hnbw e) _
   ·exact ownsRow_setCell_other hW.row (fun e => hnba (by rw [<- ho]; exact e)) _
   ·exact fun q hq => (hwk q (hmem q hq)).other _ _ (qax (hwk q (hmem q hq)) hat3 (by decide))
   ·exact fun b hb e => h.sep b hb (by rw [<- ho]; exact e)
   ·exact hsub.nodup h.nd
   ·exact fun a ha b hb e => h.inj a (hmem a ha) b (hmem b hb) e
   ·have := hsub.length_le
    simp only [List.length_append] at this ⊢
    omega
  have hnd2 := (List.nodup_append.1 h.nd).2.1
  clear h hb1 hb2 hK1 hwo
  obtain ⟨n1, rfl⟩ := hvF1
  unfold nptr at hwo2
  go_wp2_with fail
  refine hwo2.mono ?_
  rintro e w2 (⟨hno, _, _⟩ | ⟨i', v1, hi', rfl, hW1, hk1, hown1⟩)
  ·exact absurd hpm hno
  ·have hii : i' = i := (List.getElem?_inj (List.getElem?_eq_some_iff.1 hi').1 hnd2).1 (hi'.trans hi.symm)
   subst hii
   obtain ⟨hat3, ⟨a, n, c, rfl⟩, hp⟩ := hpost w2 v1 hW1 hk1 hown1
   have f3 := hat3.frozen 3
   have hcc := hat3.cell 3
   simp only [List.getElem?_toArray, List.getElem?_cons_zero, List.getElem?_cons_succ] at hcc
   clear hpost hwo2 hW1
   go_wp2_with fail
   go_end0
   exact ⟨rfl, _, hp.out.1, hp.out.2, hown1⟩
 ·exact absurd (List.mem_of_getElem? hi2) hpw
set_option maxRecDepth 100000 in
set_option maxHeartbeats 2000000 in
theorem qm4 {w : World} {bt : Nat} {r vw va : Value} {last : Int} {ws as_ : List Pw} (h : BkAt w bt r (.int .i64 last) vw va ws as_) (hl : ws.length + as_.length < 24) (h0 : 0 <= last) (h1 : last <= 2000000) (q : Nat) (x : Wk) (hx : x.num = last + 1) :
  Calls Tryz.prog 100 #[.pointer (some ⟨bt, 1, none⟩), .pointer (some ⟨q, 0, none⟩), .agg #[.int .i64 x.d0, .int .i64 x.d1]] w fun e w' => e = .returned (.int .i64 (last + 1)) /\ ∃ vw', BkAt w' bt r (.int .i64 (last + 1)) vw' va (ws ++ [⟨w.heap.size + 1, x, q⟩]) as_ /\ Keep (BkT bt vw va) w w' /\ (∀ b, vw'.ownBlock = some b -> vw.ownBlock = some b \/ w.heap.size <= b) := by
 have hnbw : vw.ownBlock ≠ some bt := qag h.wrow h.at_ (by decide)
 have hnba : va.ownBlock ≠ some bt := qag h.arow h.at_ (by decide)
 have hlt := h.at_.lt
 obtain ⟨a1, n1c, hv1, hle1, hmx1⟩ := qbe h.wrow
 have c1 := h.at_.cell 1
 have c2 := h.at_.cell 2
 have f1 := h.at_.frozen 1
 simp only [List.getElem?_toArray, List.getElem?_cons_zero, List.getElem?_cons_succ] at c1 c2
 have n0 : ¬ (bt = w.heap.size) := by omega
 have n1 : ¬ (bt = w.heap.size + 1) := by omega
 have n2 : ¬ (bt = w.heap.size + 1 + 1) := by omega
 have m0 : ¬ (w.heap.size = bt) := by omega
 have m1 : ¬ (w.heap.size + 1 = bt) := by omega
 have m2 : ¬ (w.heap.size + 1 + 1 = bt) := by omega
 go_enter Tryz.func100, Tryz.ntmps100
 go_upto_region 2 with fail
 have hx' : Value.int .i64 (last + 1) = .int .i64 x.num := by rw [hx]
 have hb1 : BkAt (w.setCell ⟨bt, 1, none⟩ (.int .i64 (last + 1))) bt r (.int .i64 (last + 1)) vw va ws as_ := by
  refine ⟨?_, ownsRow_setCell_other h.wrow (fun e => hnbw e) _, ownsRow_setCell_other h.arow (fun e => hnba e) _, fun q hq => (h.works q hq).other _ _ (qax (h.works q hq) h.at_ (by decide)), h.sep, h.nd, h.inj, h.len⟩
  have := h.at_.set 1 (.int .i64 (last + 1))
  simpa using this
 have hs1 : (w.setCell ⟨bt, 1, none⟩ (.int .i64 (last + 1))).heap.size = w.heap.size := by simp
 have hB0 : Below (w.setCell ⟨bt, 1, none⟩ (.int .i64 (last + 1))).heap.size (w.setCell ⟨bt, 1, none⟩ (.int .i64 (last + 1))) ((w.setCell ⟨bt, 1, none⟩ (.int .i64 (last + 1))).alloc (.cells #[.int .i64 x.d0, .int .i64 x.d1] 35)) := (Below.refl _ _).alloc (Nat.le_refl _) _
 have hb2 := hb1.keep (T := fun _ => False) (Keep.new hB0) id (fun _ _ => id) (fun _ _ => id) (fun _ _ => id)
 have hat2 := hb2.at_
 have hk2 : Keep (BkT bt vw va) w ((w.setCell ⟨bt, 1, none⟩ (.int .i64 (last + 1))).alloc (.cells #[.int .i64 x.d0, .int .i64 x.d1] 35)) := ((Keep.refl (BkT bt vw va) w).setCell (p := ⟨bt, 1, none⟩) (.inl rfl) _).qc5 hB0
 have hd2 : Blk ((w.setCell ⟨bt, 1, none⟩ (.int .i64 (last + 1))).alloc (.cells #[.int .i64 x.d0, .int .i64 x.d1] 35)) w.heap.size 35 #[.int .i64 x.d0, .int .i64 x.d1] := by
  have := Blk.new (w.setCell ⟨bt, 1, none⟩ (.int .i64 (last + 1))) 35 #[.int .i64 x.d0, .int .i64 x.d1]
  rwa [hs1] at this
 have hs2 : ((w.setCell ⟨bt, 1, none⟩ (.int .i64 (last + 1))).alloc (.cells #[.int .i64 x.d0, .int .i64 x.d1] 35)).heap.size = w.heap.size + 1 := by simp
 clear hb1 hB0 hs1
 generalize ((w.setCell ⟨bt, 1, none⟩ (.int .i64 (last + 1))).alloc (.cells #[.int .i64 x.d0, .int .i64 x.d1] 35)) = W2 at hat2 hb2 hk2 hd2 hs2 ⊢
 have HS : Hid (W2.heap.size = w.heap.size + 1) := hs2
 have hbt2 := hat2.lt
 have hdt2 := hd2.lt
 have hap := fun (W : World) (hB : Below W2.heap.size W2 W) (nb : Nat) (hnb : Blk W nb 95 #[.pointer (some ⟨W2.heap.size, 0, none⟩)]) => qby un94 qvc (by omega) W vw ws.length (qay ws) (qab (T := fun _ => False) hb2.wrow (Keep.new hB) (fun _ _ e => e)) nb 1 1 (by omega) [.pointer (some ⟨W2.heap.size, 0, none⟩)] rfl hnb (fun u hu => by simp at hu; subst hu; rfl) (by unfold maxLen; omega) (by omega)
 have hpost : ∀ W, Below W2.heap.size W2 W -> Blk W W2.heap.size 105 #[.int .i64 (last + 1), .pointer (some ⟨q, 0, none⟩), .int .i64 x.d0, .int .i64 x.d1] -> ∀ g' cap' w', AppR W vw.ownBlock 95 1 (ws.length + 1) (qay ws ++ [.pointer (some ⟨W2.heap.size, 0, none⟩)]) g' cap' w' -> Blk w' bt 102 #[r, .int .i64 (last + 1), vw, va] /\ Blk w' w.heap.size 35 #[.int .i64 x.d0, .int .i64 x.d1] /\ Hid (∀ W3, Below (w'.setCell ⟨bt, 2, none⟩ (.slice (some ⟨g', 0, none⟩) (ws.length + 1) cap')).heap.size (w'.setCell ⟨bt, 2, none⟩ (.slice (some ⟨g', 0, none⟩) (ws.length + 1) cap')) W3 -> ∃ vw', BkAt W3 bt r (.int .i64 (last + 1)) vw' va (ws ++ [⟨w.heap.size + 1, x, q⟩]) as_ /\ Keep (BkT bt vw va) w W3 /\ (∀ b, vw'.ownBlock = some b -> vw.ownBlock = some b \/ w.heap.size <= b)) := by
  intro W hB hpB g' cap' w' R
  have hz := hB.size
  have hat3 := (hat2.below hB hat2.lt).keep R.keep hnbw
  have hnd : vw.ownBlock ≠ some w.heap.size := fun e => by
   have := qag hb2.wrow hd2 (by decide)
   exact this e
  have hnp : vw.ownBlock ≠ some W2.heap.size := fun e => by have := qal hb2.wrow e; omega
  have hd3 := (hd2.below hB hd2.lt).keep R.keep hnd
  have hp3 := hpB.keep R.keep hnp
  have hg' : g' ≠ bt := fun e => by
   rcases R.new with e2 | e2
   ·rw [e] at e2; exact hnbw e2
   ·omega
  have hgn : vw.ownBlock = some g' \/ W2.heap.size <= g' := R.new.imp id (fun e => by omega)
  have hkW : Keep (fun b => vw.ownBlock = some b) W2 w' := (Keep.new (T := fun b => vw.ownBlock = some b) hB).qbo R.keep (fun b _ e => e)
  refine ⟨hat3, hd3, fun W3 hW3 => ?_⟩
  have hcells : (⟨w.heap.size + 1, x, q⟩ : Pw).cells = #[.int .i64 (last + 1), .pointer (some ⟨q, 0, none⟩), .int .i64 x.d0, .int .i64 x.d1] := by
   simp [Pw.cells, nptr, hx]
  have hold : ∀ y ∈ ws ++ as_, Blk w' y.blk 105 y.cells /\ y.blk < W2.heap.size := fun y hy => ⟨(hb2.works y hy).keep hkW (qag hb2.wrow (hb2.works y hy) (by decide)), (hb2.works y hy).lt⟩
  have hall : ∀ y ∈ ws ++ [⟨w.heap.size + 1, x, q⟩] ++ as_, Blk w' y.blk 105 y.cells := fun y hy => by
   rcases List.mem_append.1 hy with e | e
   ·rcases List.mem_append.1 e with e | e
    ·exact (hold y (List.mem_append_left _ e)).1
    ·simp at e; subst e; rw [hcells, <- hs2]; exact hp3
   ·exact (hold y (List.mem_append_right _ e)).1
  have hbk : BkAt (w'.setCell ⟨bt, 2, none⟩ (.slice (some ⟨g', 0, none⟩) (ws.length + 1) cap')) bt r (.int .i64 (last + 1)) (.slice (some ⟨g', 0, none⟩) (ws.length + 1) cap') va (ws ++ [⟨w.heap.size + 1, x, q⟩]) as_ := by
   refine ⟨?_, ?_, ?_, ?_, ?_, ?_, ?_, ?_⟩
   ·have := hat3.set 2 (.slice (some ⟨g', 0, none⟩) (ws.length + 1) cap')
    simpa using this
   ·have : qay (ws ++ [⟨w.heap.size + 1, x, q⟩]) = qay ws ++ [.pointer (some ⟨W2.heap.size, 0, none⟩)] := by simp [qay, nptr, hs2]
    rw [this, show (ws ++ [(⟨w.heap.size + 1, x, q⟩ : Pw)]).length = ws.length + 1 by simp]
    exact ownsRow_setCell_other R.own (by simp [Value.ownBlock]; exact hg') _
   ·exact ownsRow_setCell_other (qab hb2.arow hkW (fun g hg e => hb2.sep g e hg)) (fun e => hnba e) _
   ·exact fun y hy => (hall y hy).other _ _ (qax (hall y hy) hat3 (by decide))
   ·intro b hb e
    simp [Value.ownBlock] at hb
    subst hb
    rcases hgn with e2 | e2
    ·exact hb2.sep _ e2 e
    ·have := qal hb2.arow e; omega
   ·have hnew : (⟨w.heap.size + 1, x, q⟩ : Pw) ∉ ws ++ as_ := fun e => by have := (hold _ e).2; simp at this; omega
    have : (ws ++ [(⟨w.heap.size + 1, x, q⟩ : Pw)] ++ as_).Perm ((⟨w.heap.size + 1, x, q⟩ : Pw) :: (ws ++ as_)) := by
     rw [List.append_assoc]; exact List.perm_middle
    rw [this.nodup_iff]
    exact List.nodup_cons.2 ⟨hnew, hb2.nd⟩
   ·have hcase : ∀ y ∈ ws ++ [⟨w.heap.size + 1, x, q⟩] ++ as_, y = ⟨w.heap.size + 1, x, q⟩ \/ y ∈ ws ++ as_ := fun y hy => by
     simp only [List.mem_append, List.mem_singleton] at hy ⊢
     rcases hy with (e | e) | e
     ·exact .inr (.inl e)
     ·exact .inl e
     ·exact .inr (.inr e)
    intro a ha b hb e
    rcases hcase a ha with ea | ea <;> rcases hcase b hb with eb | eb
    ·rw [ea, eb]
    ·have := (hold b eb).2; rw [ea] at e; simp at e; omega
    ·have := (hold a ea).2; rw [eb] at e; simp at e; omega
    ·exact hb2.inj a ea b eb e
   ·simp only [List.length_append, List.length_singleton]; omega
  refine ⟨_, hbk.keep (T := fun _ => False) (Keep.new hW3) id (fun _ _ => id) (fun _ _ => id) (fun _ _ => id), ((hk2.qbo hkW (fun b _ e => .inr (.inl e))).setCell (p := ⟨bt, 2, none⟩) (.inl rfl) _).qc5 hW3, fun b hb => ?_⟩
  simp [Value.ownBlock] at hb
  subst hb
  exact hgn.imp id (fun e => by omega)
 have e1 := hat2.cell 1
 have e2 := hat2.cell 2
 have e3 := hd2.cell 0
 have e4 := hd2.cell 1
 simp only [List.getElem?_toArray, List.getElem?_cons_zero, List.getElem?_cons_succ] at e1 e2 e3 e4
 generalize qay ws = pp at hap hpost
 rw [hv1] at e2
 have hbl := hat2.lt
 clear h hb2 hk2 c1 c2 f1 hat2
 generalize hn : ws.length = n at hap hpost e2 hv1 hle1
 clear hn hx' hle1 hmx1
 subst hv1
 have k0 : ¬ (bt = W2.heap.size) := by omega
 have k1 : ¬ (bt = W2.heap.size + 1) := by omega
 have k2 : ¬ (w.heap.size = W2.heap.size) := by omega
 have k3 : ¬ (w.heap.size = W2.heap.size + 1) := by omega
 clear n0 n1 n2 m0 m1 m2 hs2
 have nw1 := World.new_ne W2 ⟨bt, 1, none⟩ e1
 have nw3 := World.new_ne W2 ⟨w.heap.size, 0, none⟩ e3
 go_region_law (refine qau rfl (.tmp 18) (.tmp 27) 98 98 rfl _ _ ?_ ?_ (hap _ ?_ ?_ ?_) ?_; (focus (simp [Act.eval, Act.put])); (focus ((try simp [Act.eval, Act.put]); (try rfl))); (focus exact bel2); (focus exact blk2); rintro v1 w1 ⟨g1, q1, rfl, R1⟩; obtain ⟨hb1, hd1, hP1⟩ := hpost _ (by exact bel2) (by exact blk2) _ _ _ R1; have f2 := hb1.frozen 2; have hcc := hb1.cell 2; have hcl := hb1.cell 1; have hq1 := R1.le; have hq2 := R1.mx; simp only [List.getElem?_toArray, List.getElem?_cons_zero, List.getElem?_cons_succ] at hcc hcl)
 all_goals (go_wp2_with fail; go_ret; refine ⟨rfl, hP1.out _ ?_⟩; exact bel2)
theorem TwAt.qh0 {W : World} {nodes : List Node} {bt : Nat} {r : Node} {lst vw va : Value} {ws as_ : List Pw} (h : TwAt W nodes bt r lst vw va ws as_) : ∀ n ∈ nodes, ¬ BkT bt vw va n.blk /\ ∀ g, n.sl.ownBlock = some g -> ¬ BkT bt vw va g := fun n hn => by
 have hat : Blk W n.blk 136 n.cells := (h.ins n hn).at_
 have hrow := (h.ins n hn).row
 refine ⟨?_, fun g hg => ?_⟩
 ·rintro (e | e | e)
  ·exact qax hat h.bk.at_ (by decide) e
  ·exact qag h.bk.wrow hat (by decide) e
  ·exact qag h.bk.arow hat (by decide) e
 ·rintro (e | e | e)
  ·subst e; exact qag hrow h.bk.at_ (by decide) hg
  ·exact qdj hrow h.bk.wrow (by decide) hg e
  ·exact qdj hrow h.bk.arow (by decide) hg e
theorem TwAt.next {W W' : World} {nodes : List Node} {bt : Nat} {r : Node} {lst vw va lst' vw' va' : Value} {ws as_ ws' as' : List Pw} (h : TwAt W nodes bt r lst vw va ws as_) (h2 : BkAt W' bt (nptr r.blk) lst' vw' va' ws' as') (hk : Keep (BkT bt vw va) W W')
  (hm : ∀ p ∈ ws' ++ as', p ∈ ws ++ as_ \/ ((∃ n ∈ nodes, n.blk = p.q /\ n.key = p.x.key) /\ (0 <= p.x.d0 /\ p.x.d0 <= 1000) /\ (0 <= p.x.d1 /\ p.x.d1 <= 1000))) : TwAt W' nodes bt r lst' vw' va' ws' as' :=
 ⟨qel h.qh0 h.ins hk, h2, fun p hp => (hm p hp).elim (h.lf p) (fun e => e.1), fun p hp => (hm p hp).elim (h.nm p) (fun e => e.2)⟩
theorem qgw {nodes : List Node} {cnt : Nat} {s : Bs} {ok : Bool} (h : errWk nodes cnt s ok = 0) : ∃ n, findKey nodes (qaa s) = some n /\ n.leaf = true /\ ok = true /\ cnt < 24 := by
 unfold errWk at h
 split at h
 ·cases h
 ·split at h
  ·cases h
  ·rename_i n hn
   refine ⟨n, hn, ?_⟩
   cases hl : n.leaf <;> cases ok <;> simp [hl] at h <;> simp
   omega
set_option maxRecDepth 100000 in
set_option maxHeartbeats 2000000 in
theorem qpt {nodes : List Node} (T0 : Tree nodes) {w : World} {bt : Nat} {r : Node} {lst vw va : Value} {ws as_ : List Pw} (h : TwAt w nodes bt r lst vw va ws as_) (hr : r ∈ nodes) (hrk : r.key = []) (s : ByteArray) (hs : s.size <= 2000000) (a b : Int) (he : errWk nodes (ws.length + as_.length) (bl s) (qao a b) ≠ 0) :
  Calls Tryz.prog 59 #[.pointer (some ⟨bt, 0, none⟩), .string s, .agg #[.int .i64 a, .int .i64 b]] w fun e w' => e = .returned (.tuple #[.int .i64 0, .int .i64 (errWk nodes (ws.length + as_.length) (bl s) (qao a b))]) /\ Below w.heap.size w w' := by
 have href := fun W (hW : Below w.heap.size w W) => qez T0 (h.below hW) hr hrk s hs a b
 have hbt := h.bk.at_.lt
 generalize errWk nodes (ws.length + as_.length) (bl s) (qao a b) = err at *
 have hne : (err == 0) = false := by simp [he]
 have b0 : Blk (w.alloc (.cells #[.int .i64 a, .int .i64 b] 35)) w.heap.size 35 #[.int .i64 a, .int .i64 b] := Blk.new w 35 _
 have hcl := b0.cell
 go_enter Tryz.func59, Tryz.ntmps59
 go_wp2_with (first
  | (go_at_call 99; refine (href _ ?_).mono ?_; (focus exact bel2); rintro e w1 ⟨rfl, hb1⟩))
 exact bodyPost_ret (v := .tuple #[.int .i64 0, .int .i64 err]) (by simp [results, Tryz.results59, go_sem]) rfl ⟨rfl, qac (by exact bel2) hb1⟩
set_option maxRecDepth 100000 in
set_option maxHeartbeats 2000000 in
theorem qp0 {nodes : List Node} (T0 : Tree nodes) {w : World} {bt : Nat} {r : Node} {last : Int} {vw va : Value} {ws as_ : List Pw} (h : TwAt w nodes bt r (.int .i64 last) vw va ws as_) (h0 : 0 <= last) (h1 : last <= 2000000) (hr : r ∈ nodes) (hrk : r.key = []) (s : ByteArray) (hs : s.size <= 2000000) (a b : Int) {n : Node} (he : errWk nodes (ws.length + as_.length) (bl s) (qao a b) = 0) (hn : findKey nodes (qaa (bl s)) = some n) :
  Calls Tryz.prog 59 #[.pointer (some ⟨bt, 0, none⟩), .string s, .agg #[.int .i64 a, .int .i64 b]] w fun e w' => e = .returned (.tuple #[.int .i64 (last + 1), .int .i64 0]) /\ ∃ vw' k, w.heap.size <= k /\ TwAt w' nodes bt r (.int .i64 (last + 1)) vw' va (ws ++ [⟨k, ⟨last + 1, qaa (bl s), a, b, 0⟩, n.blk⟩]) as_ /\ Keep (BkT bt vw va) w w' /\ (∀ b, vw'.ownBlock = some b -> vw.ownBlock = some b \/ w.heap.size <= b) := by
 have href := fun W (hW : Below w.heap.size w W) => qez T0 (h.below hW) hr hrk s hs a b
 rw [he] at href
 obtain ⟨n', hn', hlf, hfr, hcn⟩ := qgw he
 obtain ⟨hnm, hnk⟩ := qbw hn
 have hfind := fun W (hW : Below w.heap.size w W) v hv => qfh T0 hr hrk s hs W (h.below hW).ins v hv
 rw [hn] at hfind
 have hsub := fun W (hW : Below w.heap.size w W) => qm4 (h.below hW).bk hcn h0 h1 n.blk ⟨last + 1, qaa (bl s), a, b, 0⟩ rfl
 have hbt := h.bk.at_.lt
 have htW : ∀ W, Below w.heap.size w W -> W.cell? ⟨bt, 0, none⟩ = some (nptr r.blk) := fun W (hW : Below w.heap.size w W) => (h.below hW).bk.at_.cell 0
 have b0 : Blk (w.alloc (.cells #[.int .i64 a, .int .i64 b] 35)) w.heap.size 35 #[.int .i64 a, .int .i64 b] := Blk.new w 35 _
 have hcl := b0.cell
 simp only [nptr] at hfind hsub htW
 clear he hn'
 have hout : ¬ BkT bt vw va w.heap.size := by
  rintro (e | e | e)
  ·omega
  ·have := qal h.bk.wrow e; omega
  ·have := qal h.bk.arow e; omega
 go_enter Tryz.func59, Tryz.ntmps59
 go_upto_region 4 with (first
  | (go_at_call 99; refine (href _ ?_).mono ?_; (focus exact bel2); rintro e w1 ⟨rfl, hb1⟩; have hB1 : Below w.heap.size w w1 := qac (by exact bel2) hb1; have b1 := b0.below hb1 (by simp); have ht1 := htW w1 hB1; have d0 := b1.cell 0; have d1 := b1.cell 1; simp only [List.getElem?_toArray, List.getElem?_cons_zero, List.getElem?_cons_succ] at d0 d1))
 go_region_held3 (fun w' => w'.cell? ⟨bt, 0, none⟩ = some (.pointer (some ⟨r.blk, 0, none⟩)) /\ w'.cell? ⟨w.heap.size, 0, none⟩ = some (.int .i64 a) /\ w'.cell? ⟨w.heap.size, 1, none⟩ = some (.int .i64 b)) (go_keep)
  (first
   | (go_at_call 63; refine (hfind _ ?_ (.pointer (some ⟨n.blk, 0, none⟩)) rfl).mono ?_; (focus exact hB1.drew); rintro e w2 ⟨rfl, hb2⟩; have hB2 : Below w.heap.size w w2 := qac hB1.drew hb2; have b2 := Blk.below (show Blk w1.drew w.heap.size 35 #[.int .i64 a, .int .i64 b] from b1) hb2 b1.lt; have ht2 := htW w2 hB2; have f0 := b2.cell 0; have f1 := b2.cell 1; simp only [List.getElem?_toArray, List.getElem?_cons_zero, List.getElem?_cons_succ] at f0 f1)
   | (go_at_call 100; refine (hsub _ hB2).mono ?_; rintro e w3 ⟨rfl, vw3, hk3, hK3, hN3⟩; have b3 := b2.keep hK3 hout; have ht3 := hk3.at_.cell 0; have g0 := b3.cell 0; have g1 := b3.cell 1; simp only [List.getElem?_toArray, List.getElem?_cons_zero, List.getElem?_cons_succ, nptr] at ht3 g0 g1))
 go_wp2_with fail
 have hz2 := hB2.size
 have hK : Keep (BkT bt vw va) w w3 := (Keep.new hB2).qbo hK3 (fun b hb e => e)
 refine bodyPost_ret (v := .tuple #[.int .i64 (last + 1), .int .i64 0]) (by simp [results, Tryz.results59, go_sem]) rfl ⟨rfl, vw3, w2.heap.size + 1, by omega, h.next hk3 hK (fun p hp => ?_), hK, fun b hb => ?_⟩
 ·rcases List.mem_append.1 hp with h1 | h1
  ·rcases List.mem_append.1 h1 with h2 | h2
   ·exact .inl (List.mem_append_left _ h2)
   ·simp only [List.mem_singleton] at h2
    subst h2
    refine .inr ⟨⟨n, hnm, rfl, hnk⟩, ?_⟩
    simp [qao] at hfr
    simp only
    omega
  ·exact .inl (List.mem_append_right _ h1)
 ·rcases hN3 b hb with e | e
  ·exact .inl e
  ·exact .inr (by omega)
end Go.Proofs.YtphclnolomgjoaaGreatDoor
