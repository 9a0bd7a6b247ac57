import Derived.Test.YtphclnolomgjoaaGreatDoorC06
import Derived.Test.YtphclnolomgjoaaGreatDoorC12
import Derived.Test.YtphclnolomgjoaaGreatDoorC11
set_option linter.unusedVariables false
set_option linter.unusedSimpArgs false
namespace Go.Proofs.YtphclnolomgjoaaGreatDoor
open Go.RowKit
set_option maxRecDepth 100000 in
set_option maxHeartbeats 4000000 in
theorem qp9 {w : World} {br g cap : Nat} {L : List Ent} {ao : Option Addr} {cW : Nat} {Ws : List Wk} {cnt st : Int} (h : GRef w br g cap L ao cW Ws cnt st) (E : Ents L) (EB : Bors L) (EW : Wks Ws) (x : Wk) (hx : WkOK x) :
  Calls Tryz.prog 200 #[.pointer (some ⟨br, 0, none⟩), .agg #[.int .i64 x.num, .string (sb (joinB x.key)), .int .i64 x.d0, .int .i64 x.d1, .int .i64 x.st]] w fun e w' => e = .returned (.int .i64 (optI (qch L Ws x))) /\ Below w.heap.size w w' := by
 have hbr := h.ref.at_.lt
 have hgl := (h.ref.row.lt g rfl).2
 have hL20 := E.len
 have hW24 := EW.len
 have hcap := h.ref.qjv
 obtain ⟨n, hn⟩ : ∃ n, n = Ws.length := ⟨_, rfl⟩
 obtain ⟨nL, hnL⟩ : ∃ nL, nL = L.length := ⟨_, rfl⟩
 have hc0 : w.cell? ⟨br, 0, none⟩ = some (.slice (some ⟨g, 0, none⟩) nL cap) := by have := h.ref.at_.cell 0; rw [hnL]; simpa using this
 have hc1 : w.cell? ⟨br, 1, none⟩ = some (.slice ao n cW) := by have := h.ref.at_.cell 1; rw [hn]; simpa using this
 rw [<- hn] at hW24
 rw [<- hnL] at hL20 hcap
 have HN : Hid (n = Ws.length) := hn
 have HL : Hid (nL = L.length) := hnL
 clear hn hnL
 have bx0 := hx.n0
 have bx1 := hx.n1
 unfold qch
 rw [<- HN.out]
 go_enter Tryz.func200, Tryz.ntmps200
 go_wp2
 go_loopw [5, 6] (fun bst j wr => ∃ k : Nat, k <= n /\ j = .int .i64 k /\ bst = .int .i64 (optI (qaq L Ws x k)) /\ Below w.heap.size w wr /\ Blk wr w.heap.size 178 #[.int .i64 x.num, .string (sb (joinB x.key)), .int .i64 x.d0, .int .i64 x.d1, .int .i64 x.st]) (fun _ j _ => n - (intOf j).toNat)
 case atStart => exact ⟨0, Nat.zero_le _, rfl, rfl, by exact bel2, by exact blk2⟩
 case round =>
  obtain ⟨k, hk, rfl, rfl, hbel, hb3⟩ := hrel
  have hd0 := (hbel.cell (p := ⟨br, 0, none⟩) hbr).trans hc0
  have hd1 := (hbel.cell (p := ⟨br, 1, none⟩) hbr).trans hc1
  by_cases hlt : k < n
  ·have hlt' : k < Ws.length := by rw [<- HN.out]; exact hlt
   obtain ⟨v, hv⟩ : ∃ v, Ws[k]? = some v := ⟨_, List.getElem?_eq_getElem hlt'⟩
   have HV : Hid (Ws[k]? = some v) := hv
   have hvm := List.mem_of_getElem? hv
   have hvok := EW.at_ hvm
   obtain ⟨b, hao, hbl, hcw1, hcw2, p0, p1, p2, p3, p4⟩ := (h.below hbel).wk hv
   have hbl0 : b < w.heap.size := qal h.wrow (by rw [hao]; rfl)
   subst hao
   rw [<- HN.out] at hcw1
   have HS : Hid (qaq L Ws x (k + 1) = (if skips Ws (qaq L Ws x k) v then qaq L Ws x k else if way L Ws x v then some k else qaq L Ws x k)) := by
    show _ = _
    rw [qda]; unfold qpe; rw [HV.out]
   have hki : (k : Int) < n := by omega
   have hki0 : (0 : Int) <= k := by omega
   have hbw : b < wr.heap.size := by have := hbel.size; omega
   have hbrw : br < wr.heap.size := by have := hbel.size; omega
   have l3 := hb3.lt
   have e1 : ¬ (b = wr.heap.size) := by omega
   have e2 : ¬ (br = wr.heap.size) := by omega
   have e3 : ¬ (w.heap.size = wr.heap.size) := by omega
   clear hv hvm
   obtain ⟨B, hB⟩ : ∃ B, B = optI (qaq L Ws x k) := ⟨_, rfl⟩
   rw [<- hB]
   have HB : Hid (B = optI (qaq L Ws x k)) := hB
   clear hB
   have hbst : Hid (∀ b0, qaq L Ws x k = some b0 -> b0 < n /\ wr.cell? ⟨b, b0 * 5 + 4, none⟩ = some (.int .i64 (stAt Ws b0))) := by
    show ∀ b0, qaq L Ws x k = some b0 -> b0 < n /\ wr.cell? ⟨b, b0 * 5 + 4, none⟩ = some (.int .i64 (stAt Ws b0))
    intro b0 hb0
    have hlt0 := (qen L Ws x k b0 hb0).2
    obtain ⟨y, hy⟩ : ∃ y, Ws[b0]? = some y := ⟨_, List.getElem?_eq_getElem hlt0⟩
    obtain ⟨b', hao', _, _, _, _, _, _, _, q4⟩ := (h.below hbel).wk hy
    injection hao' with hao'; injection hao' with hao'; subst hao'
    refine ⟨by rw [HN.out]; exact hlt0, ?_⟩
    rw [q4]; unfold stAt; rw [hy]
   by_cases hskip : skips Ws (qaq L Ws x k) v = true
   ·have hsk : Hid (qaq L Ws x (k + 1) = qaq L Ws x k) := by
     show _ = _
     rw [HS.out, if_pos hskip]
    clear HS
    have hst : (v.st == 0) = true \/ ((v.st == 0) = false /\ ∃ b0, qaq L Ws x k = some b0 /\ v.st < stAt Ws b0) := by
     unfold skips at hskip
     cases h0 : (v.st == 0)
     ·right
      refine ⟨rfl, ?_⟩
      rw [h0, Bool.false_or] at hskip
      split at hskip
      ·rename_i b0 hb0; exact ⟨b0, hb0, by simpa using hskip⟩
      ·cases hskip
     ·left; rfl
    clear hskip
    rcases hst with h0 | ⟨h0, b0, hb0, hlt2⟩
    ·go_wp2_with fail
     go_quiet (fail)
     go_wp2_with fail
     exact ⟨⟨k + 1, by omega, by go_num, by rw [hsk.out, HB.out], by exact bel2, by exact blk2⟩, by simp [intOf]; omega⟩
    ·obtain ⟨hb0n, r4⟩ := hbst.out b0 hb0
     have hBb : B = (b0 : Int) := by rw [HB.out, hb0]; rfl
     subst hBb
     have hbi : (b0 : Int) < n := by omega
     have hbi0 : (0 : Int) <= b0 := by omega
     clear hb0
     go_wp2_with fail
     go_quiet (fail)
     go_wp2_with fail
     exact ⟨⟨k + 1, by omega, by go_num, by rw [hsk.out, HB.out], by exact bel2, by exact blk2⟩, by simp [intOf]; omega⟩
   ·have hsk : Hid (qaq L Ws x (k + 1) = (if way L Ws x v then some k else qaq L Ws x k)) := by
     show _ = _
     rw [HS.out, if_neg hskip]
    have hst : (v.st == 0) = false /\ ∀ b0, qaq L Ws x k = some b0 -> ¬ (v.st < stAt Ws b0) := by
     unfold skips at hskip
     simp only [Bool.not_eq_true, Bool.or_eq_false_iff] at hskip
     refine ⟨hskip.1, fun b0 hb0 hl => ?_⟩
     have h2 := hskip.2
     rw [hb0] at h2
     simp at h2
     omega
    obtain ⟨h0, hnl⟩ := hst
    have HNL : Hid (∀ b0, qaq L Ws x k = some b0 -> ¬ (v.st < stAt Ws b0)) := hnl
    clear hskip HS hnl
    have bv0 : Blk (wr.alloc (.cells #[.int .i64 v.num, .string (sb (joinB v.key)), .int .i64 v.d0, .int .i64 v.d1, .int .i64 v.st] 178)) wr.heap.size 178 #[.int .i64 v.num, .string (sb (joinB v.key)), .int .i64 v.d0, .int .i64 v.d1, .int .i64 v.st] := Blk.new wr 178 _
    have bx3 : Blk (wr.alloc (.cells #[.int .i64 v.num, .string (sb (joinB v.key)), .int .i64 v.d0, .int .i64 v.d1, .int .i64 v.st] 178)) w.heap.size 178 #[.int .i64 x.num, .string (sb (joinB x.key)), .int .i64 x.d0, .int .i64 x.d1, .int .i64 x.st] := by exact blk2
    have hB0 : Below wr.heap.size wr (wr.alloc (.cells #[.int .i64 v.num, .string (sb (joinB v.key)), .int .i64 v.d0, .int .i64 v.d1, .int .i64 v.st] 178)) := by exact bel2
    go_upto_region 6 with fail
    generalize (wr.alloc (.cells #[.int .i64 v.num, .string (sb (joinB v.key)), .int .i64 v.d0, .int .i64 v.d1, .int .i64 v.st] 178)) = W0 at bv0 bx3 hB0 ⊢
    have hz0 := hB0.size
    have lv := bv0.lt
    have y1 := (hB0.cell (p := ⟨br, 1, none⟩) hbrw).trans hd1
    have y4 := bv0.cell 4
    simp only [List.getElem?_toArray, List.getElem?_cons_zero, List.getElem?_cons_succ] at y4
    go_cut [50] from 31 to 50 (fun q wx => q = .bool false /\ ∃ m, wx = W0.drewN m)
    case first =>
     cases hvt : qaq L Ws x k with
     | none =>
      have hBb : B = -1 := by rw [HB.out, hvt]; rfl
      subst hBb
      go_quiet (fail)
      go_wp2_with fail
      go_meet
      exact ⟨rfl, _, rfl⟩
     | some b0 =>
      have hBb : B = (b0 : Int) := by rw [HB.out, hvt]; rfl
      subst hBb
      obtain ⟨hb0n, r4⟩ := hbst.out b0 hvt
      have r4' := (hB0.cell (p := ⟨b, b0 * 5 + 4, none⟩) hbw).trans r4
      have hnlt : ¬ (v.st < stAt Ws b0) := HNL.out b0 hvt
      have hbi : (b0 : Int) < n := by omega
      have hbi0 : (0 : Int) <= b0 := by omega
      generalize stAt Ws b0 = sb0 at r4 r4' hnlt
      clear hvt
      go_quiet (fail)
      go_wp2_with fail
      go_meet
      exact ⟨rfl, _, rfl⟩
    case rest =>
     obtain ⟨rfl, m, rfl⟩ := hcut
     have hvn := fun W (hW : Below w.heap.size w W) => qcr (h.ref.below hW) E (sb (joinB v.key)) hvok.small
     have hvu := fun W (hW : Below w.heap.size w W) => qe7 (h.below hW) EW (sb (joinB v.key)) hvok.small
     rw [qbi] at hvn hvu
     have hBw0 : Below w.heap.size w (W0.drewN m) := below_drewN (hbel.trans (hB0.mono hbel.size)) _
     have bvm : Blk (W0.drewN m) wr.heap.size 178 #[.int .i64 v.num, .string (sb (joinB v.key)), .int .i64 v.d0, .int .i64 v.d1, .int .i64 v.st] := by exact blk2
     have bxm : Blk (W0.drewN m) w.heap.size 178 #[.int .i64 x.num, .string (sb (joinB x.key)), .int .i64 x.d0, .int .i64 x.d1, .int .i64 x.st] := by exact blk2
     have hzm : W0.heap.size = (W0.drewN m).heap.size := by simp
     generalize W0.drewN m = W1 at hBw0 bvm bxm hzm ⊢
     have y11 := bvm.cell 1
     simp only [List.getElem?_toArray, List.getElem?_cons_zero, List.getElem?_cons_succ] at y11
     clear bv0 bx3 y1 y4 hd0 hd1 p0 p1 p2 p3 p4
     go_wp2_with fail
     refine (hvn _ hBw0).mono ?_
     rintro e w1 ⟨rfl, hb1⟩
     have hB1 : Below w.heap.size w w1 := hBw0.trans (hb1.mono (by omega))
     have bv1 : Blk w1 wr.heap.size 178 #[.int .i64 v.num, .string (sb (joinB v.key)), .int .i64 v.d0, .int .i64 v.d1, .int .i64 v.st] := bvm.below hb1 bvm.lt
     have bx1 : Blk w1 w.heap.size 178 #[.int .i64 x.num, .string (sb (joinB x.key)), .int .i64 x.d0, .int .i64 x.d1, .int .i64 x.st] := bxm.below hb1 bxm.lt
     have hz1 := hb1.size
     clear hb1 hvn bvm bxm y11
     have y12 := bv1.cell 1
     have l1v := bv1.lt
     have l1x := bx1.lt
     simp only [List.getElem?_toArray, List.getElem?_cons_zero, List.getElem?_cons_succ] at y12
     have ne1 : ¬ (wr.heap.size = w1.heap.size) := by omega
     go_wp2_with fail
     refine (hvu _ (by exact bel2)).mono ?_
     rintro e w2 ⟨rfl, hb2⟩
     have hB2 : Below w.heap.size w w2 := qac (by exact bel2) hb2
     have bv2 : Blk w2 wr.heap.size 178 #[.int .i64 v.num, .string (sb (joinB v.key)), .int .i64 v.d0, .int .i64 v.d1, .int .i64 v.st] := Blk.below (by exact blk2) hb2 (by first | omega | (simp; done) | (simp; omega))
     have bx2 : Blk w2 w.heap.size 178 #[.int .i64 x.num, .string (sb (joinB x.key)), .int .i64 x.d0, .int .i64 x.d1, .int .i64 x.st] := Blk.below (by exact blk2) hb2 (by first | omega | (simp; done) | (simp; omega))
     have bn2 : Blk w2 w1.heap.size 35 #[.int .i64 (es0 (qaf L (joinB v.key))), .int .i64 (es1 (qaf L (joinB v.key)))] := Blk.below (Blk.new' rfl) hb2 (by first | omega | (simp; done) | (simp; omega))
     have hz2 := hb2.size
     clear hvu bv1 bx1 y12
     have l2v := bv2.lt
     have l2x := bx2.lt
     have l2n := bn2.lt
     go_wp2_with fail
     have b33 : Blk (w2.alloc (.cells #[.int .i64 (ws0 (qae Ws (joinB v.key))), .int .i64 (ws1 (qae Ws (joinB v.key)))] 35)) w.heap.size 178 #[.int .i64 x.num, .string (sb (joinB x.key)), .int .i64 x.d0, .int .i64 x.d1, .int .i64 x.st] := by exact blk2
     have b73 : Blk (w2.alloc (.cells #[.int .i64 (ws0 (qae Ws (joinB v.key))), .int .i64 (ws1 (qae Ws (joinB v.key)))] 35)) wr.heap.size 178 #[.int .i64 v.num, .string (sb (joinB v.key)), .int .i64 v.d0, .int .i64 v.d1, .int .i64 v.st] := by exact blk2
     have b83 : Blk (w2.alloc (.cells #[.int .i64 (ws0 (qae Ws (joinB v.key))), .int .i64 (ws1 (qae Ws (joinB v.key)))] 35)) w1.heap.size 35 #[.int .i64 (es0 (qaf L (joinB v.key))), .int .i64 (es1 (qaf L (joinB v.key)))] := by exact blk2
     have b93 : Blk (w2.alloc (.cells #[.int .i64 (ws0 (qae Ws (joinB v.key))), .int .i64 (ws1 (qae Ws (joinB v.key)))] 35)) w2.heap.size 35 #[.int .i64 (ws0 (qae Ws (joinB v.key))), .int .i64 (ws1 (qae Ws (joinB v.key)))] := by exact blk2
     have hB3 : Below w.heap.size w (w2.alloc (.cells #[.int .i64 (ws0 (qae Ws (joinB v.key))), .int .i64 (ws1 (qae Ws (joinB v.key)))] 35)) := by exact bel2
     generalize (w2.alloc (.cells #[.int .i64 (ws0 (qae Ws (joinB v.key))), .int .i64 (ws1 (qae Ws (joinB v.key)))] 35)) = W3 at b33 b73 b83 b93 hB3 ⊢
     have hq8 : wr.heap.size <= w1.heap.size /\ w1.heap.size <= w2.heap.size := by
      refine ⟨by omega, ?_⟩
      simp at hz2; omega
     have hwr := hbel.size
     have b7x : ¬ (w.heap.size = wr.heap.size) := by omega
     clear hb2 hz2 hB2 hB1 bv2 bx2 bn2 hBw0 hzm hz1 hz0 l2v l2x l2n l1v l1x ne1 lv hb3
     have HW0 : Hid (∀ e, way0 L Ws x v e = (inB (joinB x.key) (joinB e.key) && (inB (joinB v.key) (joinB e.key) && (sh0 L Ws e x.d0 && (decide (ws0 (qae Ws (joinB v.key)) > es0 (qaf L (joinB v.key))) && decide (v.d0 > 0)))))) := fun e => rfl
     have HW1 : Hid (∀ e, way1 L Ws x v e = (inB (joinB x.key) (joinB e.key) && (inB (joinB v.key) (joinB e.key) && (sh1 L Ws e x.d1 && (decide (ws1 (qae Ws (joinB v.key)) > es1 (qaf L (joinB v.key))) && decide (v.d1 > 0)))))) := fun e => rfl
     generalize es0 (qaf L (joinB v.key)) = vn0 at *
     generalize es1 (qaf L (joinB v.key)) = vn1 at *
     generalize ws0 (qae Ws (joinB v.key)) = vu0 at *
     generalize ws1 (qae Ws (joinB v.key)) = vu1 at *
     have HK : Hid (∀ (bst : Int) (w' : World), Below w.heap.size w w' -> Blk w' w.heap.size 178 #[.int .i64 x.num, .string (sb (joinB x.key)), .int .i64 x.d0, .int .i64 x.d1, .int .i64 x.st] -> bst = (if way L Ws x v then (k : Int) else B) -> (∃ k_1 : Nat, k_1 <= n /\ Value.int .i64 ((k : Int) + 1) = Value.int .i64 k_1 /\ Value.int .i64 bst = Value.int .i64 (optI (qaq L Ws x k_1)) /\ Below w.heap.size w w' /\ Blk w' w.heap.size 178 #[.int .i64 x.num, .string (sb (joinB x.key)), .int .i64 x.d0, .int .i64 x.d1, .int .i64 x.st]) /\ n - (intOf (Value.int .i64 ((k : Int) + 1))).toNat < n - (intOf (Value.int .i64 (k : Int))).toNat) := by
      show ∀ (bst : Int) (w' : World), _
      intro bst w' q1 q2 q3
      refine ⟨⟨k + 1, by omega, by go_num, ?_, q1, q2⟩, by simp [intOf]; omega⟩
      rw [q3, hsk.out, HB.out]
      split <;> rfl
     clear hsk HB HNL hbst
     generalize wr.heap.size = gv at *
     generalize w1.heap.size = gn at *
     generalize w2.heap.size = gu at *
     clear hbel hB0 hbw hbrw l3 e1 e2 e3
     go_loopw [5, 10] (fun bst i w' => ∃ q : Nat, q <= nL /\ i = .int .i64 q /\ bst = .int .i64 (if (L.take q).any (fun e => way0 L Ws x v e || way1 L Ws x v e) then (k : Int) else B) /\ Below W3.heap.size W3 w') (fun _ i _ => nL - (intOf i).toNat)
     case atStart => exact ⟨0, Nat.zero_le _, rfl, by simp, Below.refl _ _⟩
     case round =>
      obtain ⟨q, hq, rfl, rfl, hbel4⟩ := hrel
      have hB4 := hB3.trans (hbel4.mono hB3.size)
      have f3 := b33.below hbel4 b33.lt
      have f7 := b73.below hbel4 b73.lt
      have f8 := b83.below hbel4 b83.lt
      have f9 := b93.below hbel4 b93.lt
      have hd0 := (hB4.cell (p := ⟨br, 0, none⟩) hbr).trans hc0
      by_cases hql : q < nL
      ·have hql' : q < L.length := by rw [<- HL.out]; exact hql
       obtain ⟨y, hy⟩ : ∃ y, L[q]? = some y := ⟨_, List.getElem?_eq_getElem hql'⟩
       have hym := List.mem_of_getElem? hy
       have HT : Hid ((L.take (q + 1)).any (fun e => way0 L Ws x v e || way1 L Ws x v e) = ((L.take q).any (fun e => way0 L Ws x v e || way1 L Ws x v e) || (way0 L Ws x v y || way1 L Ws x v y))) := by
        show _ = _
        rw [List.take_succ_eq_append_getElem hql', List.any_append]
        rw [List.getElem?_eq_getElem hql'] at hy; cases hy
        simp
       have pp0 := (h.ref.below hB4).ent hy (j := 0) (v := .string (sb (joinB y.key))) rfl
       simp only [Nat.add_zero] at pp0
       have hin1 := fun W => qk9 (sb (joinB x.key)) (sb (joinB y.key)) W hx.small (E.small hym)
       have hin2 := fun W => qk9 (sb (joinB v.key)) (sb (joinB y.key)) W hvok.small (E.small hym)
       rw [qbi, qbi] at hin1 hin2
       have hsh := fun W (hW : Below w.heap.size w W) => qlt (h.below hW) E EW hy (EB y hym) x.d0 x.d1 hx.n0 hx.n1
       have hw0 : Hid (way0 L Ws x v y = (inB (joinB x.key) (joinB y.key) && (inB (joinB v.key) (joinB y.key) && (sh0 L Ws y x.d0 && (decide (vu0 > vn0) && decide (v.d0 > 0)))))) := HW0.out y
       have hw1 : Hid (way1 L Ws x v y = (inB (joinB x.key) (joinB y.key) && (inB (joinB v.key) (joinB y.key) && (sh1 L Ws y x.d1 && (decide (vu1 > vn1) && decide (v.d1 > 0)))))) := HW1.out y
       have HQ : Hid (∀ (bst : Int) (w' : World), Below W3.heap.size W3 w' -> bst = (if way1 L Ws x v y then (k : Int) else if way0 L Ws x v y then (k : Int) else (if (L.take q).any (fun e => way0 L Ws x v e || way1 L Ws x v e) then (k : Int) else B)) -> (∃ q_1 : Nat, q_1 <= nL /\ Value.int .i64 ((q : Int) + 1) = Value.int .i64 q_1 /\ Value.int .i64 bst = Value.int .i64 (if (L.take q_1).any (fun e => way0 L Ws x v e || way1 L Ws x v e) then (k : Int) else B) /\ Below W3.heap.size W3 w') /\ nL - (intOf (Value.int .i64 ((q : Int) + 1))).toNat < nL - (intOf (Value.int .i64 (q : Int))).toNat) := by
        show ∀ (bst : Int) (w' : World), _
        intro bst w' h1 h2
        refine ⟨⟨q + 1, by omega, by go_num, ?_, h1⟩, by simp [intOf]; omega⟩
        rw [h2, HT.out]
        cases way1 L Ws x v y <;> cases way0 L Ws x v y <;> cases (L.take q).any (fun e => way0 L Ws x v e || way1 L Ws x v e) <;> rfl
       clear hy hym HT
       generalize (if (L.take q).any (fun e => way0 L Ws x v e || way1 L Ws x v e) then (k : Int) else B) = B2 at HQ ⊢
       generalize way0 L Ws x v y = k0 at hw0 HQ
       generalize way1 L Ws x v y = k1 at hw1 HQ
       generalize sh0 L Ws y x.d0 = s0 at hsh hw0
       generalize sh1 L Ws y x.d1 = s1 at hsh hw1
       generalize inB (joinB x.key) (joinB y.key) = ab at hin1 hw0 hw1
       generalize inB (joinB v.key) (joinB y.key) = bo at hin2 hw0 hw1
       generalize sb (joinB y.key) = py at pp0 hin1 hin2
       have z1 := f3.cell 1
       have z2 := f3.cell 2
       have z3 := f3.cell 3
       have z4 := f7.cell 1
       have m3 := f3.lt
       have m7 := f7.lt
       have m8 := f8.lt
       have m9 := f9.lt
       simp only [List.getElem?_toArray, List.getElem?_cons_zero, List.getElem?_cons_succ] at z1 z2 z3 z4
       have hqi : (q : Int) < nL := by omega
       have hqi0 : (0 : Int) <= q := by omega
       go_wp2_with fail
       go_quiet ((go_at_call 121; exact Calls.quiet_of_same (hin1 _)))
       have hBq : Below W3.heap.size W3 (wr.drewN nq) := below_drewN hbel4 _
       generalize wr.drewN nq = wq at hBq ⊢
       have hB5 := hB3.trans (hBq.mono hB3.size)
       have g3 := b33.below hBq b33.lt
       have g7 := b73.below hBq b73.lt
       have g8 := b83.below hBq b83.lt
       have g9 := b93.below hBq b93.lt
       have gd0 := (hB5.cell (p := ⟨br, 0, none⟩) hbr).trans hc0
       have gp0 : wq.cell? ⟨g, q * 6, none⟩ = some (.string py) := (hB5.cell (p := ⟨g, q * 6, none⟩) hgl).trans ((hB4.cell (p := ⟨g, q * 6, none⟩) hgl).symm.trans pp0)
       clear f3 f7 f8 f9 hd0 pp0 z1 z2 z3 z4 m3 m7 m8 m9 hbel4
       have z1 := g3.cell 1
       have z2 := g3.cell 2
       have z3 := g3.cell 3
       have z4 := g7.cell 1
       have m3 := g3.lt
       have m7 := g7.lt
       have m8 := g8.lt
       have m9 := g9.lt
       simp only [List.getElem?_toArray, List.getElem?_cons_zero, List.getElem?_cons_succ] at z1 z2 z3 z4
       go_wp2_with fail
       go_quiet ((go_at_call 121; exact Calls.quiet_of_same (hin2 _)))
       go_wp2_with fail
       refine (hsh _ (below_drewN hB5 _)).mono ?_
       rintro e w5 ⟨rfl, hb5⟩
       have hB6 : Below W3.heap.size W3 w5 := qac (below_drewN hBq _) hb5
       have hz5 := hB6.size
       clear hb5 hsh hin1 hin2 g3 g7 g8 g9 gd0 gp0 z1 z2 z3 z4 m3 m7 m8 m9 hB5 hBq
       go_wp2_with fail
       have c5 : Blk (w5.alloc (.cells #[.bool s0, .bool s1] 242)) w5.heap.size 242 #[.bool s0, .bool s1] := Blk.new w5 242 _
       have hB7 : Below W3.heap.size W3 (w5.alloc (.cells #[.bool s0, .bool s1] 242)) := by exact bel2
       generalize (w5.alloc (.cells #[.bool s0, .bool s1] 242)) = W5 at c5 hB7 ⊢
       have c3 := b33.below hB7 b33.lt
       have c7 := b73.below hB7 b73.lt
       have c8 := b83.below hB7 b83.lt
       have c9 := b93.below hB7 b93.lt
       obtain ⟨bb, hbb⟩ : ∃ bb : Nat -> Int, bb = fun r => if r = 0 then B2 else if r = 1 then (if k0 then (k : Int) else B2) else (if k1 then (k : Int) else if k0 then (k : Int) else B2) := ⟨_, rfl⟩
       have bb0 : bb 0 = B2 := by rw [hbb]; rfl
       have bb1 : bb 1 = (if k0 then (k : Int) else B2) := by rw [hbb]; rfl
       have bb2 : bb 2 = (if k1 then (k : Int) else if k0 then (k : Int) else B2) := by rw [hbb]; rfl
       clear hbb
       generalize w5.heap.size = gs at *
       rw [show (Value.int .i64 B2) = Value.int .i64 (bb 0) by rw [bb0]]
       go_loopw [5, 14] (fun bst j w' => ∃ r : Nat, r <= 2 /\ j = .int .i64 r /\ bst = .int .i64 (bb r) /\ Below W5.heap.size W5 w') (fun _ j _ => 2 - (intOf j).toNat)
       case atStart => exact ⟨0, by omega, rfl, rfl, Below.refl _ _⟩
       case round =>
        obtain ⟨r, hr, rfl, rfl, hbel6⟩ := hrel
        have u5 := c5.below hbel6 c5.lt
        have u7 := c7.below hbel6 c7.lt
        have u8 := c8.below hbel6 c8.lt
        have u9 := c9.below hbel6 c9.lt
        have HR0 : Hid (∀ (bst : Int) (w' : World), Below W5.heap.size W5 w' -> bst = bb 1 -> (∃ r_1 : Nat, r_1 <= 2 /\ Value.int .i64 1 = Value.int .i64 r_1 /\ Value.int .i64 bst = Value.int .i64 (bb r_1) /\ Below W5.heap.size W5 w') /\ 2 - (intOf (Value.int .i64 1)).toNat < 2 - (intOf (Value.int .i64 0)).toNat) := by
         show ∀ (bst : Int) (w' : World), _
         intro bst w' h1 h2
         exact ⟨⟨1, by omega, rfl, by rw [h2], h1⟩, by simp [intOf]⟩
        have HR1 : Hid (∀ (bst : Int) (w' : World), Below W5.heap.size W5 w' -> bst = bb 2 -> (∃ r_1 : Nat, r_1 <= 2 /\ Value.int .i64 2 = Value.int .i64 r_1 /\ Value.int .i64 bst = Value.int .i64 (bb r_1) /\ Below W5.heap.size W5 w') /\ 2 - (intOf (Value.int .i64 2)).toNat < 2 - (intOf (Value.int .i64 1)).toNat) := by
         show ∀ (bst : Int) (w' : World), _
         intro bst w' h1 h2
         exact ⟨⟨2, by omega, rfl, by rw [h2], h1⟩, by simp [intOf]⟩
        have hB8 := hB7.trans (hbel6.mono hB7.size)
        rcases (show r = 0 \/ r = 1 \/ r = 2 by omega) with rfl | rfl | rfl
        ·have y1 := u5.cell 0
         have y2 := u8.cell 0
         have y3 := u9.cell 0
         have y4 := u7.cell 2
         have o5 := u5.lt
         have o7 := u7.lt
         have o8 := u8.lt
         have o9 := u9.lt
         simp only [List.getElem?_toArray, List.getElem?_cons_zero, List.getElem?_cons_succ] at y1 y2 y3 y4
         have HV0 : Hid (bb 1 = (if k0 then (k : Int) else bb 0)) := by
          show _ = _
          rw [bb1, bb0]
         generalize bb 0 = Bc at HV0 ⊢
         cases ab
         ·go_wp2_with fail
          go_quiet (fail)
          go_wp2_with fail
          exact HR0.out _ _ (below_drewN hbel6 _) (by rw [HV0.out, show k0 = false by rw [hw0.out]; first | rfl | (simp; omega)]; rfl)
         ·cases bo
          ·go_wp2_with fail
           go_quiet (fail)
           go_wp2_with fail
           exact HR0.out _ _ (below_drewN hbel6 _) (by rw [HV0.out, show k0 = false by rw [hw0.out]; first | rfl | (simp; omega)]; rfl)
          ·cases s0
           ·go_wp2_with fail
            go_quiet (fail)
            go_wp2_with fail
            exact HR0.out _ _ (below_drewN hbel6 _) (by rw [HV0.out, show k0 = false by rw [hw0.out]; first | rfl | (simp; omega)]; rfl)
           ·by_cases t1 : vu0 > vn0
            ·by_cases t2 : v.d0 > 0
             ·go_wp2_with fail
              go_quiet (fail)
              go_wp2_with fail
              exact HR0.out _ _ (below_drewN hbel6 _) (by rw [HV0.out, show k0 = true by rw [hw0.out]; first | rfl | (simp; omega)]; rfl)
             ·go_wp2_with fail
              go_quiet (fail)
              go_wp2_with fail
              exact HR0.out _ _ (below_drewN hbel6 _) (by rw [HV0.out, show k0 = false by rw [hw0.out]; first | rfl | (simp; omega)]; rfl)
            ·have t3 : ¬ (vn0 < vu0) := t1
             have t4 : decide (vn0 < vu0) = false := decide_eq_false t3
             have t5 : vu0 <= vn0 := by omega
             go_wp2_with fail
             go_quiet (fail)
             go_wp2_with fail
             exact HR0.out _ _ (below_drewN hbel6 _) (by rw [HV0.out, show k0 = false by rw [hw0.out]; first | rfl | (simp; omega)]; rfl)
        ·have y1 := u5.cell 1
         have y2 := u8.cell 1
         have y3 := u9.cell 1
         have y4 := u7.cell 3
         have o5 := u5.lt
         have o7 := u7.lt
         have o8 := u8.lt
         have o9 := u9.lt
         simp only [List.getElem?_toArray, List.getElem?_cons_zero, List.getElem?_cons_succ] at y1 y2 y3 y4
         have HV1 : Hid (bb 2 = (if k1 then (k : Int) else bb 1)) := by
          show _ = _
          rw [bb2, bb1]
         generalize bb 1 = Bc at HV1 ⊢
         cases ab
         ·go_wp2_with fail
          go_quiet (fail)
          go_wp2_with fail
          exact HR1.out _ _ (below_drewN hbel6 _) (by rw [HV1.out, show k1 = false by rw [hw1.out]; first | rfl | (simp; omega)]; rfl)
         ·cases bo
          ·go_wp2_with fail
           go_quiet (fail)
           go_wp2_with fail
           exact HR1.out _ _ (below_drewN hbel6 _) (by rw [HV1.out, show k1 = false by rw [hw1.out]; first | rfl | (simp; omega)]; rfl)
          ·cases s1
           ·go_wp2_with fail
            go_quiet (fail)
            go_wp2_with fail
            exact HR1.out _ _ (below_drewN hbel6 _) (by rw [HV1.out, show k1 = false by rw [hw1.out]; first | rfl | (simp; omega)]; rfl)
           ·by_cases t1 : vu1 > vn1
            ·by_cases t2 : v.d1 > 0
             ·go_wp2_with fail
              go_quiet (fail)
              go_wp2_with fail
              exact HR1.out _ _ (below_drewN hbel6 _) (by rw [HV1.out, show k1 = true by rw [hw1.out]; first | rfl | (simp; omega)]; rfl)
             ·go_wp2_with fail
              go_quiet (fail)
              go_wp2_with fail
              exact HR1.out _ _ (below_drewN hbel6 _) (by rw [HV1.out, show k1 = false by rw [hw1.out]; first | rfl | (simp; omega)]; rfl)
            ·have t3 : ¬ (vn1 < vu1) := t1
             have t4 : decide (vn1 < vu1) = false := decide_eq_false t3
             have t5 : vu1 <= vn1 := by omega
             go_wp2_with fail
             go_quiet (fail)
             go_wp2_with fail
             exact HR1.out _ _ (below_drewN hbel6 _) (by rw [HV1.out, show k1 = false by rw [hw1.out]; first | rfl | (simp; omega)]; rfl)
        ·go_wp2_with fail
         exact HQ.out _ _ hB8 bb2
      ·have hqn : q = nL := by omega
       have HQ : Hid ((L.take q).any (fun e => way0 L Ws x v e || way1 L Ws x v e) = way L Ws x v) := by
        show _ = _
        rw [List.take_of_length_le (by have := HL.out; omega)]; rfl
       go_wp2_with fail
       exact HK.out _ _ hB4 f3 (by rw [HQ.out])
  ·have hkn : k = n := by omega
   subst hkn
   go_wp2
   go_ret
   exact ⟨rfl, hbel⟩
structure WkS (Ws : List Wk) (st : Int) : Prop where
 wks : Wks Ws
 nums : (Ws.map (·.num)).Nodup
 st : ∀ x ∈ Ws, 0 <= x.st /\ x.st <= st
 sts : ((Ws.filter fun x => decide (0 < x.st)).map (·.st)).Nodup
theorem qsw (x : Wk) (t : Int) : (x.adm t).key = x.key := rfl
theorem Wks.set {Ws : List Wk} (h : Wks Ws) {i : Nat} {x : Wk} (hi : Ws[i]? = some x) (t : Int) : Wks (Ws.set i (x.adm t)) := by
 have hx := List.mem_of_getElem? hi
 refine ⟨fun y hy => ?_, fun y hy => ?_, by rw [List.length_set]; exact h.len⟩
 ·rcases List.mem_or_eq_of_mem_set hy with hy | rfl
  ·exact h.ok y hy
  ·exact h.ok x hx
 ·rcases List.mem_or_eq_of_mem_set hy with hy | rfl
  ·exact h.num y hy
  ·exact h.num x hx
theorem qbg {Ws : List Wk} {i : Nat} {x : Wk} (hi : Ws[i]? = some x) : Ws.Perm (x :: (Ws.take i ++ Ws.drop (i + 1))) := by
 have hlt := (List.getElem?_eq_some_iff.1 hi).1
 have h1 : Ws = Ws.take i ++ x :: Ws.drop (i + 1) := by
  conv => lhs; rw [<- List.take_append_drop i Ws]
  rw [List.drop_eq_getElem_cons hlt]
  rw [List.getElem?_eq_getElem hlt] at hi; cases hi; rfl
 conv => lhs; rw [h1]
 exact List.perm_middle
theorem Wks.qis {Ws : List Wk} (h : Wks Ws) {i : Nat} {x : Wk} (hi : Ws[i]? = some x) (t : Int) : Wks (x.adm t :: (Ws.take i ++ Ws.drop (i + 1))) := by
 have hp := qbg hi
 have hx := List.mem_of_getElem? hi
 have hsub : ∀ y ∈ Ws.take i ++ Ws.drop (i + 1), y ∈ Ws := fun y hy => hp.mem_iff.2 (List.mem_cons_of_mem _ hy)
 have hlen := hp.length_eq
 refine ⟨fun y hy => ?_, fun y hy => ?_, by have := h.len; simp at hlen ⊢; omega⟩
 ·rcases List.mem_cons.1 hy with rfl | hy
  ·exact h.ok x hx
  ·exact h.ok y (hsub y hy)
 ·rcases List.mem_cons.1 hy with rfl | hy
  ·exact h.num x hx
  ·exact h.num y (hsub y hy)
def admN (Ws : List Wk) : Nat := (Ws.filter fun x => decide (0 < x.st)).length
theorem qje {Ws : List Wk} {i : Nat} {x : Wk} (hi : Ws[i]? = some x) (hx : 0 < x.st) : admN (x.adm 0 :: (Ws.take i ++ Ws.drop (i + 1))) + 1 = admN Ws := by
 have hp := (qbg hi).filter fun x => decide (0 < x.st)
 have h1 := hp.length_eq
 unfold admN
 rw [h1, List.filter_cons, List.filter_cons]
 simp [Wk.adm, hx]
theorem WkS.qis {Ws : List Wk} {st : Int} (h : WkS Ws st) {i : Nat} {x : Wk} (hi : Ws[i]? = some x) : WkS (x.adm 0 :: (Ws.take i ++ Ws.drop (i + 1))) st := by
 have hp := qbg hi
 have hx := List.mem_of_getElem? hi
 have hsub : ∀ y ∈ Ws.take i ++ Ws.drop (i + 1), y ∈ Ws := fun y hy => hp.mem_iff.2 (List.mem_cons_of_mem _ hy)
 refine ⟨h.wks.qis hi 0, ?_, fun y hy => ?_, ?_⟩
 ·have h1 := ((hp.map (·.num)).nodup_iff).1 h.nums
  exact h1
 ·rcases List.mem_cons.1 hy with rfl | hy
  ·exact ⟨Int.le_refl 0, Int.le_trans (h.st x hx).1 (h.st x hx).2⟩
  ·exact h.st y (hsub y hy)
 ·have h1 := (((hp.filter fun x => decide (0 < x.st)).map (·.st)).nodup_iff).1 h.sts
  rw [List.filter_cons] at h1 ⊢
  simp only [show decide (0 < (x.adm 0).st) = false from rfl, Bool.false_eq_true, if_false]
  split at h1
  ·simp only [List.map_cons, List.nodup_cons] at h1; exact h1.2
  ·exact h1
theorem WkS.admit {Ws : List Wk} {st : Int} (h : WkS Ws st) (h0 : 0 <= st) {i : Nat} {x : Wk} (hi : Ws[i]? = some x) (hx0 : x.st = 0) : WkS (Ws.set i (x.adm (st + 1))) (st + 1) := by
 have hlt := (List.getElem?_eq_some_iff.1 hi).1
 have hset : Ws.set i (x.adm (st + 1)) = Ws.take i ++ x.adm (st + 1) :: Ws.drop (i + 1) := List.set_eq_take_append_cons_drop .. |>.trans (by rw [if_pos hlt])
 have hp := qbg hi
 have hx := List.mem_of_getElem? hi
 refine ⟨h.wks.set hi _, ?_, fun y hy => ?_, ?_⟩
 ·have h1 : ((Ws.set i (x.adm (st + 1))).map (·.num)) = Ws.map (·.num) := by
   rw [List.map_set]
   apply List.ext_getElem?
   intro j
   rw [List.getElem?_set]
   split
   ·rename_i e; subst e
    rw [if_pos (by simpa using hlt), List.getElem?_map, hi]; rfl
   ·rfl
  rw [h1]; exact h.nums
 ·rcases List.mem_or_eq_of_mem_set hy with hy | rfl
  ·have := h.st y hy; omega
  ·simp [Wk.adm]; omega
 ·have hq : (Ws.set i (x.adm (st + 1))).Perm (x.adm (st + 1) :: (Ws.take i ++ Ws.drop (i + 1))) := by rw [hset]; exact List.perm_middle
  refine (((hq.filter fun x => decide (0 < x.st)).map (·.st)).nodup_iff).2 ?_
  have h1 := (((hp.filter fun x => decide (0 < x.st)).map (·.st)).nodup_iff).1 h.sts
  rw [List.filter_cons] at h1 ⊢
  rw [if_neg (by simp [hx0])] at h1
  rw [if_pos (show decide (0 < (x.adm (st + 1)).st) = true from decide_eq_true (show (0 : Int) < st + 1 by omega))]
  simp only [List.map_cons, List.nodup_cons]
  refine ⟨fun hm => ?_, h1⟩
  obtain ⟨y, hy, he⟩ := List.mem_map.1 hm
  have hy2 := hp.mem_iff.2 (List.mem_cons_of_mem _ (List.mem_filter.1 hy).1)
  have := (h.st y hy2).2
  simp [Wk.adm] at he
  omega
theorem qa5 (L : List Ent) (Ws : List Wk) (x : Wk) : ∀ n b, qaq L Ws x n = some b -> ∃ v, Ws[b]? = some v /\ v.st ≠ 0 /\ way L Ws x v = true
 | 0, b, h => by simp [qaq] at h
 | n + 1, b, h => by
  rw [qda] at h
  unfold qpe at h
  split at h
  ·rename_i v hv
   split at h
   ·exact qa5 L Ws x n b h
   ·rename_i hs
    split at h
    ·rename_i hw
     simp at h; subst h
     refine ⟨v, hv, fun e => hs ?_, hw⟩
     unfold skips; simp [e]
    ·exact qa5 L Ws x n b h
  ·exact qa5 L Ws x n b h
structure MS where
 Ws : List Wk
 evs : List (Int × Int)
def roomStep (L : List Ent) (x : Wk) (s : MS) : Option MS :=
 if qbm L s.Ws x then none else match qch L s.Ws x with
  | none => none
  | some i => match s.Ws[i]? with
   | some v => some ⟨v.adm 0 :: (s.Ws.take i ++ s.Ws.drop (i + 1)), s.evs ++ [(2, v.num)]⟩
   | none => none
def room (L : List Ent) (x : Wk) : Nat -> MS -> MS
 | 0, s => s
 | n + 1, s => match roomStep L x s with
  | none => s
  | some s' => room L x n s'
theorem qmc {L : List Ent} {x : Wk} {s s' : MS} {st : Int} (hS : WkS s.Ws st) (h : roomStep L x s = some s') : admN s'.Ws + 1 = admN s.Ws /\ WkS s'.Ws st /\ s'.Ws.length = s.Ws.length := by
 unfold roomStep at h
 split at h
 ·cases h
 ·split at h
  ·cases h
  ·rename_i i hi
   obtain ⟨v, hv, h0, _⟩ := qa5 L s.Ws x _ i hi
   rw [hv] at h
   simp at h
   subst h
   have := (hS.st v (List.mem_of_getElem? hv)).1
   have hl := (qbg hv).length_eq
   exact ⟨qje hv (by omega), hS.qis hv, by simp at hl ⊢; omega⟩
def shr (u d n al : Int) : Int × Int := if al = 0 \/ u + d - n < 0 then (0, 1) else (u + d - n, al)
def better (a b : Int × Int) : Int × Int := if a.1 * b.2 < b.1 * a.2 then b else a
def qav (L : List Ent) (Ws : List Wk) (x : Wk) : Int × Int :=
 better (better (0, 1) (shr (ws0 (qae Ws (joinB x.key))) x.d0 (es0 (qaf L (joinB x.key))) (es0 (qaf L [])))) (shr (ws1 (qae Ws (joinB x.key))) x.d1 (es1 (qaf L (joinB x.key))) (es1 (qaf L [])))
theorem qof {u d n al : Int} (h1 : 0 <= u /\ u <= 24000) (h2 : 0 <= d /\ d <= 1000) (h3 : 0 <= n /\ n <= 20000) (h4 : 0 <= al /\ al <= 20000) : (0 <= (shr u d n al).1 /\ (shr u d n al).1 <= 25000) /\ (0 <= (shr u d n al).2 /\ (shr u d n al).2 <= 25000) := by
 unfold shr
 split <;> simp <;> omega
theorem qf4 {a b : Int × Int} (ha : (0 <= a.1 /\ a.1 <= 25000) /\ (0 <= a.2 /\ a.2 <= 25000)) (hb : (0 <= b.1 /\ b.1 <= 25000) /\ (0 <= b.2 /\ b.2 <= 25000)) : (0 <= (better a b).1 /\ (better a b).1 <= 25000) /\ (0 <= (better a b).2 /\ (better a b).2 <= 25000) := by
 unfold better
 split <;> assumption
end Go.Proofs.YtphclnolomgjoaaGreatDoor
