import Derived.Test.YtphclnolomgjoaaGreatDoorC06
import Derived.Test.YtphclnolomgjoaaGreatDoorC14
import Derived.Test.YtphclnolomgjoaaGreatDoorC21
import Derived.Deep.RegionHeld3
import Derived.Deep.LoopGhost
import Derived.BigQuiet
set_option linter.unusedVariables false
set_option linter.unusedSimpArgs false
namespace Go.Proofs.YtphclnolomgjoaaGreatDoor
open Go.RowKit
theorem quf {W : World} {B : Nat} {e : TypeId} {size n : Nat} {sl : Value} {xs : List Value} (h : W.ownsRow B e size sl n xs) : W.ownsRow 0 e size sl n xs := by
 obtain ⟨hl, hr⟩ := h
 refine ⟨hl, ?_⟩
 rcases hr with hr | ⟨g', cap', cur, rfl, hbg, hg, rest⟩
 ·exact .inl hr
 ·exact .inr ⟨g', cap', cur, rfl, Nat.zero_le _, hg, rest⟩
theorem qn5 {W : World} {B : Nat} {sl : Value} {l : List Nat} (h : W.ownsRow B 3 1 sl l.length (nats l)) : ∃ ah ch, sl = .slice ah l.length ch /\ ∀ (k i : Nat), l[k]? = some i -> ∃ b, ah = some ⟨b, 0, none⟩ /\ b < W.heap.size /\ l.length <= ch /\ ch <= maxLen /\ W.cell? ⟨b, k, none⟩ = some (.int .i64 i) := by
 have h0 := quf h
 by_cases hl : 0 < l.length
 ·obtain ⟨g, cap, rfl, h1, h2⟩ := qat h0 hl
  refine ⟨some ⟨g, 0, none⟩, cap, rfl, fun k i hk => ⟨g, rfl, qal h0 rfl, h1, h2, ?_⟩⟩
  have := h0.cells (g := g) rfl k (.int .i64 i) (by unfold nats; rw [List.getElem?_map, hk]; rfl)
  rwa [Addr.add_lit, Nat.zero_add] at this
 ·have hn : l = [] := List.eq_nil_of_length_eq_zero (by omega)
  subst hn
  rcases h0.2 with ⟨rfl, _⟩ | ⟨g, cap, cur, rfl, _⟩
  ·exact ⟨none, 0, rfl, fun k i hk => by simp at hk⟩
  ·exact ⟨_, _, rfl, fun k i hk => by simp at hk⟩
structure qdu (L : List Ent) (s0 s : SS) : Prop where
 inv : SInv s
 fin : iterS (ownStep L) (mOwn L s.Ws) s = qa2 L s0
 st : s.st + mOwn L s.Ws <= s0.st + 24
 ev : s.evs.length + 25 * mOwn L s.Ws <= 600
theorem SInv.ownI {L : List Ent} (s s' : SS) (h : SInv s) (he : ownStep L s = some s') : SInv s' /\ mOwn L s'.Ws < mOwn L s.Ws := ⟨(h.own he).1, (h.own he).2.1⟩
theorem qdu.start {L : List Ent} {s0 : SS} (h : SInv s0) (he : s0.evs = []) : qdu L s0 s0 := by
 have h1 := qq8 L s0.Ws
 have h2 := h.wks.wks.len
 refine ⟨h, qc1 (m := fun s => mOwn L s.Ws) SInv.ownI _ _ s0 h (Nat.le_refl _) h1, by omega, by rw [he]; simp; omega⟩
theorem qdu.next {L : List Ent} {s0 s s' : SS} (h : qdu L s0 s) (he : ownStep L s = some s') : qdu L s0 s' /\ mOwn L s'.Ws < mOwn L s.Ws := by
 obtain ⟨h1, h2, h3, h4, h5⟩ := h.inv.own he
 refine ⟨⟨h1, ?_, ?_, ?_⟩, h2⟩
 ·rw [<- h.fin]
  obtain ⟨m, hm⟩ : ∃ m, mOwn L s.Ws = m + 1 := ⟨mOwn L s.Ws - 1, by omega⟩
  rw [hm, qfb he]
  exact qc1 (m := fun s => mOwn L s.Ws) SInv.ownI _ _ s' h1 (Nat.le_refl _) (by show mOwn L s'.Ws <= m; omega)
 ·have := h.st; omega
 ·have := h.ev; omega
theorem qdu.done {L : List Ent} {s0 s : SS} (h : qdu L s0 s) (he : ownStep L s = none) : s = qa2 L s0 := by
 rw [<- h.fin, qb9 he]
set_option maxRecDepth 100000 in
set_option maxHeartbeats 4000000 in
theorem owners_ref {w : World} {br g cap : Nat} {L : List Ent} {ao : Option Addr} {cW : Nat} {Ws : List Wk} {cnt st : Int} (h : GRef w br g cap L ao cW Ws cnt st) (E : Ents L) (EB : Bors L) (I : SInv ⟨Ws, st, []⟩) (hst : st <= 900000000) :
  Calls Tryz.prog 157 #[.pointer (some ⟨br, 0, none⟩)] w fun e w' => ∃ sl ao' cW', e = .returned sl /\ qck w br g cap L (Value.slice ao Ws.length cW).ownBlock cnt Ws.length w' ao' cW' (qa2 L ⟨Ws, st, []⟩).Ws (qa2 L ⟨Ws, st, []⟩).st sl (qa2 L ⟨Ws, st, []⟩).evs := by
 have hbr := h.qii
 have hgl : g < w.heap.size := (h.ref.row.lt g rfl).2
 have hS0 := qck.start h
 have hR0 := qdu.start (L := L) I rfl
 have hn24 := I.wks.wks.len
 simp only at hn24
 obtain ⟨n, hn⟩ : ∃ n, n = Ws.length := ⟨_, rfl⟩
 rw [<- hn] at hS0 hn24 ⊢
 generalize hs0 : (⟨Ws, st, []⟩ : SS) = s0 at *
 have hst0 : s0.st <= 900000000 := by rw [<- hs0]; exact hst
 have hW0 : Ws = s0.Ws := by rw [<- hs0]
 have hst1 : st = s0.st := by rw [<- hs0]
 have hev0 : ([] : List (Int × Int)) = s0.evs := by rw [<- hs0]
 rw [hW0, hst1, hev0] at hS0
 generalize (Value.slice ao n cW).ownBlock = o0 at *
 clear hs0 hst1 hW0 hev0 h hst hn I
 go_enter Tryz.func157, Tryz.ntmps157
 go_wp2
 go_loopg [3] (mOwn L s0.Ws) (fun k sl wr => ∃ (s : SS) (a : Option Addr) (c : Nat), mOwn L s.Ws <= k /\ qdu L s0 s /\ qck w br g cap L o0 cnt n wr a c s.Ws s.st sl s.evs)
 case atStart => exact ⟨s0, ao, cW, Nat.le_refl _, hR0, hS0⟩
 case round =>
  clear hR0 hS0
  obtain ⟨s, a, c, hk, hR, hS⟩ := hrel
  obtain ⟨gk0, hgk0⟩ : ∃ k, k = gk := ⟨_, rfl⟩
  subst hgk0
  have EW := hR.inv.wks.wks
  have hlen := hS.len
  go_wp2_with fail
  refine (qlm hS.ref EW).mono ?_
  rintro e w1 ⟨hl, rfl, hrow, hb1⟩
  obtain ⟨ah, ch, rfl, hcell⟩ := qn5 hrow
  have hS1 := hS.below hb1
  have hz1 : br < w1.heap.size := hS1.ref.qii
  have hHm : Hid (∀ i ∈ qcn s.Ws, i < n /\ headAt s.Ws i = true) := fun i hi => by rw [<- hlen]; exact qfg hi
  have hm24 : (qcn s.Ws).length <= 24 := Nat.le_trans (qgr _ _) (by omega)
  obtain ⟨hs, hhs⟩ : ∃ hs, hs = qcn s.Ws := ⟨_, rfl⟩
  have HHS : Hid (hs = qcn s.Ws) := hhs
  rw [<- hhs] at hcell hHm hm24 ⊢
  clear hhs hrow
  obtain ⟨m, hm⟩ : ∃ m, m = hs.length := ⟨_, rfl⟩
  rw [<- hm] at hcell hm24 ⊢
  have HM : Hid (m = hs.length) := hm
  clear hm
  have hcell0 : w1.cell? ⟨br, 1, none⟩ = some (.slice a n c) := by have := hS1.ref.ref.at_.cell 1; rw [<- hlen]; simpa using this
  have hwk : Hid (∀ W, Below w1.heap.size w1 W -> ∀ (i : Nat) x, s.Ws[i]? = some x -> ∃ b, a = some ⟨b, 0, none⟩ /\ b < w1.heap.size /\ n <= c /\ c <= maxLen /\ W.cell? ⟨b, i * 5, none⟩ = some (.int .i64 x.num) /\ W.cell? ⟨b, i * 5 + 1, none⟩ = some (.string (sb (joinB x.key))) /\ W.cell? ⟨b, i * 5 + 2, none⟩ = some (.int .i64 x.d0) /\ W.cell? ⟨b, i * 5 + 3, none⟩ = some (.int .i64 x.d1) /\ W.cell? ⟨b, i * 5 + 4, none⟩ = some (.int .i64 x.st)) := by
   show ∀ W, Below w1.heap.size w1 W -> ∀ (i : Nat) x, s.Ws[i]? = some x -> ∃ b, a = some ⟨b, 0, none⟩ /\ b < w1.heap.size /\ n <= c /\ c <= maxLen /\ W.cell? ⟨b, i * 5, none⟩ = some (.int .i64 x.num) /\ W.cell? ⟨b, i * 5 + 1, none⟩ = some (.string (sb (joinB x.key))) /\ W.cell? ⟨b, i * 5 + 2, none⟩ = some (.int .i64 x.d0) /\ W.cell? ⟨b, i * 5 + 3, none⟩ = some (.int .i64 x.d1) /\ W.cell? ⟨b, i * 5 + 4, none⟩ = some (.int .i64 x.st)
   intro W hW i x hx
   obtain ⟨b, h1, h2, h3, h4, p0, p1, p2, p3, p4⟩ := (hS1.ref.below hW).wk hx
   have hb : b < w1.heap.size := qal hS1.ref.wrow (by rw [h1]; rfl)
   exact ⟨b, h1, hb, by rw [<- hlen]; exact h3, h4, p0, p1, p2, p3, p4⟩
  go_wp2_with fail
  go_loopw [4, 6] (fun bst i w2 => ∃ k : Nat, k <= m /\ i = .int .i64 k /\ bst = .int .i64 (optI (qc6 L s.Ws (hs.take k))) /\ Below w1.heap.size w1 w2) (fun _ i _ => m - (intOf i).toNat)
  case atStart => exact ⟨0, Nat.zero_le _, rfl, rfl, Below.refl _ _⟩
  case round =>
   obtain ⟨k, hkm, rfl, rfl, hbel⟩ := hrel
   have hc1 := (hbel.cell (p := ⟨br, 1, none⟩) hz1).trans hcell0
   by_cases hlt : k < m
   ·obtain ⟨i, hi⟩ : ∃ i, hs[k]? = some i := ⟨_, List.getElem?_eq_getElem (by rw [<- HM.out]; exact hlt)⟩
    obtain ⟨hin, hih⟩ := hHm.out i (List.mem_of_getElem? hi)
    obtain ⟨x, hx⟩ : ∃ x, s.Ws[i]? = some x := ⟨_, List.getElem?_eq_getElem (by omega)⟩
    obtain ⟨gh, hah, hgh, hch1, hch2, hci⟩ := hcell k i hi
    subst hah
    have hci2 := (hbel.cell (p := ⟨gh, k, none⟩) hgh).trans hci
    obtain ⟨b, hao, hbl, hcw1, hcw2, p0, p1, p2, p3, p4⟩ := hwk.out _ hbel i x hx
    obtain ⟨b', hao', _, _, _, q0, q1, q2, q3, q4⟩ := hwk.out _ (Below.refl _ _) i x hx
    subst hao
    injection hao' with hao'; injection hao' with hao'; subst hao'
    have hki : (k : Int) < m := by omega
    have hki0 : (0 : Int) <= k := by omega
    have hii : (i : Int) < n := by omega
    have hii0 : (0 : Int) <= i := by omega
    have hown := fun W (hW : Below w1.heap.size w1 W) => qvg (hS1.ref.below hW) E EW x (EW.at_ (List.mem_of_getElem? hx))
    have HX : Hid (s.Ws[i]? = some x) := hx
    have HP : Hid (qc6 L s.Ws (hs.take (k + 1)) = (if ownW L s.Ws x && (match qc6 L s.Ws (hs.take k) with | none => true | some b => Op.bytesLess (joinB x.key) (qdq s.Ws b)) then some i else qc6 L s.Ws (hs.take k))) := by
     show _ = _
     rw [show hs.take (k + 1) = hs.take k ++ [i] from by
      rw [List.take_succ_eq_append_getElem (by rw [<- HM.out]; exact hlt)]
      rw [List.getElem?_eq_getElem (by rw [<- HM.out]; exact hlt)] at hi; cases hi; rfl]
     rw [qj6]
     unfold pickStep
     rw [hx]
     rfl
    have hpk : Hid (∀ b0, qc6 L s.Ws (hs.take k) = some b0 -> ∃ y, s.Ws[b0]? = some y) := fun b0 hb0 => by
     obtain ⟨_, y, hy, _⟩ := qij hb0
     exact ⟨y, hy⟩
    generalize qc6 L s.Ws (hs.take k) = pk at HP hpk ⊢
    generalize hOW : ownW L s.Ws x = ow at hown HP
    clear hcell hS hi hx hih hOW
    have HHm := hHm
    clear hHm
    obtain ⟨B, hB⟩ : ∃ B, B = optI pk := ⟨_, rfl⟩
    rw [<- hB]
    have HB : Hid (B = optI pk) := hB
    clear hB
    go_upto_region 7 with fail
    go_cut [7] from 15 to 63 (fun q wx => q = .bool ow /\ Below w1.heap.size w1 wx)
    case first =>
     go_region_held3 (fun w' => w'.cell? ⟨br, 1, none⟩ = some (.slice (some ⟨b, 0, none⟩) n c) /\ w'.cell? ⟨gh, k, none⟩ = some (.int .i64 i) /\ w'.cell? ⟨b, i * 5, none⟩ = some (.int .i64 x.num) /\ w'.cell? ⟨b, i * 5 + 1, none⟩ = some (.string (sb (joinB x.key))) /\ w'.cell? ⟨b, i * 5 + 2, none⟩ = some (.int .i64 x.d0) /\ w'.cell? ⟨b, i * 5 + 3, none⟩ = some (.int .i64 x.d1) /\ w'.cell? ⟨b, i * 5 + 4, none⟩ = some (.int .i64 x.st)) (go_keep)
      (first
      | (go_at_call 199; refine (hown _ ?_).mono ?_; (focus exact bel2); rintro e w2 ⟨rfl, hb2⟩; have hB2 : Below w1.heap.size w1 w2 := qac (by exact bel2) hb2; have r0 := (hB2.cell (p := ⟨br, 1, none⟩) hz1).trans hcell0; have r1 := (hB2.cell (p := ⟨gh, k, none⟩) hgh).trans hci; have r2 := (hB2.cell (p := ⟨b, i * 5, none⟩) hbl).trans q0; have r3 := (hB2.cell (p := ⟨b, i * 5 + 1, none⟩) hbl).trans q1; have r4 := (hB2.cell (p := ⟨b, i * 5 + 2, none⟩) hbl).trans q2; have r5 := (hB2.cell (p := ⟨b, i * 5 + 3, none⟩) hbl).trans q3; have r6 := (hB2.cell (p := ⟨b, i * 5 + 4, none⟩) hbl).trans q4))
     all_goals go_wp2_with fail
     go_meet
     exact ⟨rfl, hB2⟩
    case rest =>
     obtain ⟨rfl, hBc⟩ := hcut
     have d1 := (hBc.cell (p := ⟨br, 1, none⟩) hz1).trans hcell0
     have d2 := (hBc.cell (p := ⟨gh, k, none⟩) hgh).trans hci
     have d3 := (hBc.cell (p := ⟨b, i * 5 + 1, none⟩) hbl).trans q1
     have HFIN : Hid (∀ (bb : Int) (W : World), Below w1.heap.size w1 W -> bb = optI (qc6 L s.Ws (hs.take (k + 1))) -> (∃ k_1 : Nat, k_1 <= m /\ Value.int .i64 ((k : Int) + 1) = Value.int .i64 k_1 /\ Value.int .i64 bb = Value.int .i64 (optI (qc6 L s.Ws (hs.take k_1))) /\ Below w1.heap.size w1 W) /\ m - (intOf (Value.int .i64 ((k : Int) + 1))).toNat < m - (intOf (Value.int .i64 (k : Int))).toNat) :=
      fun bb W h1 h2 => ⟨⟨k + 1, by omega, by go_num, by rw [h2], h1⟩, by simp [intOf]; omega⟩
     clear hown hc1 hci2 p0 p1 p2 p3 p4 hcell0 hci q0 q1 q2 q3 q4 hbel
     cases ow
     ·go_wp2_with fail
      go_quiet (fail)
      go_wp2_with fail
      exact HFIN.out _ _ (below_drewN hBc _) (by rw [HP.out, HB.out]; simp)
     ·cases hpk2 : pk with
      | none =>
       have hB1 : B = -1 := by rw [HB.out, hpk2]; rfl
       have HP2 : Hid (qc6 L s.Ws (hs.take (k + 1)) = some i) := by
        show _ = _
        rw [HP.out, hpk2]; rfl
       subst hB1
       clear HP HB hpk2 hpk
       go_wp2_with fail
       go_quiet (fail)
       go_wp2_with fail
       exact HFIN.out _ _ (below_drewN hBc _) (by rw [HP2.out]; rfl)
      | some b0 =>
       have hB1 : B = (b0 : Int) := by rw [HB.out, hpk2]; rfl
       obtain ⟨y, hy⟩ := hpk.out b0 hpk2
       have hb0n : b0 < n := by rw [<- hlen]; exact (List.getElem?_eq_some_iff.1 hy).1
       obtain ⟨b', hao', _, _, _, _, t1, _, _, _⟩ := hwk.out _ hBc b0 y hy
       injection hao' with hao'; injection hao' with hao'; subst hao'
       have HP2 : Hid (qc6 L s.Ws (hs.take (k + 1)) = if Op.bytesLess (joinB x.key) (joinB y.key) then some i else some b0) := by
        show _ = _
        rw [HP.out, hpk2, Bool.true_and]
        simp only [qfv hy]
       have hless : Op.bytesLess (sb (joinB x.key)).toList (sb (joinB y.key)).toList = Op.bytesLess (joinB x.key) (joinB y.key) := by rw [qaz, qaz, qbi, qbi]
       have HH : Hid (optI (some b0) = (b0 : Int) /\ optI (some i) = (i : Int)) := ⟨rfl, rfl⟩
       subst hB1
       clear HP HB hpk2 hpk hy
       generalize Op.bytesLess (joinB x.key) (joinB y.key) = lt at HP2 hless
       generalize sb (joinB y.key) = py at t1 hless
       generalize sb (joinB x.key) = px at d3 hless
       have hbi : (b0 : Int) < n := by omega
       have hbi0 : (0 : Int) <= b0 := by omega
       have hbi1 : ¬ ((b0 : Int) < 0) := by omega
       cases lt
       ·go_wp2_with fail
        go_quiet (fail)
        go_wp2_with fail
        exact HFIN.out _ _ (below_drewN hBc _) (by rw [HP2.out]; rfl)
       ·go_wp2_with fail
        go_quiet (fail)
        go_wp2_with fail
        exact HFIN.out _ _ (below_drewN hBc _) (by rw [HP2.out]; rfl)
   ·have hkm2 : k = m := by omega
    have HPW : Hid (qc6 L s.Ws (hs.take k) = qlq L s.Ws) := by
     show _ = _
     rw [List.take_of_length_le (by rw [<- HM.out]; omega), HHS.out]; rfl
    rw [HPW.out]
    have hS2 := hS1.below hbel
    clear hcell hHm hwk hcell0 hc1 hS hS1 HPW HHS HM
    cases hpw : qlq L s.Ws with
    | none =>
     have hdone := hR.done (show ownStep L s = none from by unfold ownStep; rw [hpw])
     have HD : Hid (s = qa2 L s0) := hdone
     clear hdone hpw
     have hB1 : optI none = (-1 : Int) := rfl
     rw [hB1]
     go_wp2_with fail
     go_ret
     rw [<- HD.out]
     exact ⟨_, _, _, rfl, hS2⟩
    | some b0 =>
     obtain ⟨x, hx, hxh, hxo⟩ := qfc hpw
     have hstep : ownStep L s = some (qcs L x s) := by unfold ownStep; rw [hpw]; simp only; rw [hx]
     have HST : Hid (ownStep L s = some (qcs L x s)) := hstep
     have hRI := hR.inv.rinv hx hxh hxo
     have hb0n : b0 < n := by rw [<- hlen]; exact (List.getElem?_eq_some_iff.1 hx).1
     obtain ⟨b, hao, hbl, hcw1, hcw2, p0, p1, p2, p3, p4⟩ := hS2.ref.wk hx
     rw [hlen] at hcw1
     subst hao
     have hc1 : wr.cell? ⟨br, 1, none⟩ = some (.slice (some ⟨b, 0, none⟩) n c) := by have := hS2.ref.ref.at_.cell 1; rw [<- hlen]; simpa using this
     have hbr2 : br < wr.heap.size := hS2.ref.qii
     have hbi : (b0 : Int) < n := by omega
     have hbi0 : (0 : Int) <= b0 := by omega
     have hbi1 : ¬ ((b0 : Int) < 0) := by omega
     have hB1 : optI (some b0) = (b0 : Int) := rfl
     rw [hB1]
     have bx : Blk (wr.alloc (.cells #[.int .i64 x.num, .string (sb (joinB x.key)), .int .i64 x.d0, .int .i64 x.d1, .int .i64 x.st] 178)) wr.heap.size 178 #[.int .i64 x.num, .string (sb (joinB x.key)), .int .i64 x.d0, .int .i64 x.d1, .int .i64 x.st] := Blk.new wr 178 _
     have hBx : Below wr.heap.size wr (wr.alloc (.cells #[.int .i64 x.num, .string (sb (joinB x.key)), .int .i64 x.d0, .int .i64 x.d1, .int .i64 x.st] 178)) := by exact bel2
     have hS3 := hS2.below hBx
     have hsb : u3.ownBlock ≠ some wr.heap.size := fun e => by have := (hS2.row.lt _ e).2; omega
     clear hpw hstep hx hxh hxo
     go_wp2_with fail
     generalize (wr.alloc (.cells #[.int .i64 x.num, .string (sb (joinB x.key)), .int .i64 x.d0, .int .i64 x.d1, .int .i64 x.st] 178)) = W3 at bx hBx hS3 ⊢
     have hb8w : w.heap.size <= wr.heap.size := hS2.keep.size
     have hev0 : s.evs.length + admN s.Ws <= 624 := by
      have h1 := hR.ev
      have h2 : admN s.Ws <= 24 := Nat.le_trans (List.length_filter_le _ _) EW.len
      omega
     clear hS2 hBx p0 p1 p2 p3 p4 hc1 hbel hbl hbr2 hbi hbi0 hbi1 hB1
     generalize wr.heap.size = b8 at bx hsb hb8w ⊢
     go_loopg [3] (admN s.Ws) (fun q sl wv => ∃ (ms : MS) (a' : Option Addr) (c' : Nat), admN ms.Ws <= q /\ qck w br g cap L o0 cnt n wv a' c' ms.Ws s.st sl ms.evs /\ RInv L x s.st ms.Ws /\ room L x (admN ms.Ws) ms = room L x (admN s.Ws) ⟨s.Ws, s.evs⟩ /\ Blk wv b8 178 #[.int .i64 x.num, .string (sb (joinB x.key)), .int .i64 x.d0, .int .i64 x.d1, .int .i64 x.st] /\ sl.ownBlock ≠ some b8 /\ ms.evs.length + admN ms.Ws <= 624)
     case atStart => exact ⟨⟨s.Ws, s.evs⟩, _, _, Nat.le_refl _, hS3, hRI, rfl, bx, hsb, hev0⟩
     case round =>
      clear hS3 bx hsb
      obtain ⟨ms, a', c', hq, hSm, hRm, hroom, bxm, hsbm, hevm⟩ := hrel
      have HRO : Hid (room L x (admN ms.Ws) ms = room L x (admN s.Ws) ⟨s.Ws, s.evs⟩) := hroom
      clear hroom
      have EWm := hRm.wks.wks
      have hxm := (qak hRm.head).1
      have hxok := EWm.at_ hxm
      have y0 := bxm.cell 0
      have y1 := bxm.cell 1
      have y2 := bxm.cell 2
      have y3 := bxm.cell 3
      have y4 := bxm.cell 4
      simp only [List.getElem?_toArray, List.getElem?_cons_zero, List.getElem?_cons_succ] at y0 y1 y2 y3 y4
      go_wp2_with fail
      refine (qoj hSm.ref E EB EWm x hxok).mono ?_
      rintro e w4 ⟨rfl, hb4⟩
      have hS4 := hSm.below hb4
      have bx4 := bxm.below hb4 bxm.lt
      clear y0 y1 y2 y3 y4
      have y0 := bx4.cell 0
      have y1 := bx4.cell 1
      have y2 := bx4.cell 2
      have y3 := bx4.cell 3
      have y4 := bx4.cell 4
      simp only [List.getElem?_toArray, List.getElem?_cons_zero, List.getElem?_cons_succ] at y0 y1 y2 y3 y4
      go_wp2_with fail
      refine (qp9 hS4.ref E EB EWm x hxok).mono ?_
      rintro e w5 ⟨rfl, hb5⟩
      have hS5 := hS4.below hb5
      have bx5 := bx4.below hb5 bx4.lt
      clear y0 y1 y2 y3 y4
      cases hv : qch L ms.Ws x with
      | none =>
       have hB1 : optI none = (-1 : Int) := rfl
       rw [hB1]
       have hend : ms = room L x (admN s.Ws) ⟨s.Ws, s.evs⟩ := by rw [<- HRO.out, room_end (qfu.2 hv)]
       have HEND : Hid (ms = room L x (admN s.Ws) ⟨s.Ws, s.evs⟩) := hend
       clear hend HRO hv hB1
       have y0 := bx5.cell 0
       simp only [List.getElem?_toArray, List.getElem?_cons_zero, List.getElem?_cons_succ] at y0
       generalize qbm L ms.Ws x = ff
       have hplace := qh6 hS5.ref EWm x.num
       have hstb : 0 <= s.st /\ s.st <= 1000000000 := ⟨hR.inv.st0, by have := hR.st; omega⟩
       have hadm := fun (i : Nat) (hi : ms.Ws[i]? = some x) => qld hS5.ref EWm hi hstb
       have hap : ∀ W : World, W.ownsRow 0 60 2 u3 ms.evs.length (qai ms.evs) -> ∃ v' w', (∀ ty, (Builtin.append_ #[48, 48] ty #[u3, .slice (some ⟨W.heap.size + 1, 0, none⟩) 1 1]).run Tryz.prog ((W.alloc (.cells #[.int .i64 1, .int .i64 x.num] 60)).alloc (.cells #[.int .i64 1, .int .i64 x.num] 60)) = .ok v' w') /\ ∃ g cap, v' = .slice (some ⟨g, 0, none⟩) (ms.evs.length + 1) cap /\ AppR ((W.alloc (.cells #[.int .i64 1, .int .i64 x.num] 60)).alloc (.cells #[.int .i64 1, .int .i64 x.num] 60)) u3.ownBlock 60 2 (ms.evs.length + 1) (qai ms.evs ++ qai [(1, x.num)]) g cap w' :=
        fun W hrow => qby un48 qm7 (by omega) _ u3 ms.evs.length (qai ms.evs) ((hrow.alloc _).alloc _) (W.heap.size + 1) 1 1 (by omega) (qai [(1, x.num)]) rfl (Blk.new' (by simp)) (qq4 _ _) (by unfold maxLen; omega) (by omega)
       have hfin : ∀ (i : Nat) (W W' : World) (g' q' : Nat), ms.Ws[i]? = some x -> AdmR w5 br g cap L a' c' (ms.Ws.set i (x.adm (s.st + 1))) cnt (s.st + 1) W -> AppR ((W.alloc (.cells #[.int .i64 1, .int .i64 x.num] 60)).alloc (.cells #[.int .i64 1, .int .i64 x.num] 60)) u3.ownBlock 60 2 (ms.evs.length + 1) (qai ms.evs ++ qai [(1, x.num)]) g' q' W' -> ∃ (s' : SS) (a2 : Option Addr) (c2 : Nat), mOwn L s'.Ws < gk0 /\ mOwn L s'.Ws <= mOwn L s'.Ws /\ qdu L s0 s' /\ qck w br g cap L o0 cnt n W' a2 c2 s'.Ws s'.st (.slice (some ⟨g', 0, none⟩) (ms.evs.length + 1) q') s'.evs := by
        intro i W W' g' q' hi hA hP
        have hO : qcs L x s = ⟨ms.Ws.set i (x.adm (s.st + 1)), s.st + 1, ms.evs ++ [(1, x.num)]⟩ := by
         unfold qcs
         rw [<- HEND.out, qfa hRm.wks.nums hi]
        have hN := hR.next HST.out
        have h7 := hS5.admit hbr (by rw [List.length_set]) hA
        have h8 := h7.below (((Below.refl _ _).alloc (Nat.le_refl _) _).alloc (by simp) _ : Below W.heap.size W ((W.alloc (.cells #[.int .i64 1, .int .i64 x.num] 60)).alloc (.cells #[.int .i64 1, .int .i64 x.num] 60)))
        have h9 := h8.tell hbr hgl hP
        refine ⟨qcs L x s, a', c', by omega, Nat.le_refl _, hN.1, ?_⟩
        rw [hO]
        exact h9
       have HFIN : Hid (∀ (i : Nat) (W W' : World) (g' q' : Nat), ms.Ws[i]? = some x -> AdmR w5 br g cap L a' c' (ms.Ws.set i (x.adm (s.st + 1))) cnt (s.st + 1) W -> AppR ((W.alloc (.cells #[.int .i64 1, .int .i64 x.num] 60)).alloc (.cells #[.int .i64 1, .int .i64 x.num] 60)) u3.ownBlock 60 2 (ms.evs.length + 1) (qai ms.evs ++ qai [(1, x.num)]) g' q' W' -> ∃ (s' : SS) (a2 : Option Addr) (c2 : Nat), mOwn L s'.Ws < gk0 /\ mOwn L s'.Ws <= mOwn L s'.Ws /\ qdu L s0 s' /\ qck w br g cap L o0 cnt n W' a2 c2 s'.Ws s'.st (.slice (some ⟨g', 0, none⟩) (ms.evs.length + 1) q') s'.evs) := hfin
       have HROW : Hid (∀ i W, ms.Ws[i]? = some x -> AdmR w5 br g cap L a' c' (ms.Ws.set i (x.adm (s.st + 1))) cnt (s.st + 1) W -> W.ownsRow 0 60 2 u3 ms.evs.length (qai ms.evs)) := fun i W hi hA => (hS5.admit hbr (by rw [List.length_set]) hA).row
       have HNUM : Hid (∀ y ∈ ms.Ws, y.num = x.num -> y = x) := fun y hy e => qrw hRm.wks.nums hy hxm e
       have hbx := bx5.lt
       clear hfin HEND hS5 hS4 hSm hRm hR hRI HST bx4 bx5 bxm EW EWm hb4 hb5 hxok E EB hq hevm
       cases ff
       all_goals go_wp2_with fail
       all_goals refine hplace.mono ?_
       all_goals rintro e w6 ⟨hpl, hw6⟩
       all_goals subst hw6
       all_goals rcases hpl with ⟨i, y, rfl, hi, hy⟩ | ⟨hno, _⟩
       all_goals first | exact absurd rfl (hno x hxm) | skip
       all_goals rw [HNUM.out y (List.mem_of_getElem? hi) hy] at hi
       all_goals clear hy hplace
       all_goals go_wp2_with fail
       all_goals refine (hadm i hi).mono ?_
       all_goals rintro e w7 ⟨rfl, hA⟩
       all_goals have hap7 := hap w7 (HROW.out i w7 hi hA)
       all_goals clear hap hadm
       all_goals go_wp2_with (at_builtin; refine qah (by rfl) _ _ _ _ rfl _ _ rfl (by rfl) hap7 ?_; rintro v1 w8 ⟨g8, q8, rfl, R8⟩)
       all_goals obtain ⟨s', a2, c2, h1, h2, h3, h4⟩ := HFIN.out i w7 w8 g8 q8 hi hA R8
       ·go_roundg (mOwn L s'.Ws)
        case measure => exact h1
        case rel => exact ⟨s', a2, c2, h2, h3, h4⟩
       ·go_roundg (mOwn L s'.Ws)
        case measure => exact h1
        case rel => exact ⟨s', a2, c2, h2, h3, h4⟩
      | some i =>
       obtain ⟨v, hvi, hv0, hvw⟩ := qa5 L ms.Ws x _ i hv
       have hrs := qe1 (s := ms) hv hvi
       have hff : qbm L ms.Ws x = false := by
        cases hf : qbm L ms.Ws x with
        | false => rfl
        | true => rw [qfr hf] at hv; cases hv
       rw [hff]
       have hB1 : optI (some i) = (i : Int) := rfl
       rw [hB1]
       have hi1 : ¬ ((i : Int) < 0) := by omega
       have hev := qsc hS5.ref EWm hvi
       have hbx := bx5.lt
       obtain ⟨hR2, hm2, he2, hl2⟩ := hRm.step hrs
       simp only at hR2 hm2 he2 hl2
       have hlt2 : admN (v.adm 0 :: (ms.Ws.take i ++ ms.Ws.drop (i + 1))) < admN ms.Ws := by simp at he2; omega
       have HRO2 : Hid (room L x (admN (v.adm 0 :: (ms.Ws.take i ++ ms.Ws.drop (i + 1)))) ⟨v.adm 0 :: (ms.Ws.take i ++ ms.Ws.drop (i + 1)), ms.evs ++ [(2, v.num)]⟩ = room L x (admN s.Ws) ⟨s.Ws, s.evs⟩) := by
        show _ = _
        rw [<- HRO.out]
        obtain ⟨q, hq2⟩ : ∃ q, admN ms.Ws = q + 1 := ⟨admN ms.Ws - 1, by omega⟩
        rw [hq2, qqx hrs]
        have : admN (v.adm 0 :: (ms.Ws.take i ++ ms.Ws.drop (i + 1))) = q := by simp at he2; omega
        rw [this]
       have hap : ∀ W : World, W.ownsRow 0 60 2 u3 ms.evs.length (qai ms.evs) -> ∃ v' w', (∀ ty, (Builtin.append_ #[48, 48] ty #[u3, .slice (some ⟨W.heap.size + 1, 0, none⟩) 1 1]).run Tryz.prog ((W.alloc (.cells #[.int .i64 2, .int .i64 v.num] 60)).alloc (.cells #[.int .i64 2, .int .i64 v.num] 60)) = .ok v' w') /\ ∃ g cap, v' = .slice (some ⟨g, 0, none⟩) (ms.evs.length + 1) cap /\ AppR ((W.alloc (.cells #[.int .i64 2, .int .i64 v.num] 60)).alloc (.cells #[.int .i64 2, .int .i64 v.num] 60)) u3.ownBlock 60 2 (ms.evs.length + 1) (qai ms.evs ++ qai [(2, v.num)]) g cap w' :=
        fun W hrow => qby un48 qm7 (by omega) _ u3 ms.evs.length (qai ms.evs) ((hrow.alloc _).alloc _) (W.heap.size + 1) 1 1 (by omega) (qai [(2, v.num)]) rfl (Blk.new' (by simp)) (qq4 _ _) (by unfold maxLen; omega) (by omega)
       clear hv hvi hv0 hvw hrs hff hB1 hb4 hb5 bx4 bxm hS4 hSm
       go_wp2_with fail
       refine hev.mono ?_
       rintro e w6 ⟨rfl, b6, c6, hb6, hG6, hK6⟩
       have hS6 := hS5.qis hbr hl2 hb6 hG6 hK6
       have bx6 := bx5.keep hK6 (by omega)
       have hap6 := hap w6 hS6.row
       have hS7 := hS6.below (((Below.refl _ _).alloc (Nat.le_refl _) _).alloc (by simp) _ : Below w6.heap.size w6 ((w6.alloc (.cells #[.int .i64 2, .int .i64 v.num] 60)).alloc (.cells #[.int .i64 2, .int .i64 v.num] 60)))
       have bx7 := (bx6.alloc (.cells #[.int .i64 2, .int .i64 v.num] 60)).alloc (.cells #[.int .i64 2, .int .i64 v.num] 60)
       clear hev hap hS6 hS5 hG6 hK6 bx5
       go_wp2_with (at_builtin; refine qah (by rfl) _ _ _ _ rfl _ _ rfl (by rfl) hap6 ?_; rintro v1 w8 ⟨g8, q8, rfl, R8⟩)
       have hS8 := hS7.tell hbr hgl R8
       have bx8 := bx7.keep R8.keep hsbm
       have hn8 : ¬ (g8 = b8) := fun e => by
        rcases R8.new with e2 | e2
        ·rw [e] at e2; exact hsbm e2
        ·have := bx7.lt; omega
       go_roundg (admN (v.adm 0 :: (ms.Ws.take i ++ ms.Ws.drop (i + 1))))
       case measure => omega
       case rel => exact ⟨⟨v.adm 0 :: (ms.Ws.take i ++ ms.Ws.drop (i + 1)), ms.evs ++ [(2, v.num)]⟩, _, _, Nat.le_refl _, hS8, hR2, HRO2.out, bx8, by simp [Value.ownBlock]; exact hn8, by simp at he2 ⊢; omega⟩
end Go.Proofs.YtphclnolomgjoaaGreatDoor
