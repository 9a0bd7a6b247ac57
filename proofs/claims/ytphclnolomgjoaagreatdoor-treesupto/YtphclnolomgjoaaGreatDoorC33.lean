import Derived.Test.YtphclnolomgjoaaGreatDoorC06
import Derived.Test.YtphclnolomgjoaaGreatDoorC31
import Derived.Test.YtphclnolomgjoaaGreatDoorC32
set_option linter.unusedVariables false
set_option linter.unusedSimpArgs false
namespace Go.Proofs.YtphclnolomgjoaaGreatDoor
open Go.RowKit
theorem qck.other {w : World} {br g cap : Nat} {L : List Ent} {o0 : Option Nat} {cnt : Int} {n : Nat} {W W' : World} {ao : Option Addr} {cW : Nat} {Ws : List Wk} {st : Int} {sl : Value} {evs : List (Int × Int)} (h : qck w br g cap L o0 cnt n W ao cW Ws st sl evs) (hbr : br < w.heap.size) (hg : g < w.heap.size) {T : Nat -> Prop} (hk : Keep T W W') (hT : ∀ b, T b -> w.heap.size <= b /\ sl.ownBlock ≠ some b /\ (Value.slice ao Ws.length cW).ownBlock ≠ some b) : qck w br g cap L o0 cnt n W' ao cW Ws st sl evs := by
 have hnb : ¬ T br := fun e => by have := (hT br e).1; omega
 have hng : ¬ T g := fun e => by have := (hT g e).1; omega
 refine ⟨⟨h.ref.ref.keep hk hnb hng, qab h.ref.wrow hk (fun b hb e => (hT b e).2.2 hb), h.ref.ne1⟩, h.len, h.keep.step hk (fun b hb e => ?_), h.old, qab h.row hk (fun b hb e => (hT b e).2.1 hb), h.new, h.sep⟩
 have := (hT b e).1; omega
theorem qnc {L : List Ent} {s0 : SS} (h : SInv s0) (he : s0.evs = []) : qdu L s0 (qa2 L s0) :=
 qe6 (I := qdu L s0) (fun s s' h he => (h.next he).1) _ s0 (qdu.start h he)
structure qd5 (L : List Ent) (s0 s : SS) : Prop where
 inv : SInv s
 fin : iterS (qas L) (qcm s.Ws) s = qaj L s0
 st : s.st + qcm s.Ws <= s0.st + 48
 ev : s.evs.length + qcm s.Ws <= 624
theorem SInv.qwq {L : List Ent} (s s' : SS) (h : SInv s) (he : qas L s = some s') : SInv s' /\ qcm s'.Ws < qcm s.Ws := ⟨(h.idle he).1, (h.idle he).2.1⟩
theorem qd5.start {L : List Ent} {s0 : SS} (h : SInv s0) (he : s0.evs = []) (hl : (qa2 L s0).Ws.length = s0.Ws.length) : qd5 L s0 (qa2 L s0) := by
 have hR := qnc (L := L) h he
 have h1 := qom (qa2 L s0).Ws
 have h2 := hR.inv.wks.wks.len
 have h3 := hR.st
 have h4 := hR.ev
 exact ⟨hR.inv, qc1 (m := fun s => qcm s.Ws) SInv.qwq _ _ _ hR.inv (Nat.le_refl _) (by show qcm (qa2 L s0).Ws <= s0.Ws.length; omega), by omega, by omega⟩
theorem qd5.next {L : List Ent} {s0 s s' : SS} (h : qd5 L s0 s) (he : qas L s = some s') : qd5 L s0 s' /\ qcm s'.Ws < qcm s.Ws := by
 obtain ⟨h1, h2, h3, h4, h5⟩ := h.inv.idle he
 refine ⟨⟨h1, ?_, ?_, ?_⟩, h2⟩
 ·rw [<- h.fin]
  obtain ⟨m, hm⟩ : ∃ m, qcm s.Ws = m + 1 := ⟨qcm s.Ws - 1, by omega⟩
  rw [hm, qfb he]
  exact qc1 (m := fun s => qcm s.Ws) SInv.qwq _ _ s' h1 (Nat.le_refl _) (by show qcm s'.Ws <= m; omega)
 ·have := h.st; omega
 ·have := h.ev; omega
theorem qd5.done {L : List Ent} {s0 s : SS} (h : qd5 L s0 s) (he : qas L s = none) : s = qaj L s0 := by
 rw [<- h.fin, qb9 he]
theorem qln {L : List Ent} (E : Ents L) {Ws : List Wk} (EW : Wks Ws) {x : Wk} (hx : WkOK x) : (0 <= (qav L Ws x).1 /\ (qav L Ws x).1 <= 25000) /\ (0 <= (qav L Ws x).2 /\ (qav L Ws x).2 <= 25000) := by
 have u := qke EW (joinB x.key)
 have e := qeo E (joinB x.key)
 have r := qeo E []
 exact qf4 (qf4 ⟨⟨by decide, by decide⟩, ⟨by decide, by decide⟩⟩ (qof u.1 hx.n0 e.1 r.1)) (qof u.2 hx.n1 e.2 r.2)
theorem qse {L : List Ent} (E : Ents L) {Ws : List Wk} (EW : Wks Ws) (l : List Nat) : ((0 <= (qaw L Ws l).2.1 /\ (qaw L Ws l).2.1 <= 25000) /\ (0 <= (qaw L Ws l).2.2 /\ (qaw L Ws l).2.2 <= 25000)) /\ (∀ b0, (qaw L Ws l).1 = some b0 -> ∃ y, Ws[b0]? = some y) := by
 have h := qd4 E Ws l _ (qux L Ws)
 refine ⟨?_, fun b0 hb => by obtain ⟨y, hy, _⟩ := h.1 b0 hb; exact ⟨y, hy⟩⟩
 cases hb : (qaw L Ws l).1 with
 | some b0 =>
  obtain ⟨y, hy, hs⟩ := h.1 b0 hb
  have hs2 : (qaw L Ws l).2 = qav L Ws y := hs
  rw [hs2]
  exact qln E EW (EW.at_ (List.mem_of_getElem? hy))
 | none =>
  have key : ∀ (l : List Nat) (a : Option Nat × (Int × Int)), (l.foldl (qa3 L Ws) a).1 = none -> l.foldl (qa3 L Ws) a = a := by
   intro l
   induction l with
   | nil => intro a _; rfl
   | cons i l ih =>
    intro a ha
    rw [List.foldl_cons] at ha ⊢
    have h1 := ih _ ha
    rw [h1] at ha ⊢
    rcases qe8 L Ws a i with e | ⟨e, _⟩
    ·exact e
    ·rw [e] at ha; cases ha
  have h1 := key l (none, (0, 0)) hb
  have h2 : qaw L Ws l = (none, (0, 0)) := h1
  rw [h2]
  exact ⟨⟨by decide, by decide⟩, ⟨by decide, by decide⟩⟩
set_option maxRecDepth 100000 in
set_option maxHeartbeats 4000000 in
theorem settle_ref {w : World} {br g cap : Nat} {L : List Ent} {ao : Option Addr} {cW : Nat} {Ws : List Wk} {cnt st : Int} (h : GRef w br g cap L ao cW Ws cnt st) (E : Ents L) (EB : Bors L) (I : SInv ⟨Ws, st, []⟩) (hst : st <= 900000000) :
  Calls Tryz.prog 109 #[.pointer (some ⟨br, 0, none⟩)] w fun e w' => ∃ sl ao' cW', e = .returned sl /\ qck w br g cap L (Value.slice ao Ws.length cW).ownBlock cnt Ws.length w' ao' cW' (qaj L ⟨Ws, st, []⟩).Ws (qaj L ⟨Ws, st, []⟩).st sl (qaj L ⟨Ws, st, []⟩).evs := by
 have hbr := h.qii
 have hgl : g < w.heap.size := (h.ref.row.lt g rfl).2
 have hown := owners_ref h E EB I hst
 have hn24 := I.wks.wks.len
 simp only at hn24
 have hIr := fun hl => qd5.start (L := L) (s0 := ⟨Ws, st, []⟩) I rfl hl
 obtain ⟨n, hn⟩ : ∃ n, n = Ws.length := ⟨_, rfl⟩
 simp only at hIr
 rw [<- hn] at hown hn24 hIr ⊢
 generalize hs0 : (⟨Ws, st, []⟩ : SS) = s0 at *
 have hst0 : s0.st <= 900000000 := by rw [<- hs0]; exact hst
 generalize (Value.slice ao n cW).ownBlock = o0 at *
 clear hs0 h hst hn I
 go_enter Tryz.func109, Tryz.ntmps109
 go_wp2_with fail
 refine hown.mono ?_
 rintro e w0 ⟨sl0, a0, c0, rfl, hS0⟩
 have hR0 := hIr hS0.len
 clear hown hIr
 go_wp2_with fail
 go_loopg [3] (qcm (qa2 L s0).Ws) (fun k sl wr => ∃ (s : SS) (a : Option Addr) (c : Nat), qcm s.Ws <= k /\ qd5 L s0 s /\ qck w br g cap L o0 cnt n wr a c s.Ws s.st sl s.evs)
 case atStart => exact ⟨_, a0, c0, Nat.le_refl _, hR0, hS0⟩
 case round =>
  clear hR0 hS0
  obtain ⟨s, a, c, hk, hR, hS⟩ := hrel
  obtain ⟨gk0, hgk0⟩ : ∃ k, k = gk := ⟨_, rfl⟩
  subst hgk0
  have EW := hR.inv.wks.wks
  have hlen := hS.len
  have hbA : Below wr.heap.size wr (wr.alloc (.cells #[.int .i64 0, .int .i64 0] 209)) := by exact bel2
  have hSA := hS.below hbA
  have bA : Blk (wr.alloc (.cells #[.int .i64 0, .int .i64 0] 209)) wr.heap.size 209 #[.int .i64 0, .int .i64 0] := Blk.new wr 209 _
  have hb5w : w.heap.size <= wr.heap.size := hS.keep.size
  have hb5s : u3.ownBlock ≠ some wr.heap.size := fun e => by have := (hS.row.lt _ e).2; omega
  have hb5r : (Value.slice a s.Ws.length c).ownBlock ≠ some wr.heap.size := fun e => by have := qal hS.ref.wrow e; omega
  go_wp2_with fail
  refine (qlm hSA.ref EW).mono ?_
  rintro e w1 ⟨hl, rfl, hrow, hb1⟩
  obtain ⟨ah, ch, rfl, hcell⟩ := qn5 hrow
  have hS1 := hSA.below hb1
  have b51 := bA.below hb1 bA.lt
  have hz1 : br < w1.heap.size := hS1.ref.qii
  have hHm : Hid (∀ i ∈ qcn s.Ws, i < n /\ headAt s.Ws i = true) := fun i hi => by rw [<- hlen]; exact qfg hi
  have hm24 : (qcn s.Ws).length <= 24 := Nat.le_trans (qgr _ _) (by omega)
  have hgh0 : ∀ gh, ah = some ⟨gh, 0, none⟩ -> wr.heap.size < gh := fun gh e => by
   subst e
   have := (hrow.lt gh rfl).1
   simp at this; omega
  obtain ⟨hs, hhs⟩ : ∃ hs, hs = qcn s.Ws := ⟨_, rfl⟩
  have HHS : Hid (hs = qcn s.Ws) := hhs
  rw [<- hhs] at hcell hHm hm24 ⊢
  clear hhs hrow hSA bA hbA hb1 hS
  generalize wr.heap.size = b5 at b51 hb5w hb5s hb5r hgh0 ⊢
  obtain ⟨m, hm⟩ : ∃ m, m = hs.length := ⟨_, rfl⟩
  rw [<- hm] at hcell hm24 ⊢
  have HM : Hid (m = hs.length) := hm
  clear hm
  have hT : ∀ b, b = b5 -> w.heap.size <= b /\ u3.ownBlock ≠ some b /\ (Value.slice a s.Ws.length c).ownBlock ≠ some b := fun b e => by subst e; exact ⟨hb5w, hb5s, hb5r⟩
  have hSk : Hid (∀ W, Keep (fun b => b = b5) w1 W -> qck w br g cap L o0 cnt n W a c s.Ws s.st u3 s.evs) := fun W hW => hS1.other hbr hgl hW hT
  clear hT
  go_wp2_with fail
  go_loopw [4, 7] (fun bst i w2 => ∃ k : Nat, k <= m /\ i = .int .i64 k /\ bst = .int .i64 (optI (qaw L s.Ws (hs.take k)).1) /\ Keep (fun b => b = b5) w1 w2 /\ Blk w2 b5 209 #[.int .i64 (qaw L s.Ws (hs.take k)).2.1, .int .i64 (qaw L s.Ws (hs.take k)).2.2]) (fun _ i _ => m - (intOf i).toNat)
  case atStart => exact ⟨0, Nat.zero_le _, rfl, rfl, Keep.refl _ _, b51⟩
  case round =>
   clear b51
   obtain ⟨k, hkm, rfl, rfl, hkp, b5k⟩ := hrel
   have hSr := hSk.out _ hkp
   have hbr2 : br < wr.heap.size := hSr.ref.qii
   have hc1 : wr.cell? ⟨br, 1, none⟩ = some (.slice a n c) := by have := hSr.ref.ref.at_.cell 1; rw [<- hlen]; simpa using this
   by_cases hlt : k < m
   ·obtain ⟨i, hi⟩ : ∃ i, hs[k]? = some i := ⟨_, List.getElem?_eq_getElem (by rw [<- HM.out]; exact hlt)⟩
    obtain ⟨hin, hih⟩ := hHm.out i (List.mem_of_getElem? hi)
    obtain ⟨x, hx⟩ : ∃ x, s.Ws[i]? = some x := ⟨_, List.getElem?_eq_getElem (by omega)⟩
    obtain ⟨gh, hah, hgh, hch1, hch2, hci⟩ := hcell k i hi
    have hgh1 := hgh0 gh hah
    subst hah
    have hci2 := (hkp.cell (p := ⟨gh, k, none⟩) hgh (by show ¬ (gh = b5); omega)).trans hci
    obtain ⟨b, hao, hbl, hcw1, hcw2, p0, p1, p2, p3, p4⟩ := hSr.ref.wk hx
    rw [hlen] at hcw1
    subst hao
    have hki : (k : Int) < m := by omega
    have hki0 : (0 : Int) <= k := by omega
    have hii : (i : Int) < n := by omega
    have hii0 : (0 : Int) <= i := by omega
    have hxok := EW.at_ (List.mem_of_getElem? hx)
    have HX : Hid (s.Ws[i]? = some x) := hx
    have HT : Hid (qaw L s.Ws (hs.take (k + 1)) = qa3 L s.Ws (qaw L s.Ws (hs.take k)) i) := by
     show _ = _
     rw [show hs.take (k + 1) = hs.take k ++ [i] from by
      rw [List.take_succ_eq_append_getElem (by rw [<- HM.out]; exact hlt)]
      rw [List.getElem?_eq_getElem (by rw [<- HM.out]; exact hlt)] at hi; cases hi; rfl]
     rw [qks]
    obtain ⟨hbd, hpk⟩ := qse E EW (hs.take k)
    have HPK : Hid (∀ b0, (qaw L s.Ws (hs.take k)).1 = some b0 -> ∃ y, s.Ws[b0]? = some y) := hpk
    clear hpk hi hih hcell
    have HHm := hHm
    clear hHm hx
    generalize qaw L s.Ws (hs.take k) = acc at HT hbd HPK b5k ⊢
    obtain ⟨pk, l1, l2⟩ := acc
    simp only at hbd b5k
    have hgw : gh < wr.heap.size := Nat.lt_of_lt_of_le hgh hkp.size
    have e1 : ¬ (b = wr.heap.size) := by omega
    have e2 : ¬ (br = wr.heap.size) := by omega
    have e3 : ¬ (gh = wr.heap.size) := by omega
    obtain ⟨B, hB⟩ : ∃ B, B = optI pk := ⟨_, rfl⟩
    simp only
    rw [<- hB]
    have HB : Hid (B = optI pk) := hB
    clear hB
    go_upto_region 8 with fail
    go_region
    go_wp2_with fail
    have hBA : Below wr.heap.size wr (wr.alloc (.cells #[.int .i64 x.num, .string (sb (joinB x.key)), .int .i64 x.d0, .int .i64 x.d1, .int .i64 x.st] 178)).drew := by exact bel2
    have bxA : Blk (wr.alloc (.cells #[.int .i64 x.num, .string (sb (joinB x.key)), .int .i64 x.d0, .int .i64 x.d1, .int .i64 x.st] 178)).drew wr.heap.size 178 #[.int .i64 x.num, .string (sb (joinB x.key)), .int .i64 x.d0, .int .i64 x.d1, .int .i64 x.st] := (Blk.new wr 178 _).drew
    have hSA := hSr.below hBA
    have b5A := b5k.below hBA b5k.lt
    have hkA := hkp.qc5 hBA
    generalize (wr.alloc (.cells #[.int .i64 x.num, .string (sb (joinB x.key)), .int .i64 x.d0, .int .i64 x.d1, .int .i64 x.st] 178)).drew = WA at bxA hSA b5A hkA ⊢
    refine (qoj hSA.ref E EB EW x hxok).mono ?_
    rintro e w4 ⟨rfl, hb4⟩
    have hS4 := hSA.below hb4
    have b54 := b5A.below hb4 b5A.lt
    have hk4 := hkA.qc5 hb4
    have bx4 := bxA.below hb4 bxA.lt
    have y0 := bx4.cell 0
    have y1 := bx4.cell 1
    have y2 := bx4.cell 2
    have y3 := bx4.cell 3
    have y4 := bx4.cell 4
    simp only [List.getElem?_toArray, List.getElem?_cons_zero, List.getElem?_cons_succ] at y0 y1 y2 y3 y4
    have HFIN : Hid (∀ (bb p1 p2 : Int) (W : World), Keep (fun b => b = b5) w1 W -> Blk W b5 209 #[.int .i64 p1, .int .i64 p2] -> bb = optI (qaw L s.Ws (hs.take (k + 1))).1 -> p1 = (qaw L s.Ws (hs.take (k + 1))).2.1 -> p2 = (qaw L s.Ws (hs.take (k + 1))).2.2 -> (∃ k_1 : Nat, k_1 <= m /\ Value.int .i64 ((k : Int) + 1) = Value.int .i64 k_1 /\ Value.int .i64 bb = Value.int .i64 (optI (qaw L s.Ws (hs.take k_1)).1) /\ Keep (fun b => b = b5) w1 W /\ Blk W b5 209 #[.int .i64 (qaw L s.Ws (hs.take k_1)).2.1, .int .i64 (qaw L s.Ws (hs.take k_1)).2.2]) /\ m - (intOf (Value.int .i64 ((k : Int) + 1))).toNat < m - (intOf (Value.int .i64 (k : Int))).toNat) :=
     fun bb p1 p2 W h1 h2 h3 h4 h5 => ⟨⟨k + 1, by omega, by go_num, by rw [h3], h1, by rw [<- h4, <- h5]; exact h2⟩, by simp [intOf]; omega⟩
    clear hSr b5k hkp hBA hSA b5A hkA bxA hb4 p0 p1 p2 p3 p4 hc1
    cases hff : qbm L s.Ws x
    ·have HT2 : Hid (qaw L s.Ws (hs.take (k + 1)) = (pk, (l1, l2))) := by
      show _ = _
      rw [HT.out]; unfold qa3; rw [HX.out]; simp [hff]
     clear hff HT
     go_wp2_with fail
     exact HFIN.out _ _ _ _ hk4 b54 (by rw [HT2.out, HB.out]) (by rw [HT2.out]) (by rw [HT2.out])
    ·have HT2 : Hid (qaw L s.Ws (hs.take (k + 1)) = if (match pk with | none => true | some b => qc2 (qav L s.Ws x) (l1, l2) || (!qc2 (l1, l2) (qav L s.Ws x) && decide (x.num < qub s.Ws b))) then (some i, qav L s.Ws x) else (pk, (l1, l2))) := by
      show _ = _
      rw [HT.out]; unfold qa3; rw [HX.out]; simp only [hff, if_true]
      rfl
     clear hff HT
     go_wp2_with fail
     refine (qql hS4.ref E EW x hxok).mono ?_
     rintro e w5 ⟨rfl, hb5⟩
     have hS5 := hS4.below hb5
     have b55 := b54.below hb5 b54.lt
     have hk5 := hk4.qc5 hb5
     have bx5 := bx4.below hb5 bx4.lt
     have hqb := qln E EW hxok
     clear hS4 b54 hk4 bx4 y0 y1 y2 y3 y4 hb5
     generalize qav L s.Ws x = shx at HT2 hqb ⊢
     obtain ⟨q1, q2⟩ := shx
     simp only at hqb ⊢
     have hBB : Below w5.heap.size w5 (w5.alloc (.cells #[.int .i64 q1, .int .i64 q2] 209)) := by exact bel2
     have bq : Blk (w5.alloc (.cells #[.int .i64 q1, .int .i64 q2] 209)) w5.heap.size 209 #[.int .i64 q1, .int .i64 q2] := Blk.new w5 209 _
     have hSB := hS5.below hBB
     have b5B := b55.below hBB b55.lt
     have hkB := hk5.qc5 hBB
     have bxB := bx5.below hBB bx5.lt
     have f5 : ¬ (b5 = w5.heap.size) := by have := b55.lt; omega
     have hless1 := qe9 q1 q2 l1 l2 (by omega) (by omega) (by omega) (by omega)
     have hless2 := qe9 l1 l2 q1 q2 (by omega) (by omega) (by omega) (by omega)
     go_upto_region 12 with fail
     have hb10 : ¬ (w5.heap.size = b5) := fun e => f5 e.symm
     generalize w5.alloc (.cells #[.int .i64 q1, .int .i64 q2] 209) = WB at bq hSB b5B hkB bxB ⊢
     clear hS5 b55 hk5 bx5 hBB f5
     generalize w5.heap.size = b10 at bq hb10 ⊢
     have z0 := b5B.cell 0
     have z1 := b5B.cell 1
     have z2 := bq.cell 0
     have z3 := bq.cell 1
     simp only [List.getElem?_toArray, List.getElem?_cons_zero, List.getElem?_cons_succ] at z0 z1 z2 z3
     go_wp2_with fail
     refine (hless1 _).mono ?_
     rintro e w6 ⟨rfl, hb6⟩
     have hS6 := hSB.below hb6
     have b56 := b5B.below hb6 b5B.lt
     have hk6 := hkB.qc5 hb6
     have bx6 := bxB.below hb6 bxB.lt
     have bq6 := bq.below hb6 bq.lt
     clear hSB b5B hkB bxB bq hb6 z0 z1 z2 z3
     have z0 := b56.cell 0
     have z1 := b56.cell 1
     have z2 := bq6.cell 0
     have z3 := bq6.cell 1
     simp only [List.getElem?_toArray, List.getElem?_cons_zero, List.getElem?_cons_succ] at z0 z1 z2 z3
     go_wp2_with fail
     refine (hless2 _).mono ?_
     rintro e w7 ⟨rfl, hb7⟩
     have hS7 := hS6.below hb7
     have b57 := b56.below hb7 b56.lt
     have hk7 := hk6.qc5 hb7
     have bx7 := bx6.below hb7 bx6.lt
     have bq7 := bq6.below hb7 bq6.lt
     clear hS6 b56 hk6 bx6 bq6 hb7 z0 z1 z2 z3 hless1 hless2
     have z0 := b57.cell 0
     have z1 := b57.cell 1
     have z2 := bq7.cell 0
     have z3 := bq7.cell 1
     have z4 := bx7.cell 0
     have r0 := b57.frozen 0
     have r1 := b57.frozen 1
     simp only [List.getElem?_toArray, List.getElem?_cons_zero, List.getElem?_cons_succ] at z0 z1 z2 z3 z4
     have hci7 := (hk7.cell (p := ⟨gh, k, none⟩) hgh (by show ¬ (gh = b5); omega)).trans hci
     have hc7 : w7.cell? ⟨br, 1, none⟩ = some (.slice (some ⟨b, 0, none⟩) n c) := by have := hS7.ref.ref.at_.cell 1; rw [<- hlen]; simpa using this
     have HTAKE : Hid (∀ (bb : Int) (nq : Nat), bb = i -> qaw L s.Ws (hs.take (k + 1)) = (some i, (q1, q2)) -> (∃ k_1 : Nat, k_1 <= m /\ Value.int .i64 ((k : Int) + 1) = Value.int .i64 k_1 /\ Value.int .i64 bb = Value.int .i64 (optI (qaw L s.Ws (hs.take k_1)).1) /\ Keep (fun b => b = b5) w1 (((w7.drewN nq).setCell ⟨b5, 0, none⟩ (.int .i64 q1)).setCell ⟨b5, 1, none⟩ (.int .i64 q2)) /\ Blk (((w7.drewN nq).setCell ⟨b5, 0, none⟩ (.int .i64 q1)).setCell ⟨b5, 1, none⟩ (.int .i64 q2)) b5 209 #[.int .i64 (qaw L s.Ws (hs.take k_1)).2.1, .int .i64 (qaw L s.Ws (hs.take k_1)).2.2]) /\ m - (intOf (Value.int .i64 ((k : Int) + 1))).toNat < m - (intOf (Value.int .i64 (k : Int))).toNat) := by
      show ∀ (bb : Int) (nq : Nat), bb = i -> qaw L s.Ws (hs.take (k + 1)) = (some i, (q1, q2)) -> _
      intro bb nq e1 e2
      refine HFIN.out bb q1 q2 _ ?_ ?_ (by rw [e2, e1]; rfl) (by rw [e2]) (by rw [e2])
      ·exact ((hk7.qc5 (below_drewN (Below.refl _ _) nq)).setCell (p := ⟨b5, 0, none⟩) rfl _).setCell (p := ⟨b5, 1, none⟩) rfl _
      ·have := ((b57.drewN nq).set 0 (.int .i64 q1)).set 1 (.int .i64 q2)
       simpa using this
     have HLEAVE : Hid (∀ (nq : Nat), qaw L s.Ws (hs.take (k + 1)) = (pk, (l1, l2)) -> (∃ k_1 : Nat, k_1 <= m /\ Value.int .i64 ((k : Int) + 1) = Value.int .i64 k_1 /\ Value.int .i64 B = Value.int .i64 (optI (qaw L s.Ws (hs.take k_1)).1) /\ Keep (fun b => b = b5) w1 (w7.drewN nq) /\ Blk (w7.drewN nq) b5 209 #[.int .i64 (qaw L s.Ws (hs.take k_1)).2.1, .int .i64 (qaw L s.Ws (hs.take k_1)).2.2]) /\ m - (intOf (Value.int .i64 ((k : Int) + 1))).toNat < m - (intOf (Value.int .i64 (k : Int))).toNat) := fun nq e2 => HFIN.out B l1 l2 _ (hk7.qc5 (below_drewN (Below.refl _ _) nq)) (b57.drewN nq) (by rw [e2, HB.out]) (by rw [e2]) (by rw [e2])
     have hwk7 : Hid (∀ (j : Nat) y, s.Ws[j]? = some y -> j < n /\ w7.cell? ⟨b, j * 5, none⟩ = some (.int .i64 y.num)) := by
      show ∀ (j : Nat) y, s.Ws[j]? = some y -> j < n /\ w7.cell? ⟨b, j * 5, none⟩ = some (.int .i64 y.num)
      intro j y hy
      obtain ⟨b', hao', _, _, _, t0, _⟩ := hS7.ref.wk hy
      injection hao' with hao'; injection hao' with hao'; subst hao'
      exact ⟨by rw [<- hlen]; exact (List.getElem?_eq_some_iff.1 hy).1, t0⟩
     clear HFIN hS7 b57 hk7 bx7 bq7 hci hci2
     have HL : Hid (qc2 (q1, q2) (l1, l2) = decide (q1 * l2 < l1 * q2) /\ qc2 (l1, l2) (q1, q2) = decide (l1 * q2 < q1 * l2)) := ⟨rfl, rfl⟩
     generalize decide (q1 * l2 < l1 * q2) = t1 at HL ⊢
     generalize decide (l1 * q2 < q1 * l2) = t2 at HL ⊢
     cases hpk2 : pk with
     | none =>
      have hB1 : B = -1 := by rw [HB.out, hpk2]; rfl
      have HP2 : Hid (qaw L s.Ws (hs.take (k + 1)) = (some i, (q1, q2))) := by
       show _ = _
       rw [HT2.out, hpk2]; rfl
      subst hB1
      clear HT2 HB hpk2 HPK HL hwk7 HLEAVE
      go_wp2_with fail
      go_quiet (fail)
      go_wp2_with fail
      exact HTAKE.out _ _ rfl HP2.out
     | some b0 =>
      have hB1 : B = (b0 : Int) := by rw [HB.out, hpk2]; rfl
      obtain ⟨y, hy⟩ := HPK.out b0 hpk2
      obtain ⟨hb0n, t0⟩ := hwk7.out b0 y hy
      have HP2 : Hid (qaw L s.Ws (hs.take (k + 1)) = if (t1 || (!t2 && decide (x.num < y.num))) then (some i, (q1, q2)) else (pk, (l1, l2))) := by
       show _ = _
       rw [HT2.out, hpk2]
       simp only [HL.out.1, HL.out.2, qnu hy]
      subst hB1
      clear HT2 HB hpk2 HPK HL hwk7 hy
      have hbi : (b0 : Int) < n := by omega
      have hbi0 : (0 : Int) <= b0 := by omega
      have hbi1 : decide ((b0 : Int) < 0) = false := decide_eq_false (by omega)
      cases t1
      ·cases t2
       ·by_cases hxy : x.num < y.num
        ·have HP3 : Hid (qaw L s.Ws (hs.take (k + 1)) = (some i, (q1, q2))) := by
          show _ = _
          rw [HP2.out]; simp [hxy]
         have hxy2 : decide (x.num < y.num) = true := decide_eq_true hxy
         clear HP2 HLEAVE hxy
         go_wp2_with fail
         go_quiet (fail)
         go_wp2_with fail
         exact HTAKE.out _ _ rfl HP3.out
        ·have HP3 : Hid (qaw L s.Ws (hs.take (k + 1)) = (pk, (l1, l2))) := by
          show _ = _
          rw [HP2.out]; simp [hxy]
         have hxy2 : decide (x.num < y.num) = false := decide_eq_false hxy
         clear HP2 HTAKE hxy
         go_wp2_with fail
         go_quiet (fail)
         go_wp2_with fail
         exact HLEAVE.out _ HP3.out
       ·have HP3 : Hid (qaw L s.Ws (hs.take (k + 1)) = (pk, (l1, l2))) := by
         show _ = _
         rw [HP2.out]; simp
        clear HP2 HTAKE
        go_wp2_with fail
        go_quiet (fail)
        go_wp2_with fail
        exact HLEAVE.out _ HP3.out
      ·have HP3 : Hid (qaw L s.Ws (hs.take (k + 1)) = (some i, (q1, q2))) := by
        show _ = _
        rw [HP2.out]; simp
       clear HP2 HLEAVE
       go_wp2_with fail
       go_quiet (fail)
       go_wp2_with fail
       exact HTAKE.out _ _ rfl HP3.out
   ·have HPW : Hid ((qaw L s.Ws (hs.take k)).1 = qd1 L s.Ws) := by
     show _ = _
     rw [List.take_of_length_le (by rw [<- HM.out]; omega), HHS.out]; rfl
    rw [HPW.out]
    have hkm2 : k = m := by omega
    clear hcell hHm hSk hS1 HPW HHS HM b5k hkp hc1
    cases hpw : qd1 L s.Ws with
    | none =>
     have hdone := hR.done (show qas L s = none from by unfold qas; rw [hpw])
     have HD : Hid (s = qaj L s0) := hdone
     clear hdone hpw
     have hB1 : optI none = (-1 : Int) := rfl
     rw [hB1]
     go_wp2_with fail
     go_ret
     rw [<- HD.out]
     exact ⟨_, _, _, rfl, hSr⟩
    | some b0 =>
     obtain ⟨x, hx, hxh, hxo⟩ := qc7 hpw
     have hstep : qas L s = some (qds b0 x s) := by unfold qas; rw [hpw]; simp only; rw [hx]
     have hb0n : b0 < n := by rw [<- hlen]; exact (List.getElem?_eq_some_iff.1 hx).1
     have hbi1 : ¬ ((b0 : Int) < 0) := by omega
     have hB1 : optI (some b0) = (b0 : Int) := rfl
     rw [hB1]
     have hstb : 0 <= s.st /\ s.st <= 1000000000 := ⟨hR.inv.st0, by have := hR.st; omega⟩
     have hevb := hR.ev
     have hadm := qld hSr.ref EW hx hstb
     have hap : ∀ W : World, W.ownsRow 0 60 2 u3 s.evs.length (qai s.evs) -> ∃ v' w', (∀ ty, (Builtin.append_ #[48, 48] ty #[u3, .slice (some ⟨W.heap.size + 1, 0, none⟩) 1 1]).run Tryz.prog ((W.alloc (.cells #[.int .i64 1, .int .i64 x.num] 60)).alloc (.cells #[.int .i64 1, .int .i64 x.num] 60)) = .ok v' w') /\ ∃ g cap, v' = .slice (some ⟨g, 0, none⟩) (s.evs.length + 1) cap /\ AppR ((W.alloc (.cells #[.int .i64 1, .int .i64 x.num] 60)).alloc (.cells #[.int .i64 1, .int .i64 x.num] 60)) u3.ownBlock 60 2 (s.evs.length + 1) (qai s.evs ++ qai [(1, x.num)]) g cap w' :=
      fun W hrow => qby un48 qm7 (by omega) _ u3 s.evs.length (qai s.evs) ((hrow.alloc _).alloc _) (W.heap.size + 1) 1 1 (by omega) (qai [(1, x.num)]) rfl (Blk.new' (by simp)) (qq4 _ _) (by unfold maxLen; omega) (by omega)
     have hN := hR.next hstep
     have HN2 : Hid (qd5 L s0 (qds b0 x s) /\ qcm (qds b0 x s).Ws < qcm s.Ws) := hN
     clear hpw hxh hxo hstep hN hR
     go_wp2_with fail
     refine hadm.mono ?_
     rintro e w7 ⟨rfl, hA⟩
     have hS7 := hSr.admit hbr (by rw [List.length_set]) hA
     have hap7 := hap w7 hS7.row
     have hS8 := hS7.below (((Below.refl _ _).alloc (Nat.le_refl _) _).alloc (by simp) _ : Below w7.heap.size w7 ((w7.alloc (.cells #[.int .i64 1, .int .i64 x.num] 60)).alloc (.cells #[.int .i64 1, .int .i64 x.num] 60)))
     clear hap hadm hA hS7 hSr
     go_wp2_with (at_builtin; refine qah (by rfl) _ _ _ _ rfl _ _ rfl (by rfl) hap7 ?_; rintro v1 w8 ⟨g8, q8, rfl, R8⟩)
     have hS9 := hS8.tell hbr hgl R8
     go_roundg (qcm (qds b0 x s).Ws)
     case measure => have := HN2.out.2; omega
     case rel => exact ⟨qds b0 x s, _, _, Nat.le_refl _, HN2.out.1, hS9⟩
structure qdw (w : World) (br g : Nat) (o0 : Option Nat) (L : List Ent) (cnt : Int) (s : SS) (sl : Value) (w' : World) : Prop where
 ex : ∃ g' cap ao cW, GRef w' br g' cap L ao cW s.Ws cnt s.st /\ (g' = g \/ w.heap.size <= g') /\ (∀ b, (Value.slice ao s.Ws.length cW).ownBlock = some b -> (b < w.heap.size -> o0 = some b) /\ sl.ownBlock ≠ some b)
 keep : Keep (fun b => b = br \/ b = g \/ o0 = some b) w w'
 row : w'.ownsRow 0 60 2 sl s.evs.length (qai s.evs)
 new : ∀ b, sl.ownBlock = some b -> w.heap.size <= b
theorem qdw.qn3 {w w3 W : World} {br g g3 cap : Nat} {L : List Ent} {o0 o3 : Option Nat} {cnt : Int} {n : Nat} {a : Option Addr} {c : Nat} {s : SS} {sl : Value} (hk : Keep (fun b => b = br \/ b = g \/ o0 = some b) w w3) (hS : qck w3 br g3 cap L o3 cnt n W a c s.Ws s.st sl s.evs) (ho : ∀ b, o3 = some b -> b < w.heap.size -> o0 = some b) (hg : g3 = g \/ w.heap.size <= g3) : qdw w br g o0 L cnt s sl W := by
 have hz := hk.size
 refine ⟨⟨g3, cap, a, c, hS.ref, hg, fun b hb => ⟨fun hlt => ho b (hS.old b hb (by omega)) hlt, fun e => hS.sep b e hb⟩⟩, hk.step hS.keep (fun b hb e => ?_), hS.row, fun b hb => Nat.le_trans hz (hS.new b hb)⟩
 rcases e with e | e
 ·exact .inl e
 ·exact .inr (.inr (ho b e hb))
theorem Wks.sub {Ws Ws' : List Wk} (h : Wks Ws) (hs : Ws'.Sublist Ws) : Wks Ws' :=
 ⟨fun x hx => h.ok x (hs.subset hx), fun x hx => h.num x (hs.subset hx), Nat.le_trans hs.length_le h.len⟩
theorem WkS.sub {Ws Ws' : List Wk} {st : Int} (h : WkS Ws st) (hs : Ws'.Sublist Ws) : WkS Ws' st :=
 ⟨h.wks.sub hs, h.nums.sublist (hs.map _), fun x hx => h.st x (hs.subset hx), h.sts.sublist ((hs.filter _).map _)⟩
theorem Anti.sub {Ws Ws' : List Wk} (h : Anti Ws) (hs : Ws'.Sublist Ws) : Anti Ws' := fun x hx y hy e => h x (hs.subset hx) y (hs.subset hy) e
theorem qej (Ws : List Wk) (i : Nat) : (Ws.take i ++ Ws.drop (i + 1)).Sublist Ws := by
 conv => rhs; rw [<- List.take_append_drop i Ws]
 exact List.Sublist.append (List.Sublist.refl _) (List.drop_sublist_drop_left Ws (Nat.le_succ i))
def FinG (br g : Nat) (o0 : Option Nat) (L : List Ent) (Ws : List Wk) (cnt st m : Int) (w : World) (e : Ending) (w' : World) : Prop :=
 ((∀ x ∈ Ws, x.num ≠ m) /\ e = .returned (.tuple #[.slice none 0 0, .int .i64 12]) /\ w' = w) \/
 (∃ (i : Nat) (x : Wk) (sl : Value), Ws[i]? = some x /\ x.num = m /\ e = .returned (.tuple #[sl, .int .i64 0]) /\ qdw w br g o0 L cnt (qaj L ⟨Ws.take i ++ Ws.drop (i + 1), st, []⟩) sl w')
set_option maxRecDepth 100000 in
set_option maxHeartbeats 4000000 in
theorem qox {w : World} {br g cap : Nat} {L : List Ent} {ao : Option Addr} {cW : Nat} {Ws : List Wk} {cnt st : Int} (h : GRef w br g cap L ao cW Ws cnt st) (E : Ents L) (EB : Bors L) (I : SInv ⟨Ws, st, []⟩) (hst : st <= 900000000) (m : Int) :
  Calls Tryz.prog 71 #[.pointer (some ⟨br, 0, none⟩), .int .i64 m] w (FinG br g (Value.slice ao Ws.length cW).ownBlock L Ws cnt st m w) := by
 have hplace := qh6 h I.wks.wks m
 have hbr := h.qii
 have hgl : g < w.heap.size := (h.ref.row.lt g rfl).2
 have hn24 := I.wks.wks.len
 simp only at hn24
 go_enter Tryz.func71, Tryz.ntmps71
 go_wp2_with fail
 refine hplace.mono ?_
 rintro e w1 ⟨hpl, hw1⟩
 subst hw1
 clear hplace
 rcases hpl with ⟨i, x, rfl, hi, hx⟩ | ⟨hno, rfl⟩
 ·obtain ⟨b, hao, hbl, hcw1, hcw2, p0, p1, p2, p3, p4⟩ := h.wk hi
  have hil := (List.getElem?_eq_some_iff.1 hi).1
  have hne := h.ne1 b (by rw [hao]; rfl)
  have hat := h.ref.at_
  have c1 := hat.cell 1
  have f1 := hat.frozen 1
  simp only [List.getElem?_toArray, List.getElem?_cons_zero, List.getElem?_cons_succ] at c1
  obtain ⟨n, hn⟩ : ∃ n, n = Ws.length := ⟨_, rfl⟩
  have hcells := h.wrow
  rw [<- hn] at c1 hil hcw1 hn24 hcells
  have hii : (i : Int) < n := by omega
  have hi0 : (0 : Int) <= i := by omega
  have hi1 : ¬ ((i : Int) < 0) := by omega
  subst hao
  have HN : Hid (n = Ws.length) := hn
  have hcl : ∀ (W : World), Below w1.heap.size w1 W -> ∀ j u, (qad Ws)[j]? = some u -> W.cell? ⟨b, j, none⟩ = some u := fun W hW j u hu => by
   have := hcells.cells (g := b) rfl j u hu
   rw [Addr.add_lit, Nat.zero_add] at this
   exact (hW.cell (p := ⟨b, j, none⟩) hbl).trans this
  have ap1 := qrk un70 qr3 (by omega) w1 none 0 0 (Nat.le_refl _) (Nat.zero_le _) [] (World.ownsRow_nil _ _ _ _) (some ⟨b, 0, none⟩) i cW (qad (Ws.take i)) (by rw [qdo, List.length_take]; rw [Nat.min_eq_left (by omega)])
   (fun _ => ⟨_, rfl, fun j u hu => by
    rw [Addr.add_lit, Nat.zero_add]
    refine hcl w1 (Below.refl _ _) j u ?_
    rw [qod] at hu
    rw [List.getElem?_take] at hu
    split at hu
    ·exact hu
    ·cases hu⟩) (qio _) (by unfold maxLen; omega) (by omega)
  simp only [Nat.zero_add, List.nil_append] at ap1
  have hb1 : ∀ a1 q1 w2, AppO w1 (Value.slice none 0 0).ownBlock 178 5 i (qad (Ws.take i)) a1 q1 w2 -> Below w1.heap.size w1 w2 := fun a1 q1 w2 R => ⟨R.keep.os, R.keep.tape, R.keep.output, R.keep.size, fun k hk => R.keep.block k hk (by simp [Value.ownBlock])⟩
  have ap2 : ∀ a1 q1 w2, AppO w1 (Value.slice none 0 0).ownBlock 178 5 i (qad (Ws.take i)) a1 q1 w2 -> ∀ (x2 : Option Addr) (c2 : Nat), (0 < n - (i + 1) -> x2 = some ⟨b, (i + 1) * 5, none⟩) ->
    ∃ v' w', (∀ ty, (Builtin.append_ #[165, 165] ty #[.slice a1 i q1, .slice x2 (n - (i + 1)) c2]).run Tryz.prog w2 = .ok v' w') /\ ∃ a' cap', v' = .slice a' (i + (n - (i + 1))) cap' /\ AppO w2 (Value.slice a1 i q1).ownBlock 178 5 (i + (n - (i + 1))) (qad (Ws.take i) ++ qad (Ws.drop (i + 1))) a' cap' w' :=
   fun a1 q1 w2 R x2 c2 hx2 => qrk un70 qr3 (by omega) w2 a1 i q1 R.le R.mx _ R.own x2 (n - (i + 1)) c2 (qad (Ws.drop (i + 1))) (by rw [qdo, List.length_drop, <- HN.out])
    (fun hm => ⟨_, hx2 hm, fun j u hu => by
     rw [qnv, List.getElem?_drop] at hu
     rw [Addr.add_lit]
     exact hcl w2 (hb1 _ _ _ R) _ u hu⟩) (qio _) (by unfold maxLen; omega) (by omega)
  have hpost : ∀ a1 q1 w2 a2 q2 w3, AppO w1 (Value.slice none 0 0).ownBlock 178 5 i (qad (Ws.take i)) a1 q1 w2 -> AppO w2 (Value.slice a1 i q1).ownBlock 178 5 (i + (n - (i + 1))) (qad (Ws.take i) ++ qad (Ws.drop (i + 1))) a2 q2 w3 ->
    GRef (w3.setCell ⟨br, 1, none⟩ (.slice a2 (i + (n - (i + 1))) q2)) br g cap L a2 q2 (Ws.take i ++ Ws.drop (i + 1)) cnt st /\ Keep (fun y => y = br) w1 (w3.setCell ⟨br, 1, none⟩ (.slice a2 (i + (n - (i + 1))) q2)) /\ (∀ y, (Value.slice a2 (i + (n - (i + 1))) q2).ownBlock = some y -> w1.heap.size <= y) /\ Below w1.heap.size w1 w3 := fun a1 q1 w2 a2 q2 w3 R1 R2 => by
   have hB1 := hb1 _ _ _ R1
   have hnew1 : ∀ y, (Value.slice a1 i q1).ownBlock = some y -> w1.heap.size <= y := fun y hy => by
    rcases R1.new y hy with e | e
    ·simp [Value.ownBlock] at e
    ·exact e
   have hB2 : Below w1.heap.size w1 w3 := hB1.trans ⟨R2.keep.os, R2.keep.tape, R2.keep.output, R2.keep.size, fun k hk => R2.keep.block k (by have := hB1.size; omega) (fun e => by have := hnew1 k e; omega)⟩
   have hnew2 : ∀ y, (Value.slice a2 (i + (n - (i + 1))) q2).ownBlock = some y -> w1.heap.size <= y := fun y hy => by
    rcases R2.new y hy with e | e
    ·exact hnew1 y e
    ·have := hB1.size; omega
   have hlen : (Ws.take i ++ Ws.drop (i + 1)).length = i + (n - (i + 1)) := by
    have := HN.out
    simp; omega
   have hk : Keep (fun y => y = br) w1 (w3.setCell ⟨br, 1, none⟩ (.slice a2 (i + (n - (i + 1))) q2)) := (Keep.new (T := fun y => y = br) hB2).setCell (p := ⟨br, 1, none⟩) rfl _
   refine ⟨⟨⟨?_, ?_⟩, ?_, ?_⟩, hk, hnew2, hB2⟩
   ·have h1 := (hat.below hB2 hbr).set 1 (.slice a2 (i + (n - (i + 1))) q2)
    rw [hlen]
    simpa using h1
   ·exact qab h.ref.row hk (fun y hy e => by simp [Value.ownBlock] at hy; subst hy; exact h.ref.ne e.symm)
   ·rw [hlen, show qad (Ws.take i ++ Ws.drop (i + 1)) = qad (Ws.take i) ++ qad (Ws.drop (i + 1)) by simp [qad]]
    exact ownsRow_setCell_other R2.own (fun e => by have := hnew2 _ e; simp at this; omega) _
   ·intro y hy
    rw [hlen] at hy
    have := hnew2 y hy
    exact ⟨by omega, by omega⟩
  have hsub := qej Ws i
  have I2 : SInv ⟨Ws.take i ++ Ws.drop (i + 1), st, []⟩ := ⟨I.wks.sub hsub, I.st0, I.anti.sub hsub⟩
  have hset := fun W a c (hG : GRef W br g cap L a c (Ws.take i ++ Ws.drop (i + 1)) cnt st) => settle_ref hG E EB I2 hst
  have hlen2 : (Ws.take i ++ Ws.drop (i + 1)).length = i + (n - (i + 1)) := by
   have := HN.out
   simp; omega
  have HG : Hid (∀ (W W' : World) (a c' : _) (sl : Value), Keep (fun y => y = br) w1 W -> (∀ y, (Value.slice a (i + (n - (i + 1))) c').ownBlock = some y -> w1.heap.size <= y) -> (∃ ao' cW', qck W br g cap L (Value.slice a (Ws.take i ++ Ws.drop (i + 1)).length c').ownBlock cnt (Ws.take i ++ Ws.drop (i + 1)).length W' ao' cW' (qaj L ⟨Ws.take i ++ Ws.drop (i + 1), st, []⟩).Ws (qaj L ⟨Ws.take i ++ Ws.drop (i + 1), st, []⟩).st sl (qaj L ⟨Ws.take i ++ Ws.drop (i + 1), st, []⟩).evs) -> FinG br g (Value.slice (some ⟨b, 0, none⟩) Ws.length cW).ownBlock L Ws cnt st m w1 (.returned (.tuple #[sl, .int .i64 0])) W') := by
   intro W W' a c' sl hK hnew ⟨ao', cW', hS⟩
   rw [hlen2] at hS
   refine .inr ⟨i, x, sl, hi, hx, rfl, qdw.qn3 (hK.mono (fun y e => .inl e)) hS (fun y hy hlt => ?_) (.inl rfl)⟩
   have := hnew y hy; omega
  have hz : ∀ w3 : World, Below w1.heap.size w1 w3 -> w3.cell? ⟨br, 1, none⟩ = some (.slice (some ⟨b, 0, none⟩) n cW) /\ w3.frozen? ⟨br, 1, none⟩ = false := fun w3 hB => ⟨(hB.cell (p := ⟨br, 1, none⟩) hbr).trans c1, (hat.below hB hbr).frozen 1⟩
  clear hcl hat h I I2 hi hx hcells p0 p1 p2 p3 p4 hn hsub hlen2 EB E
  go_upto_region 6 with (at_builtin; refine qah (by rfl) _ _ _ _ rfl _ _ rfl (by rfl) ap1 ?_; rintro v1 w2 ⟨a1, q1, rfl, R1⟩)
  have hB1 := hb1 _ _ _ R1
  have c2 := (hz _ hB1).1
  have hap2 := ap2 _ _ _ R1
  have hpo2 := fun a2 q2 w3 => hpost _ _ _ a2 q2 w3 R1
  have hq1 := R1.le
  have hq2 := R1.mx
  clear ap1 ap2 hb1 hpost
  by_cases hcap : i + 1 = cW
  ·have hap3 := hap2 (some ⟨b, 0, none⟩) 0 (fun h => by omega)
   have hn0 : n - (i + 1) = 0 := by omega
   subst hcap
   rw [hn0] at hap3
   rw [hn0] at hpo2
   rw [Nat.add_zero] at hap3 hpo2
   rw [hn0, Nat.add_zero] at HG
   clear hap2 hn0
   go_wp2_with (at_builtin; refine qah (by rfl) _ _ _ _ rfl _ _ rfl (by rfl) hap3 ?_; rintro v2 w3 ⟨a2, q2, rfl, R2⟩; obtain ⟨hG, hK, hnew, hB3⟩ := hpo2 _ _ _ R2; have f3 := (hz _ hB3).2; have c3 := (hz _ hB3).1)
   refine (hset _ _ _ hG).mono ?_
   rintro e w4 ⟨sl, a4, c4, rfl, hS4⟩
   have hfin := HG.out _ _ _ _ _ hK hnew ⟨a4, c4, hS4⟩
   go_wp2_with fail
   exact bodyPost_ret (v := .tuple #[sl, .int .i64 0]) (by simp [results, Tryz.results71, go_sem]) rfl hfin
  ·have hcap' : ¬ ((i : Int) + 1 = cW) := by omega
   have hap3 := hap2 (some ⟨b, (i + 1) * 5, none⟩) (cW - (i + 1)) (fun _ => rfl)
   clear hap2
   go_wp2_with (at_builtin; refine qah (by rfl) _ _ _ _ rfl _ _ rfl (by rfl) hap3 ?_; rintro v2 w3 ⟨a2, q2, rfl, R2⟩; obtain ⟨hG, hK, hnew, hB3⟩ := hpo2 _ _ _ R2; have f3 := (hz _ hB3).2; have c3 := (hz _ hB3).1)
   refine (hset _ _ _ hG).mono ?_
   rintro e w4 ⟨sl, a4, c4, rfl, hS4⟩
   have hfin := HG.out _ _ _ _ _ hK hnew ⟨a4, c4, hS4⟩
   go_wp2_with fail
   exact bodyPost_ret (v := .tuple #[sl, .int .i64 0]) (by simp [results, Tryz.results71, go_sem]) rfl hfin
 ·go_wp2_with fail
  exact bodyPost_ret (v := .tuple #[.slice none 0 0, .int .i64 12]) (by simp [results, Tryz.results71, go_sem]) rfl (.inl ⟨hno, rfl, rfl⟩)
end Go.Proofs.YtphclnolomgjoaaGreatDoor
