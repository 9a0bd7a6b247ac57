import Derived.Test.YtphclnolomgjoaaGreatDoorC06
import Derived.Test.YtphclnolomgjoaaGreatDoorC33
import Derived.Test.YtphclnolomgjoaaGreatDoorC30
import Derived.Test.YtphclnolomgjoaaGreatDoorC09
set_option linter.unusedVariables false
set_option linter.unusedSimpArgs false
namespace Go.Proofs.YtphclnolomgjoaaGreatDoor
open Go.RowKit
def errS (L : List Ent) (Ws : List Wk) (s : Bs) (ok : Bool) : Int :=
 if qar s = false then 1 else match qcv L (qaa s) with
  | none => 3
  | some e => if e.leaf = false then 5 else if ok = false then 6 else if 24 <= Ws.length then 7 else 0
def qct (cnt : Int) (s : Bs) (a b : Int) : Wk := ⟨cnt + 1, qaa s, a, b, 0⟩
def SubG (br g : Nat) (o0 : Option Nat) (L : List Ent) (Ws : List Wk) (cnt st : Int) (s : Bs) (a b : Int) (w : World) (e : Ending) (w' : World) : Prop :=
 (errS L Ws s (qao a b) ≠ 0 /\ e = .returned (.tuple #[.int .i64 0, .slice none 0 0, .int .i64 (errS L Ws s (qao a b))]) /\ Below w.heap.size w w') \/
 (errS L Ws s (qao a b) = 0 /\ ∃ sl, e = .returned (.tuple #[.int .i64 (cnt + 1), sl, .int .i64 0]) /\ qdw w br g o0 L (cnt + 1) (qaj L ⟨Ws ++ [qct cnt s a b], st, []⟩) sl w')
theorem ql5 {W : World} {br g cap : Nat} {L : List Ent} {ao : Option Addr} {cW : Nat} {Ws : List Wk} {cnt st : Int} (h : GRef W br g cap L ao cW Ws cnt st) (hl : Ws.length <= 24) (x : Wk) (nb : Nat) (hnb : Blk W nb 178 #[.int .i64 x.num, .string (sb (joinB x.key)), .int .i64 x.d0, .int .i64 x.d1, .int .i64 x.st]) (hW : ∀ b, (Value.slice ao Ws.length cW).ownBlock = some b -> b ≠ nb) :
  ∃ v' w', (∀ ty, (Builtin.append_ #[165, 165] ty #[.slice ao Ws.length cW, .slice (some ⟨nb, 0, none⟩) 1 1]).run Tryz.prog W = .ok v' w') /\ ∃ g' cap', v' = .slice (some ⟨g', 0, none⟩) (Ws.length + 1) cap' /\ Blk w' br 167 #[.slice (some ⟨g, 0, none⟩) L.length cap, .slice ao Ws.length cW, .int .i64 cnt, .int .i64 st] /\
   GRef (w'.setCell ⟨br, 1, none⟩ v') br g cap L (some ⟨g', 0, none⟩) cap' (Ws ++ [x]) cnt st /\ Keep (fun b => b = br \/ (Value.slice ao Ws.length cW).ownBlock = some b) W (w'.setCell ⟨br, 1, none⟩ v') /\ ((Value.slice ao Ws.length cW).ownBlock = some g' \/ W.heap.size <= g') := by
 obtain ⟨v', w', hr, g', cap', rfl, R⟩ := qby un70 qr3 (by omega) W _ Ws.length (qad Ws) h.wrow nb 1 1 (by omega) (qad [x]) rfl (by simpa [qad, qbf] using hnb) (qio _) (by unfold maxLen; omega) (by omega)
 have hat := h.ref.at_
 have hgl := (h.ref.row.lt g rfl).2
 have hnbr : ¬ ((Value.slice ao Ws.length cW).ownBlock = some br) := fun e => (h.ne1 br e).1 rfl
 have hng : ¬ ((Value.slice ao Ws.length cW).ownBlock = some g) := fun e => (h.ne1 g e).2 rfl
 have hb' := hat.keep R.keep hnbr
 have hg'br : g' ≠ br := fun e => by
  rcases R.new with e2 | e2
  ·rw [e] at e2; exact hnbr e2
  ·have := hat.lt; omega
 have hg'g : g' ≠ g := fun e => by
  rcases R.new with e2 | e2
  ·rw [e] at e2; exact hng e2
  ·omega
 have hlen : (Ws ++ [x]).length = Ws.length + 1 := by simp
 refine ⟨_, w', hr, g', cap', rfl, hb', ⟨⟨?_, ?_⟩, ?_, ?_⟩, ?_, R.new⟩
 ·have h1 := hb'.set 1 (.slice (some ⟨g', 0, none⟩) (Ws.length + 1) cap')
  rw [hlen]
  simpa using h1
 ·exact ownsRow_setCell_other (qab h.ref.row R.keep (fun y hy e => by simp [Value.ownBlock] at hy; subst hy; exact hng e)) (fun e => by simp [Value.ownBlock] at e; exact h.ref.ne e.symm) _
 ·rw [hlen, qhz]
  exact ownsRow_setCell_other R.own (fun e => by simp [Value.ownBlock] at e; exact hg'br e) _
 ·intro y hy
  rw [hlen] at hy
  simp [Value.ownBlock] at hy
  subst hy
  exact ⟨hg'br, hg'g⟩
 ·exact (R.keep.mono (fun y e => .inr e)).setCell (p := ⟨br, 1, none⟩) (.inl rfl) _
set_option maxRecDepth 100000 in
set_option maxHeartbeats 4000000 in
theorem qpq {w : World} {br g cap : Nat} {L : List Ent} {ao : Option Addr} {cW : Nat} {Ws : List Wk} {cnt st : Int} (h : GRef w br g cap L ao cW Ws cnt st) (E : Ents L) (EB : Bors L) (hinj : ∀ a ∈ L, ∀ b ∈ L, a.key = b.key -> a = b) (I : SInv ⟨Ws, st, []⟩) (hst : st <= 900000000) (hcnt : 0 <= cnt /\ cnt <= 1000000000) (s : ByteArray) (hs : s.size <= 2000000) (a b : Int)
  (hI : errS L Ws (bl s) (qao a b) = 0 -> SInv ⟨Ws ++ [qct cnt (bl s) a b], st, []⟩) :
  Calls Tryz.prog 70 #[.pointer (some ⟨br, 0, none⟩), .string s, .agg #[.int .i64 a, .int .i64 b]] w (SubG br g (Value.slice ao Ws.length cW).ownBlock L Ws cnt st (bl s) a b w) := by
 have hbr := h.qii
 have hgl : g < w.heap.size := (h.ref.row.lt g rfl).2
 have hn24 := I.wks.wks.len
 simp only at hn24
 have b0 : Blk (w.alloc (.cells #[.int .i64 a, .int .i64 b] 35)) w.heap.size 35 #[.int .i64 a, .int .i64 b] := Blk.new w 35 _
 have hf := fun W => qcg a b W
 cases hv : qar (bl s)
 ·have hn := fun W => qh1 s hs hv W
  have HX : Hid (∀ w', Below w.heap.size w w' -> SubG br g (Value.slice ao Ws.length cW).ownBlock L Ws cnt st (bl s) a b w (.returned (.tuple #[.int .i64 0, .slice none 0 0, .int .i64 1])) w') := fun w' hb => by
   have : errS L Ws (bl s) (qao a b) = 1 := by unfold errS; rw [hv]; rfl
   exact .inl ⟨by rw [this]; decide, by rw [this], hb⟩
  go_enter Tryz.func70, Tryz.ntmps70
  go_wp2_with (go_at_call 113; refine (hn _).mono ?_; rintro e w1 ⟨rfl, hb1⟩)
  have hB1 : Below w.heap.size w w1 := qac (by exact bel2) hb1
  exact bodyPost_ret (v := .tuple #[.int .i64 0, .slice none 0 0, .int .i64 1]) (by simp [results, Tryz.results70, go_sem]) rfl (HX.out _ hB1)
 ·have hn := fun W => qdd s hs hv W
  have hkok : qbn (qaa (bl s)) = true := by rw [<- qba]; exact hv
  cases hfi : qcv L (qaa (bl s)) with
  | none =>
   have hat := fun W (hW : Below w.heap.size w W) => qgx (h.ref.below hW) E hinj s (qaa (bl s)) hkok (qa6 (bl s)).symm hfi
   have HX : Hid (∀ w', Below w.heap.size w w' -> SubG br g (Value.slice ao Ws.length cW).ownBlock L Ws cnt st (bl s) a b w (.returned (.tuple #[.int .i64 0, .slice none 0 0, .int .i64 3])) w') := fun w' hb => by
    have : errS L Ws (bl s) (qao a b) = 3 := by unfold errS; rw [hv, hfi]; rfl
    exact .inl ⟨by rw [this]; decide, by rw [this], hb⟩
   clear hfi h E hinj I hI
   go_enter Tryz.func70, Tryz.ntmps70
   go_wp2_with (first
    | (go_at_call 113; refine (hn _).mono ?_; rintro e w1 ⟨⟨ao', cp, rfl, hrow⟩, hb1⟩; have hB1 : Below w.heap.size w w1 := qac (by exact bel2) hb1)
    | (go_at_call 114; refine (hat _ hB1).mono ?_; rintro e w2 ⟨rfl, hw2⟩; subst hw2))
   exact bodyPost_ret (v := .tuple #[.int .i64 0, .slice none 0 0, .int .i64 3]) (by simp [results, Tryz.results70, go_sem]) rfl (HX.out _ hB1)
  | some x =>
   have hat := fun W (hW : Below w.heap.size w W) => qib (h.ref.below hW) E hinj s (qaa (bl s)) hkok (qa6 (bl s)).symm hfi
   have herr : errS L Ws (bl s) (qao a b) = if x.leaf = false then 5 else if qao a b = false then 6 else if 24 <= Ws.length then 7 else 0 := by unfold errS; rw [hv, hfi]; rfl
   have HX : Hid (∀ w' k, Below w.heap.size w w' -> errS L Ws (bl s) (qao a b) = k -> k ≠ 0 -> SubG br g (Value.slice ao Ws.length cW).ownBlock L Ws cnt st (bl s) a b w (.returned (.tuple #[.int .i64 0, .slice none 0 0, .int .i64 k])) w') := fun w' k hb e e0 => .inl ⟨by rw [e]; exact e0, by rw [e], hb⟩
   have hcap := h.ref.qjv
   have hL20 := E.len
   obtain ⟨nL, hnL⟩ : ∃ nL, nL = L.length := ⟨_, rfl⟩
   have HNL : Hid (nL = L.length) := hnL
   have hc0 : w.cell? ⟨br, 0, none⟩ = some (.slice (some ⟨g, 0, none⟩) nL cap) := by have := h.ref.at_.cell 0; rw [hnL]; simpa using this
   rw [<- hnL] at hcap hL20
   clear hnL
   obtain ⟨n, hn'⟩ : ∃ n, n = Ws.length := ⟨_, rfl⟩
   have HN : Hid (n = Ws.length) := hn'
   have hc1 : w.cell? ⟨br, 1, none⟩ = some (.slice ao n cW) := by have := h.ref.at_.cell 1; rw [hn']; simpa using this
   clear hn'
   have hleaf : Hid (∀ (i : Nat), L[i]? = some x -> i < nL /\ w.cell? ⟨g, i * 6 + 1, none⟩ = some (.bool x.leaf)) := fun i hi => ⟨by rw [HNL.out]; exact (List.getElem?_eq_some_iff.1 hi).1, h.ref.ent hi rfl⟩
   go_enter Tryz.func70, Tryz.ntmps70
   go_upto_region 8 with (first
    | (go_at_call 113; refine (hn _).mono ?_; rintro e w1 ⟨⟨ao', cp, rfl, hrow⟩, hb1⟩; have hB1 : Below w.heap.size w w1 := qac (by exact bel2) hb1; have b1 := b0.below hb1 (by simp); have z0 := b1.cell 0; have z1 := b1.cell 1; simp only [List.getElem?_toArray, List.getElem?_cons_zero, List.getElem?_cons_succ] at z0 z1)
    | (go_at_call 114; refine (hat _ hB1).mono ?_; rintro e w2 ⟨⟨i, rfl, hi⟩, hw2⟩; subst hw2; obtain ⟨hin, hlf⟩ := hleaf.out i hi; have hii : (i : Int) < nL := (by omega); have hii0 : (0 : Int) <= i := (by omega); have hii1 : ¬ ((i : Int) < 0) := (by omega))
    | (go_at_call 115; refine (hf _).mono ?_; rintro e w3 ⟨rfl, hb3⟩; have hB3 : Below w.heap.size w w3 := qac hB1 hb3; have b3 := b1.below hb3 b1.lt))
   have hR3 := h.below hB3
   have k0 := (hB3.cell (p := ⟨br, 0, none⟩) hbr).trans hc0
   have k1 := (hB3.cell (p := ⟨br, 1, none⟩) hbr).trans hc1
   have k2 := hR3.ref.at_.cell 2
   have kf := hR3.ref.at_.frozen 2
   simp only [List.getElem?_toArray, List.getElem?_cons_zero, List.getElem?_cons_succ] at k2
   have kl := (hB3.cell (p := ⟨g, i * 6 + 1, none⟩) hgl).trans hlf
   clear hat hn hf hi hrow z0 z1 hlf hc0 hc1
   have z0 := b3.cell 0
   have z1 := b3.cell 1
   simp only [List.getElem?_toArray, List.getElem?_cons_zero, List.getElem?_cons_succ] at z0 z1
   cases hl : x.leaf
   ·rw [hl] at kl
    have hE5 : errS L Ws (bl s) (qao a b) = 5 := by rw [herr, hl]; rfl
    have HE5 : Hid (errS L Ws (bl s) (qao a b) = 5) := hE5
    clear hE5 herr hI
    go_wp2_with fail
    exact bodyPost_ret (v := .tuple #[.int .i64 0, .slice none 0 0, .int .i64 5]) (by simp [results, Tryz.results70, go_sem]) rfl (HX.out _ _ hB3 HE5.out (by decide))
   ·rw [hl] at kl
    cases hfb : qao a b
    ·have hE5 : errS L Ws (bl s) (qao a b) = 6 := by rw [herr, hl, hfb]; rfl
     have HE5 : Hid (errS L Ws (bl s) (qao a b) = 6) := hE5
     clear hE5 herr hI
     go_wp2_with fail
     exact bodyPost_ret (v := .tuple #[.int .i64 0, .slice none 0 0, .int .i64 6]) (by simp [results, Tryz.results70, go_sem]) rfl (HX.out _ _ hB3 HE5.out (by decide))
    ·by_cases h24 : 24 <= n
     ·have hE5 : errS L Ws (bl s) (qao a b) = 7 := by rw [herr, hl, hfb, <- HN.out]; simp [h24]
      have HE5 : Hid (errS L Ws (bl s) (qao a b) = 7) := hE5
      clear hE5 herr hI
      have h24' : (24 : Int) <= n := by omega
      go_wp2_with fail
      exact bodyPost_ret (v := .tuple #[.int .i64 0, .slice none 0 0, .int .i64 7]) (by simp [results, Tryz.results70, go_sem]) rfl (HX.out _ _ hB3 HE5.out (by decide))
     ·have hE5 : errS L Ws (bl s) (qao a b) = 0 := by rw [herr, hl, hfb, <- HN.out]; simp [h24]
      have HI2 := hI hE5
      have HE5 : Hid (errS L Ws (bl s) (qao a b) = 0) := hE5
      clear hE5 herr hI
      have h24' : ¬ ((24 : Int) <= n) := by omega
      have hG1 : GRef (w3.setCell ⟨br, 2, none⟩ (.int .i64 (cnt + 1))) br g cap L ao cW Ws (cnt + 1) st := by
       refine ⟨⟨?_, ?_⟩, ?_, hR3.ne1⟩
       ·have := hR3.ref.at_.set 2 (.int .i64 (cnt + 1))
        simpa using this
       ·exact ownsRow_setCell_other hR3.ref.row (fun e => by simp [Value.ownBlock] at e; exact hR3.ref.ne e.symm) _
       ·exact ownsRow_setCell_other hR3.wrow (fun e => (hR3.ne1 _ e).1 rfl) _
      have hK1 : Keep (fun y => y = br) w (w3.setCell ⟨br, 2, none⟩ (.int .i64 (cnt + 1))) := (Keep.new (T := fun y => y = br) hB3).setCell (p := ⟨br, 2, none⟩) rfl _
      have b31 : Blk (w3.setCell ⟨br, 2, none⟩ (.int .i64 (cnt + 1))) w.heap.size 35 #[.int .i64 a, .int .i64 b] := b3.other _ _ (by simp; omega)
      go_upto_region 16 with fail
      generalize w3.setCell ⟨br, 2, none⟩ (.int .i64 (cnt + 1)) = W1 at hG1 hK1 b31 ⊢
      clear hR3 k0 k1 k2 kf kl z0 z1 b3 hB3 hb3
      have hbr1 : br < W1.heap.size := hG1.qii
      have z0 := b31.cell 0
      have z1 := b31.cell 1
      have c1 : W1.cell? ⟨br, 1, none⟩ = some (.slice ao n cW) := by have := hG1.ref.at_.cell 1; rw [HN.out]; simpa using this
      have lb := b31.lt
      simp only [List.getElem?_toArray, List.getElem?_cons_zero, List.getElem?_cons_succ] at z0 z1
      have hap : ∀ W, Below W1.heap.size W1 W -> ∀ nb, Blk W nb 178 #[.int .i64 (cnt + 1), .string s, .int .i64 a, .int .i64 b, .int .i64 0] -> W1.heap.size <= nb -> ∃ v' w', (∀ ty, (Builtin.append_ #[165, 165] ty #[.slice ao n cW, .slice (some ⟨nb, 0, none⟩) 1 1]).run Tryz.prog W = .ok v' w') /\ ∃ g' cap', v' = .slice (some ⟨g', 0, none⟩) (n + 1) cap' /\ Blk w' br 167 #[.slice (some ⟨g, 0, none⟩) L.length cap, .slice ao n cW, .int .i64 (cnt + 1), .int .i64 st] /\ Hid (GRef (w'.setCell ⟨br, 1, none⟩ v') br g cap L (some ⟨g', 0, none⟩) cap' (Ws ++ [qct cnt (bl s) a b]) (cnt + 1) st /\ Keep (fun y => y = br \/ (Value.slice ao Ws.length cW).ownBlock = some y) w (w'.setCell ⟨br, 1, none⟩ v') /\ ((Value.slice ao Ws.length cW).ownBlock = some g' \/ w.heap.size <= g')) := fun W hW nb hnb hge => by
       have hsj : sb (joinB (qaa (bl s))) = s := by rw [qa6, qp4]
       obtain ⟨v', w', hr, g', cap', e, hbb, hGG, hKK, hor⟩ := ql5 (hG1.below hW) hn24 (qct cnt (bl s) a b) nb (by unfold qct; simp only [hsj]; exact hnb) (fun y hy e => by have := qal hG1.wrow hy; omega)
       rw [<- HN.out] at hr e hbb
       refine ⟨v', w', hr, g', cap', e, hbb, hGG, ((hK1.mono (fun y e => Or.inl e) : Keep (fun y => y = br \/ (Value.slice ao Ws.length cW).ownBlock = some y) w W1).qc5 hW).step hKK (fun y _ e => e), ?_⟩
       rcases hor with e | e
       ·exact .inl e
       ·exact .inr (Nat.le_trans (Nat.le_trans hK1.size hW.size) e)
      have hset := fun W g' c' (hG : GRef W br g cap L (some ⟨g', 0, none⟩) c' (Ws ++ [qct cnt (bl s) a b]) (cnt + 1) st) => settle_ref hG E EB HI2 hst
      have HFIN : Hid (∀ (W W' : World) (g' c' : Nat) (sl : Value), Keep (fun y => y = br \/ (Value.slice ao Ws.length cW).ownBlock = some y) w W -> ((Value.slice ao Ws.length cW).ownBlock = some g' \/ w.heap.size <= g') -> (∃ ao' cW', qck W br g cap L (Value.slice (some ⟨g', 0, none⟩) (Ws ++ [qct cnt (bl s) a b]).length c').ownBlock (cnt + 1) (Ws ++ [qct cnt (bl s) a b]).length W' ao' cW' (qaj L ⟨Ws ++ [qct cnt (bl s) a b], st, []⟩).Ws (qaj L ⟨Ws ++ [qct cnt (bl s) a b], st, []⟩).st sl (qaj L ⟨Ws ++ [qct cnt (bl s) a b], st, []⟩).evs) -> SubG br g (Value.slice ao Ws.length cW).ownBlock L Ws cnt st (bl s) a b w (.returned (.tuple #[.int .i64 (cnt + 1), sl, .int .i64 0])) W') := by
       intro W W' g' c' sl hK hnew ⟨ao', cW', hS⟩
       refine .inr ⟨HE5.out, sl, rfl, qdw.qn3 (hK.mono (fun y e => ?_)) hS (fun y hy hlt => ?_) (.inl rfl)⟩
       ·rcases e with e | e
        ·exact .inl e
        ·exact .inr (.inr e)
       ·simp [Value.ownBlock] at hy
        subst hy
        rcases hnew with e | e
        ·exact e
        ·omega
      clear h E EB hinj I HI2 hG1 HE5 HX hfi
      go_region_law (refine qau rfl (.tmp 64) (.tmp 69) 165 165 rfl _ _ ?_ ?_ (hap _ ?_ ?_ ?_ ?_) ?_; (focus (simp [Act.eval, Act.put])); (focus ((try simp [Act.eval, Act.put]); (try rfl))); (focus exact bel2); (focus exact blk2); (focus (simp)); rintro v' wA ⟨g', cap', rfl, hbA, hfin⟩; have hcA := hbA.cell 1; have hfA := hbA.frozen 1; simp only [List.getElem?_toArray, List.getElem?_cons_zero, List.getElem?_cons_succ] at hcA)
      all_goals go_wp2_with fail
      all_goals refine (hset _ _ _ hfin.out.1).mono ?_
      all_goals rintro e w4 ⟨sl, a4, c4, rfl, hS4⟩
      all_goals have hend := HFIN.out _ _ _ _ _ hfin.out.2.1 hfin.out.2.2 ⟨a4, c4, hS4⟩
      all_goals clear hset hap HFIN hfin hS4
      all_goals go_wp2_with fail
      all_goals exact bodyPost_ret (v := .tuple #[.int .i64 (cnt + 1), sl, .int .i64 0]) (by simp [results, Tryz.results70, go_sem]) rfl hend
theorem Rel.append {nodes : List Node} {Ws : List Wk} {ws as_ : List Pw} (R : Rel nodes Ws ws as_) {x : Wk} (hx : x.st = 0) {k : Nat} {n : Node} (hn : n ∈ nodes) (hk : n.key = x.key) : Rel nodes (Ws ++ [x]) (ws ++ [⟨k, x, n.blk⟩]) as_ := by
 obtain ⟨az, h1, h2, h3⟩ := R.a
 refine ⟨?_, ⟨az, h1, ?_, h3⟩, fun p hp => ?_⟩
 ·rw [List.map_append, List.filter_append, R.w]
  simp [hx]
 ·rw [List.filter_append]
  simpa [hx] using h2
 ·rcases List.mem_append.1 hp with e | e
  ·rcases List.mem_append.1 e with e | e
   ·exact R.leaf p (List.mem_append_left _ e)
   ·simp only [List.mem_singleton] at e
    subst e
    exact ⟨n, hn, rfl, hk⟩
  ·exact R.leaf p (List.mem_append_right _ e)
def SetT (nodes : List Node) (bt : Nat) (r : Node) (lst vw va : Value) (ws as_ : List Pw) (fin : SS) (ev : Value) (w w' : World) : Prop :=
 ∃ vw' va' ws' as', TwAt w' nodes bt r lst vw' va' ws' as' /\ w'.ownsRow 0 60 2 ev fin.evs.length (qai fin.evs) /\ Rel nodes fin.Ws ws' as' /\ Keep (BkT bt vw va) w w' /\ (∀ b, vw'.ownBlock = some b \/ va'.ownBlock = some b -> vw.ownBlock = some b \/ va.ownBlock = some b \/ w.heap.size <= b) /\ (∀ b, ev.ownBlock = some b -> w.heap.size <= b) /\ (∀ p ∈ ws' ++ as', p ∈ ws ++ as_ \/ w.heap.size <= p.blk)
set_option maxRecDepth 100000 in
set_option maxHeartbeats 2000000 in
theorem qpo {nodes : List Node} (T0 : Tree nodes) {w : World} {bt : Nat} {r : Node} {lst vw va : Value} {ws as_ : List Pw} (h : TwAt w nodes bt r lst vw va ws as_) (hr : r ∈ nodes) (hrk : r.key = []) (s : ByteArray) (hs : s.size <= 2000000) (a b : Int) (he : errWk nodes (ws.length + as_.length) (bl s) (qao a b) ≠ 0) :
  Calls Tryz.prog 32 #[.pointer (some ⟨bt, 0, none⟩), .string s, .agg #[.int .i64 a, .int .i64 b]] w fun e w' => e = .returned (.tuple #[.int .i64 0, .slice none 0 0, .int .i64 (errWk nodes (ws.length + as_.length) (bl s) (qao a b))]) /\ Below w.heap.size w w' := by
 have hsub := fun W (hW : Below w.heap.size w W) => qpt T0 (h.below hW) hr hrk s hs a b he
 have hbt := h.bk.at_.lt
 generalize errWk nodes (ws.length + as_.length) (bl s) (qao a b) = err at *
 have hans := fun W => qgg (w := W) (bt := bt) he
 have b0 : Blk (w.alloc (.cells #[.int .i64 a, .int .i64 b] 35)) w.heap.size 35 #[.int .i64 a, .int .i64 b] := Blk.new w 35 _
 have hcl := b0.cell
 go_enter Tryz.func32, Tryz.ntmps32
 go_wp2_with (first
  | (go_at_call 59; refine (hsub _ ?_).mono ?_; (focus exact bel2); rintro e w1 ⟨rfl, hb1⟩)
  | (go_at_call 51; refine (hans _).mono ?_; rintro e w2 ⟨rfl, hw2⟩; subst hw2))
 exact bodyPost_ret (v := .tuple #[.int .i64 0, .slice none 0 0, .int .i64 err]) (by simp [results, Tryz.results32, go_sem]) rfl ⟨rfl, qac (by exact bel2) hb1⟩
set_option maxRecDepth 100000 in
set_option maxHeartbeats 2000000 in
theorem qo9 {nodes : List Node} (T0 : Tree nodes) (hB : qa7 nodes) {w : World} {bt : Nat} {r : Node} {last : Int} {vw va : Value} {ws as_ : List Pw} (h : TwAt w nodes bt r (.int .i64 last) vw va ws as_) (h0 : 0 <= last) (h1 : last <= 2000000) (hr : r ∈ nodes) (hrk : r.key = []) (s : ByteArray) (hs : s.size <= 2000000) (a b : Int) (he : errWk nodes (ws.length + as_.length) (bl s) (qao a b) = 0) {Ws : List Wk} {st : Int} (R : Rel nodes Ws ws as_) (I : SInv ⟨Ws ++ [qct last (bl s) a b], st, []⟩) :
  Calls Tryz.prog 32 #[.pointer (some ⟨bt, 0, none⟩), .string s, .agg #[.int .i64 a, .int .i64 b]] w fun e w' => ∃ ev, e = .returned (.tuple #[.int .i64 (last + 1), ev, .int .i64 0]) /\ SetT nodes bt r (.int .i64 (last + 1)) vw va ws as_ (qaj (nodes.map Node.ent) ⟨Ws ++ [qct last (bl s) a b], st, []⟩) ev w w' := by
 obtain ⟨n, hn, hlf, hfr, hcn⟩ := qgw he
 obtain ⟨hnm, hnk⟩ := qbw hn
 have hsub := fun W (hW : Below w.heap.size w W) => qp0 T0 (h.below hW) h0 h1 hr hrk s hs a b he hn
 have hans := fun W vw' k (hT : TwAt W nodes bt r (.int .i64 (last + 1)) vw' va (ws ++ [⟨k, ⟨last + 1, qaa (bl s), a, b, 0⟩, n.blk⟩]) as_) => qf6 T0 hB hT hr hrk (s0 := ⟨Ws ++ [qct last (bl s) a b], st, []⟩) (R.append (x := qct last (bl s) a b) rfl hnm hnk) I rfl
 generalize qaj (nodes.map Node.ent) ⟨Ws ++ [qct last (bl s) a b], st, []⟩ = fin at hans ⊢
 have hbt := h.bk.at_.lt
 have b0 : Blk (w.alloc (.cells #[.int .i64 a, .int .i64 b] 35)) w.heap.size 35 #[.int .i64 a, .int .i64 b] := Blk.new w 35 _
 have hcl := b0.cell
 go_enter Tryz.func32, Tryz.ntmps32
 go_wp2_with (first
  | (go_at_call 59; refine (hsub _ ?_).mono ?_; (focus exact bel2); rintro e w1 ⟨rfl, vw1, k1, hk1, hT1, hK1, hN1⟩)
  | (go_at_call 51; refine (hans _ _ _ hT1).mono ?_; rintro e w2 ⟨vw2, va2, ev2, ws2, as2, rfl, m1, m2, m3, m4, m5, m6, m7⟩))
 have hb0 : Below w.heap.size w (w.alloc (.cells #[.int .i64 a, .int .i64 b] 35)) := by exact bel2
 have hKA : Keep (BkT bt vw va) w w1 := (Keep.new hb0).qbo hK1 (fun b hb e => e)
 have hz1 := hKA.size
 refine bodyPost_ret (v := .tuple #[.int .i64 (last + 1), ev2, .int .i64 0]) (by simp [results, Tryz.results32, go_sem]) rfl ⟨ev2, rfl, vw2, va2, ws2, as2, m1, m2, m3, hKA.qbo m4 (fun b hb e => ?_), fun b hb => ?_, fun b hb => Nat.le_trans hz1 (m6 b hb), fun p hp => ?_⟩
 ·rcases e with e | e | e
  ·exact .inl e
  ·rcases hN1 b e with e2 | e2
   ·exact .inr (.inl e2)
   ·simp at e2; omega
  ·exact .inr (.inr e)
 ·rcases m5 b hb with e | e | e
  ·rcases hN1 b e with e2 | e2
   ·exact .inl e2
   ·simp at e2; exact .inr (.inr (by omega))
  ·exact .inr (.inl e)
  ·exact .inr (.inr (by omega))
 ·rcases List.mem_append.1 (m7 p hp) with e | e
  ·rcases List.mem_append.1 e with e | e
   ·exact .inl (List.mem_append_left _ e)
   ·simp only [List.mem_singleton] at e
    subst e
    simp at hk1
    exact .inr (by simp only; omega)
  ·exact .inl (List.mem_append_right _ e)
theorem qcx {α : Type} (g : α -> Int) : ∀ {l : List α}, (l.map g).Nodup -> ∀ {i : Nat} {x : α}, l[i]? = some x -> l.take i ++ l.drop (i + 1) = l.filter (fun y => !(g y == g x))
 | [], _, i, x, h => by simp at h
 | a :: l, hn, 0, x, h => by
  simp only [List.getElem?_cons_zero, Option.some.injEq] at h
  subst h
  simp only [List.map_cons, List.nodup_cons] at hn
  simp only [List.take_zero, List.nil_append, Nat.zero_add, List.drop_succ_cons, List.drop_zero]
  rw [List.filter_cons_of_neg (by simp)]
  symm
  rw [List.filter_eq_self]
  intro b hb
  have : g b ≠ g a := fun e => hn.1 (e ▸ List.mem_map_of_mem hb)
  simp [this]
 | a :: l, hn, i + 1, x, h => by
  simp only [List.getElem?_cons_succ] at h
  simp only [List.map_cons, List.nodup_cons] at hn
  have hx : g a ≠ g x := fun e => hn.1 (e ▸ List.mem_map_of_mem (List.mem_of_getElem? h))
  simp only [List.take_succ_cons, List.drop_succ_cons, List.cons_append]
  rw [List.filter_cons_of_pos (by simp [hx]), qcx g hn.2 h]
theorem Rel.qu9 {nodes : List Node} {Ws : List Wk} {ws as_ : List Pw} (R : Rel nodes Ws ws as_) (m : Int) : Rel nodes (Ws.filter fun y => !(y.num == m)) (ws.filter fun p => !(p.x.num == m)) (as_.filter fun p => !(p.x.num == m)) := by
 obtain ⟨az, h1, h2, h3⟩ := R.a
 have hf : ∀ l : List Pw, (l.filter fun p => !(p.x.num == m)).map (·.x) = (l.map (·.x)).filter fun y => !(y.num == m) := fun l => by rw [List.filter_map]; rfl
 refine ⟨?_, ⟨az.filter fun y => !(y.num == m), ?_, ?_, h3.sublist List.filter_sublist⟩, fun p hp => ?_⟩
 ·rw [hf, R.w, List.filter_filter, List.filter_filter]
  exact List.filter_congr fun x _ => Bool.and_comm _ _
 ·rw [hf, h1, List.filter_map]; rfl
 ·rw [List.filter_filter]
  have := h2.filter fun y => !(y.num == m)
  rw [List.filter_filter] at this
  refine this.trans (List.Perm.of_eq (List.filter_congr fun x _ => Bool.and_comm _ _))
 ·rw [<- List.filter_append] at hp
  exact R.leaf p (List.mem_filter.1 hp).1
theorem qp3 {nodes : List Node} {Ws : List Wk} {ws as_ : List Pw} (R : Rel nodes Ws ws as_) {st : Int} (hS : WkS Ws st) : ((ws ++ as_).map (·.x.num)).Nodup := (R.nums (fun x hx => (hS.st x hx).1)).nodup_iff.2 hS.nums
theorem qny {l : List Pw} {m : Int} (h : ∀ p ∈ l, p.x.num ≠ m) : (l.filter fun p => !(p.x.num == m)) = l := by
 rw [List.filter_eq_self]
 intro p hp
 simp [h p hp]
theorem Rel.found {nodes : List Node} {Ws : List Wk} {ws as_ : List Pw} (R : Rel nodes Ws ws as_) {st : Int} (hS : WkS Ws st) {i : Nat} {x : Wk} (hi : Ws[i]? = some x) :
  ∃ p b, findBk ws as_ x.num = (nptr p.blk, b) /\ ((∃ j, ws[j]? = some p /\ Rel nodes (Ws.take i ++ Ws.drop (i + 1)) (ws.take j ++ ws.drop (j + 1)) as_) \/ (∃ j, as_[j]? = some p /\ Rel nodes (Ws.take i ++ Ws.drop (i + 1)) ws (as_.take j ++ as_.drop (j + 1)))) := by
 have hnd := qp3 R hS
 rw [List.map_append, List.nodup_append] at hnd
 obtain ⟨hn1, hn2, hn3⟩ := hnd
 have hx : x.num ∈ (ws ++ as_).map (·.x.num) := (R.nums (fun x hx => (hS.st x hx).1)).mem_iff.2 (List.mem_map_of_mem (List.mem_of_getElem? hi))
 have hW := R.qu9 x.num
 rw [<- qcx (·.num) hS.nums hi] at hW
 cases ha : qc3 as_ x.num with
 | some p =>
  have hp : p ∈ as_ := List.mem_of_find?_eq_some ha
  have hpn : p.x.num = x.num := by have := List.find?_some ha; simpa using this
  obtain ⟨j, hj⟩ := List.getElem?_of_mem hp
  refine ⟨p, true, by simp [findBk, ha], .inr ⟨j, hj, ?_⟩⟩
  have e1 := qcx (·.x.num) hn2 hj
  rw [hpn] at e1
  rw [<- e1, qny (fun q hq => fun e => hn3 _ (List.mem_map_of_mem hq) _ (List.mem_map_of_mem hp) (e.trans hpn.symm))] at hW
  exact hW
 | none =>
  have hno : ∀ q ∈ as_, q.x.num ≠ x.num := fun q hq e => by
   have := List.find?_eq_none.1 ha q hq
   simp [e] at this
  obtain ⟨q, hq, hqe⟩ := List.mem_map.1 hx
  have hq : q ∈ ws := (List.mem_append.1 hq).resolve_right (fun h => hno q h hqe)
  cases hw : qc3 ws x.num with
  | none =>
   have := List.find?_eq_none.1 hw q hq
   simp [hqe] at this
  | some p =>
   have hp : p ∈ ws := List.mem_of_find?_eq_some hw
   have hpn : p.x.num = x.num := by have := List.find?_some hw; simpa using this
   obtain ⟨j, hj⟩ := List.getElem?_of_mem hp
   refine ⟨p, false, by simp [findBk, ha, hw, optP], .inl ⟨j, hj, ?_⟩⟩
   have e1 := qcx (·.x.num) hn1 hj
   rw [hpn] at e1
   rw [<- e1, qny hno] at hW
   exact hW
theorem Rel.lost {nodes : List Node} {Ws : List Wk} {ws as_ : List Pw} (R : Rel nodes Ws ws as_) {st : Int} (hS : WkS Ws st) {m : Int} (h : ∀ x ∈ Ws, x.num ≠ m) : findBk ws as_ m = (.pointer none, false) := by
 have hno : ∀ q ∈ ws ++ as_, q.x.num ≠ m := fun q hq e => by
  have := (R.nums (fun x hx => (hS.st x hx).1)).mem_iff.1 (List.mem_map_of_mem hq)
  obtain ⟨x, hx, hxe⟩ := List.mem_map.1 this
  exact h x hx (hxe.trans e)
 have ha : qc3 as_ m = none := List.find?_eq_none.2 fun q hq => by simp [hno q (List.mem_append_right _ hq)]
 have hw : qc3 ws m = none := List.find?_eq_none.2 fun q hq => by simp [hno q (List.mem_append_left _ hq)]
 simp [findBk, ha, hw, optP]
set_option maxRecDepth 100000 in
set_option maxHeartbeats 2000000 in
theorem qos {nodes : List Node} {w : World} {bt : Nat} {r : Node} {lst vw va : Value} {ws as_ : List Pw} (h : TwAt w nodes bt r lst vw va ws as_) {m : Int} (hf : findBk ws as_ m = (.pointer none, false)) :
  Calls Tryz.prog 55 #[.pointer (some ⟨bt, 0, none⟩), .int .i64 m] w fun e w' => e = .returned (.int .i64 12) /\ Below w.heap.size w w' := by
 have hfind := fun W (hW : Below w.heap.size w W) => qf5 (h.below hW).bk m
 rw [hf] at hfind
 have hbt := h.bk.at_.lt
 go_enter Tryz.func55, Tryz.ntmps55
 go_wp2_with (first
  | (go_at_call 46; refine (hfind _ ?_).mono ?_; (focus exact bel2); rintro e w1 ⟨rfl, hw1⟩; subst hw1))
 exact bodyPost_ret (v := .int .i64 12) (by simp [results, Tryz.results55, go_sem]) rfl ⟨rfl, by exact bel2⟩
set_option maxRecDepth 100000 in
set_option maxHeartbeats 2000000 in
theorem qpz {nodes : List Node} {w : World} {bt : Nat} {r : Node} {lst vw va : Value} {ws as_ : List Pw} (h : TwAt w nodes bt r lst vw va ws as_) {Ws : List Wk} {st : Int} (R : Rel nodes Ws ws as_) (hS : WkS Ws st) {i : Nat} {x : Wk} (hi : Ws[i]? = some x) :
  Calls Tryz.prog 55 #[.pointer (some ⟨bt, 0, none⟩), .int .i64 x.num] w fun e w' => e = .returned (.int .i64 0) /\ ∃ vw' va' ws' as', TwAt w' nodes bt r lst vw' va' ws' as' /\ Rel nodes (Ws.take i ++ Ws.drop (i + 1)) ws' as' /\ Keep (BkT bt vw va) w w' /\ (∀ b, vw'.ownBlock = some b \/ va'.ownBlock = some b -> vw.ownBlock = some b \/ va.ownBlock = some b) /\ (∀ p ∈ ws' ++ as', p ∈ ws ++ as_) := by
 obtain ⟨p, b, hb, hcase⟩ := R.found hS hi
 have hfind := fun W (hW : Below w.heap.size w W) => qf5 (h.below hW).bk x.num
 rw [hb] at hfind
 have hfin : ∀ W, Below w.heap.size w W -> Calls Tryz.prog 83 #[.pointer (some ⟨bt, 1, none⟩), nptr p.blk] W fun e w' => e = .returned (.tuple #[]) /\ ∃ vw' va' ws' as', TwAt w' nodes bt r lst vw' va' ws' as' /\ Rel nodes (Ws.take i ++ Ws.drop (i + 1)) ws' as' /\ Keep (BkT bt vw va) W w' /\ (∀ b, vw'.ownBlock = some b \/ va'.ownBlock = some b -> vw.ownBlock = some b \/ va.ownBlock = some b) /\ (∀ p ∈ ws' ++ as', p ∈ ws ++ as_) := by
  intro W hW
  rcases hcase with ⟨j, hj, hR⟩ | ⟨j, hj, hR⟩
  ·refine (qtt (h.below hW).bk hj).mono ?_
   rintro e w' ⟨rfl, vw', k1, k2, k3⟩
   have hsb : ∀ q ∈ (ws.take j ++ ws.drop (j + 1)) ++ as_, q ∈ ws ++ as_ := fun q hq => by
    rcases List.mem_append.1 hq with h1 | h1
    ·exact List.mem_append_left _ (qbb h1)
    ·exact List.mem_append_right _ h1
   refine ⟨rfl, vw', va, _, _, (h.below hW).next k1 k2 (fun q hq => .inl (hsb q hq)), hR, k2, fun b e => ?_, hsb⟩
   rw [k3] at e; exact e
  ·refine (qtv (h.below hW).bk hj).mono ?_
   rintro e w' ⟨rfl, va', k1, k2, k3⟩
   have hsb : ∀ q ∈ ws ++ (as_.take j ++ as_.drop (j + 1)), q ∈ ws ++ as_ := fun q hq => by
    rcases List.mem_append.1 hq with h1 | h1
    ·exact List.mem_append_left _ h1
    ·exact List.mem_append_right _ (qbb h1)
   refine ⟨rfl, vw, va', _, _, (h.below hW).next k1 k2 (fun q hq => .inl (hsb q hq)), hR, k2, fun b e => ?_, hsb⟩
   rw [k3] at e; exact e
 have hbt := h.bk.at_.lt
 have hne := fun W => qgv (W := W) (x := p)
 clear hcase
 unfold nptr at hfind hfin
 go_enter Tryz.func55, Tryz.ntmps55
 go_wp2_with (first
  | (go_at_call 46; refine (hfind _ ?_).mono ?_; (focus exact bel2); rintro e w1 ⟨rfl, hw1⟩; subst hw1)
  | (go_at_call 83; refine (hfin _ ?_).mono ?_; (focus exact bel2); rintro e w2 ⟨rfl, vw2, va2, ws2, as2, m1, m2, m3, m4, m5⟩))
 exact bodyPost_ret (v := .int .i64 0) (by simp [results, Tryz.results55, go_sem]) rfl ⟨rfl, vw2, va2, ws2, as2, m1, m2, (Keep.new (by exact bel2)).qbo m3 (fun b hb e => e), m4, m5⟩
set_option maxRecDepth 100000 in
set_option maxHeartbeats 2000000 in
theorem qpu {nodes : List Node} {w : World} {bt : Nat} {r : Node} {lst vw va : Value} {ws as_ : List Pw} (h : TwAt w nodes bt r lst vw va ws as_) {Ws : List Wk} {st : Int} (R : Rel nodes Ws ws as_) (hS : WkS Ws st) {m : Int} (hm : ∀ x ∈ Ws, x.num ≠ m) :
  Calls Tryz.prog 28 #[.pointer (some ⟨bt, 0, none⟩), .int .i64 m] w fun e w' => e = .returned (.tuple #[.slice none 0 0, .int .i64 12]) /\ Below w.heap.size w w' := by
 have hfin := fun W (hW : Below w.heap.size w W) => qos (h.below hW) (R.lost hS hm)
 have hans := fun W => qgg (w := W) (bt := bt) (x := 12) (by decide)
 have hbt := h.bk.at_.lt
 go_enter Tryz.func28, Tryz.ntmps28
 go_wp2_with (first
  | (go_at_call 55; refine (hfin _ ?_).mono ?_; (focus exact bel2); rintro e w1 ⟨rfl, hb1⟩)
  | (go_at_call 51; refine (hans _).mono ?_; rintro e w2 ⟨rfl, hw2⟩; subst hw2))
 exact bodyPost_ret (v := .tuple #[.slice none 0 0, .int .i64 12]) (by simp [results, Tryz.results28, go_sem]) rfl ⟨rfl, qac (by exact bel2) hb1⟩
set_option maxRecDepth 100000 in
set_option maxHeartbeats 2000000 in
theorem qo2 {nodes : List Node} (T0 : Tree nodes) (hB : qa7 nodes) {w : World} {bt : Nat} {r : Node} {lst vw va : Value} {ws as_ : List Pw} (h : TwAt w nodes bt r lst vw va ws as_) (hr : r ∈ nodes) (hrk : r.key = []) {Ws : List Wk} {st : Int} (R : Rel nodes Ws ws as_) (I : SInv ⟨Ws, st, []⟩) {i : Nat} {x : Wk} (hi : Ws[i]? = some x) (I2 : SInv ⟨Ws.take i ++ Ws.drop (i + 1), st, []⟩) :
  Calls Tryz.prog 28 #[.pointer (some ⟨bt, 0, none⟩), .int .i64 x.num] w fun e w' => ∃ ev, e = .returned (.tuple #[ev, .int .i64 0]) /\ SetT nodes bt r lst vw va ws as_ (qaj (nodes.map Node.ent) ⟨Ws.take i ++ Ws.drop (i + 1), st, []⟩) ev w w' := by
 have hfin := fun W (hW : Below w.heap.size w W) => qpz (h.below hW) R I.wks hi
 have hans := fun W vw' va' ws' as' (hT : TwAt W nodes bt r lst vw' va' ws' as') (hR : Rel nodes (Ws.take i ++ Ws.drop (i + 1)) ws' as') => qf6 T0 hB hT hr hrk (s0 := ⟨Ws.take i ++ Ws.drop (i + 1), st, []⟩) hR I2 rfl
 generalize qaj (nodes.map Node.ent) ⟨Ws.take i ++ Ws.drop (i + 1), st, []⟩ = fin at hans ⊢
 have hbt := h.bk.at_.lt
 go_enter Tryz.func28, Tryz.ntmps28
 go_wp2_with (first
  | (go_at_call 55; refine (hfin _ ?_).mono ?_; (focus exact bel2); rintro e w1 ⟨rfl, vw1, va1, ws1, as1, n1, n2, n3, n4, n5⟩)
  | (go_at_call 51; refine (hans _ _ _ _ _ n1 n2).mono ?_; rintro e w2 ⟨vw2, va2, ev2, ws2, as2, rfl, m1, m2, m3, m4, m5, m6, m7⟩))
 have hKA : Keep (BkT bt vw va) w w1 := (Keep.new (by exact bel2)).qbo n3 (fun b hb e => e)
 have hz1 := hKA.size
 refine bodyPost_ret (v := .tuple #[ev2, .int .i64 0]) (by simp [results, Tryz.results28, go_sem]) rfl ⟨ev2, rfl, vw2, va2, ws2, as2, m1, m2, m3, hKA.qbo m4 (fun b hb e => ?_), fun b hb => ?_, fun b hb => Nat.le_trans hz1 (m6 b hb), fun p hp => .inl (n5 p (m7 p hp))⟩
 ·rcases e with e | e
  ·exact .inl e
  ·exact .inr (n4 b e)
 ·rcases m5 b hb with e | e | e
  ·exact (n4 b (.inl e)).imp id .inl
  ·exact (n4 b (.inr e)).imp id .inl
  ·exact .inr (.inr (by omega))
structure qb6 (τ : Nat -> Tag) (t : Nat) (W : World) (bt : Nat) (nodes : List Node) (last : Int) (vw va : Value) (ws as_ : List Pw) : Prop where
 pr : qfn τ t W bt nodes (.int .i64 last) vw va
 bk : ∃ r, nodes[0]? = some r /\ TwAt W nodes bt r (.int .i64 last) vw va ws as_
 wtag : ∀ b, vw.ownBlock = some b \/ va.ownBlock = some b -> τ b = .book t
 ptag : ∀ p ∈ ws ++ as_, τ p.blk = .work t
section
variable {τ τ' : Nat -> Tag} {t : Nat} {W W' : World} {bt : Nat} {nodes : List Node} {last : Int} {vw va : Value} {ws as_ : List Pw}
theorem qfn.qlc {c1 c2 c3 : Value} (h : qfn τ t W bt nodes c1 c2 c3) : qa7 nodes := fun a ha b hb e => by
 obtain ⟨i, hi⟩ := List.getElem?_of_mem ha
 obtain ⟨j, hj⟩ := List.getElem?_of_mem hb
 have t1 := (h.tags i a hi).1
 have t2 := (h.tags j b hj).1
 rw [e, t2] at t1
 injection t1 with _ _ e3
 subst e3
 rw [hi] at hj
 exact Option.some.inj hj
theorem qb6.lts (h : qb6 τ t W bt nodes last vw va ws as_) : bt < W.heap.size /\ (∀ b, vw.ownBlock = some b \/ va.ownBlock = some b -> b < W.heap.size) /\ (∀ p ∈ ws ++ as_, p.blk < W.heap.size) := by
 obtain ⟨r, _, hb⟩ := h.bk
 exact ⟨hb.bk.at_.lt, fun b e => e.elim (fun e => qal hb.bk.wrow e) (fun e => qal hb.bk.arow e), fun p hp => (hb.bk.works p hp).lt⟩
theorem qb6.keep (h : qb6 τ t W bt nodes last vw va ws as_) {T : Nat -> Prop} (k : Keep T W W') (hT : ∀ b, b < W.heap.size -> T b -> ¬ (τ b).prog t) (hτ : ∀ b, b < W.heap.size -> τ' b = τ b) : qb6 τ' t W' bt nodes last vw va ws as_ := by
 have hp := h.pr.keep k hT hτ
 obtain ⟨l1, l2, l3⟩ := h.lts
 obtain ⟨r, hr, hb⟩ := h.bk
 refine ⟨hp, ⟨r, hr, hp.ins, ?_, hb.lf, hb.nm⟩, fun b e => by rw [hτ b (l2 b e)]; exact h.wtag b e, fun p hq => by rw [hτ _ (l3 p hq)]; exact h.ptag p hq⟩
 exact hb.bk.keep k (fun e => hT _ l1 e (by rw [h.pr.ttag]; rfl)) (fun b e e2 => hT _ (l2 b (.inl e)) e2 (by rw [h.wtag b (.inl e)]; rfl)) (fun b e e2 => hT _ (l2 b (.inr e)) e2 (by rw [h.wtag b (.inr e)]; rfl)) (fun p hq e2 => hT _ (l3 p hq) e2 (by rw [h.ptag p hq]; rfl))
open Classical in
theorem qb6.set (h : qb6 τ t W bt nodes last vw va ws as_) {r : Node} (hr : nodes[0]? = some r) {last' : Int} {fin : SS} {ev : Value} (hs : SetT nodes bt r (.int .i64 last') vw va ws as_ fin ev W W') :
  ∃ τ' vw' va' ws' as', (∀ x, x < W.heap.size -> τ' x = τ x) /\ (∀ x, W.heap.size <= x -> τ' x = .free \/ (τ' x).prog t) /\ qb6 τ' t W' bt nodes last' vw' va' ws' as' /\ Rel nodes fin.Ws ws' as' /\ W'.ownsRow 0 60 2 ev fin.evs.length (qai fin.evs) /\ (∀ b, ev.ownBlock = some b -> W.heap.size <= b /\ τ' b = .free) /\ Keep (fun x => x < W.heap.size /\ (τ x).prog t) W W' := by
 obtain ⟨vw', va', ws', as', m1, m2, m3, m4, m5, m6, m7⟩ := hs
 obtain ⟨l1, l2, l3⟩ := h.lts
 obtain ⟨τ', hτ'⟩ : ∃ τ' : Nat -> Tag, τ' = fun x => if x < W.heap.size then τ x else if vw'.ownBlock = some x \/ va'.ownBlock = some x then .book t else if ∃ p ∈ ws' ++ as', p.blk = x then .work t else .free := ⟨_, rfl⟩
 have hτo : ∀ x, x < W.heap.size -> τ' x = τ x := fun x hx => by rw [hτ']; simp [hx]
 have hwb : ∀ p ∈ ws' ++ as', ¬ (vw'.ownBlock = some p.blk \/ va'.ownBlock = some p.blk) := fun p hp e => by
  rcases e with e | e
  ·exact qag m1.bk.wrow (m1.bk.works p hp) (by decide) e
  ·exact qag m1.bk.arow (m1.bk.works p hp) (by decide) e
 refine ⟨τ', vw', va', ws', as', hτo, fun x hx => ?_, ⟨⟨h.pr.tree, m1.ins, fun i n hi => ?_, ⟨r, hr, m1.bk.at_⟩, ?_⟩, ⟨r, hr, m1⟩, fun b e => ?_, fun p hp => ?_⟩, m3, m2, fun b e => ⟨m6 b e, ?_⟩, ?_⟩
 ·rw [hτ']
  simp only [Nat.not_lt.2 hx, if_false]
  split
  ·exact .inr rfl
  ·split
   ·exact .inr rfl
   ·exact .inl rfl
 ·obtain ⟨t1, t2⟩ := h.pr.tags i n hi
  have hn := h.pr.ins n (List.mem_of_getElem? hi)
  exact ⟨by rw [hτo _ hn.lt]; exact t1, fun g hg => by rw [hτo _ (hn.row.lt g hg).2]; exact t2 g hg⟩
 ·rw [hτo _ l1]; exact h.pr.ttag
 ·rcases m5 b e with e2 | e2 | e2
  ·rw [hτo _ (l2 b (.inl e2))]; exact h.wtag b (.inl e2)
  ·rw [hτo _ (l2 b (.inr e2))]; exact h.wtag b (.inr e2)
  ·rw [hτ']; simp [Nat.not_lt.2 e2, e]
 ·rcases m7 p hp with e | e
  ·rw [hτo _ (l3 p e)]; exact h.ptag p e
  ·have h1 : ∃ q ∈ ws' ++ as', q.blk = p.blk := ⟨p, hp, rfl⟩
   rw [hτ']
   simp only [Nat.not_lt.2 e, if_false, hwb p hp, if_pos h1]
 ·have h1 : ¬ b < W.heap.size := Nat.not_lt.2 (m6 b e)
  have h2 : ¬ (vw'.ownBlock = some b \/ va'.ownBlock = some b) := fun e2 => by
   rcases e2 with e2 | e2
   ·exact qdj m2 m1.bk.wrow (by decide) e e2
   ·exact qdj m2 m1.bk.arow (by decide) e e2
  have h3 : ¬ ∃ p ∈ ws' ++ as', p.blk = b := fun ⟨p, hp, e2⟩ => by
   subst e2
   exact qag m2 (m1.bk.works p hp) (by decide) e
  rw [hτ']
  simp only [h1, h2, if_false, if_neg h3]
 ·refine (Keep.refl _ W).qbo m4 (fun x hx e => ⟨hx, ?_⟩)
  rcases e with e | e | e
  ·rw [e, h.pr.ttag]; rfl
  ·rw [h.wtag x (.inl e)]; rfl
  ·rw [h.wtag x (.inr e)]; rfl
theorem qb6.hung (h : qb6 τ t W bt nodes last vw va ws as_) {w w' : World} (hWw : Below W.heap.size W w) {q : Nat} (hq : W.heap.size <= q) {s : Bs} {leaf : Bool} {a b c d : Int}
  (hv : qar s = true) (hd : qdm s <= 4) (hnum : (0 <= a /\ a <= 1000) /\ (0 <= b /\ b <= 1000) /\ (0 <= c /\ c <= 1000) /\ (0 <= d /\ d <= 1000) /\ (leaf = false -> a = 0 /\ b = 0))
  (hp : qkx nodes q s leaf a b c d w w') :
  ∃ τ' nodes', (∀ x, x < W.heap.size -> τ' x = τ x) /\ (∀ x, W.heap.size <= x -> τ' x = .free \/ (τ' x).prog t) /\ qb6 τ' t w' bt nodes' last vw va ws as_ /\ nodes'.map Node.ent = nodes.map Node.ent ++ [⟨qaa s, leaf, a, b, c, d⟩] /\
   Keep (fun x => x < W.heap.size /\ (τ x).prog t) W w' /\ (∀ n ∈ nodes, ∃ n' ∈ nodes', n'.blk = n.blk /\ n'.key = n.key) := by
 obtain ⟨τ', nodes', g1, g2, g3, g4, g5, g6, g7⟩ := h.pr.hung hWw hq hv hd hnum hp
 obtain ⟨l1, l2, l3⟩ := h.lts
 obtain ⟨r, hr, hb⟩ := h.bk
 obtain ⟨r', hr', hat⟩ := g3.tow
 refine ⟨τ', nodes', g1, g2, ⟨g3, ⟨r', hr', g3.ins, ⟨hat, ?_, ?_, ?_, hb.bk.sep, hb.bk.nd, hb.bk.inj, hb.bk.len⟩, fun p hp => ?_, hb.nm⟩, fun b e => by rw [g1 b (l2 b e)]; exact h.wtag b e, fun p hq => by rw [g1 _ (l3 p hq)]; exact h.ptag p hq⟩, g4, (Keep.refl _ W).qbo g5 (fun x hx e => ⟨hx, ?_⟩), g6⟩
 ·exact qab hb.bk.wrow g5 (fun g hg e => by have := e.2.1; rw [h.wtag g (.inl hg)] at this; simp at this)
 ·exact qab hb.bk.arow g5 (fun g hg e => by have := e.2.1; rw [h.wtag g (.inr hg)] at this; simp at this)
 ·exact fun p hp => (hb.bk.works p hp).keep g5 (fun e => by have := e.2.1; rw [h.ptag p hp] at this; simp at this)
 ·obtain ⟨n, hn, e1, e2⟩ := hb.lf p hp
  obtain ⟨n', hn', f1, f2⟩ := g6 n hn
  exact ⟨n', hn', f1.trans e1, f2.trans e2⟩
 ·obtain ⟨_, e1, e2⟩ := e
  generalize τ x = y at e1 e2
  obtain ⟨k, t', i⟩ := y
  simp only at e1 e2
  rcases e1 with e1 | e1 <;> subst e1 <;> exact e2
theorem Rel.qvh {nodes nodes' : List Node} {Ws : List Wk} {ws as_ : List Pw} (R : Rel nodes Ws ws as_) (h : ∀ n ∈ nodes, ∃ n' ∈ nodes', n'.blk = n.blk /\ n'.key = n.key) : Rel nodes' Ws ws as_ :=
 ⟨R.w, R.a, fun p hp => by
  obtain ⟨n, hn, e1, e2⟩ := R.leaf p hp
  obtain ⟨n', hn', f1, f2⟩ := h n hn
  exact ⟨n', hn', f1.trans e1, f2.trans e2⟩⟩
end
end Go.Proofs.YtphclnolomgjoaaGreatDoor
