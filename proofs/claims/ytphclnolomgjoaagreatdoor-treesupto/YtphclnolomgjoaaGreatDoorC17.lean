import Derived.Test.YtphclnolomgjoaaGreatDoorC06
import Derived.Test.YtphclnolomgjoaaGreatDoorC16
import GoSem.Op.String
import Derived.Lib.SliceRun
set_option linter.unusedVariables false
set_option linter.unusedSimpArgs false
namespace Go.Proofs.YtphclnolomgjoaaGreatDoor
open Go.RowKit
theorem i91a : (Tryz.prog.info? 95).map (fun i => (i.size, i.bytes)) = some (1, 8) := by kernel_rfl
theorem i91b : (Tryz.prog.info? 95).bind (fun i => i.zero) = some (.pointer none) := by kernel_rfl
theorem qvc : qdf 95 1 8 := qep i91a i91b rfl
theorem un94 : Tryz.prog.underlying 98 = some (.slice 95) := by kernel_rfl
theorem HpAt.form {W : World} {hb : Nat} {f v : Value} {ys : List Pw} (h : HpAt W hb f v ys) : ∃ a cap, v = .slice a ys.length cap /\ ys.length <= cap /\ cap <= maxLen := by
 rcases h.row.2 with ⟨rfl, h0⟩ | ⟨g, cap, cur, rfl, _, _, h1, h2, _⟩
 ·exact ⟨none, 0, by rw [h0], by omega, Nat.zero_le _⟩
 ·exact ⟨_, cap, rfl, h1, h2⟩
theorem Keep.qbo {T T' : Nat -> Prop} {w W W' : World} (h : Keep T w W) (hk : Keep T' W W') (hs : ∀ b, b < w.heap.size -> T' b -> T b) : Keep T w W' :=
 ⟨hk.os.trans h.os, hk.tape.trans h.tape, hk.output.trans h.output, Nat.le_trans h.size hk.size, fun k hk1 ht => (hk.block k (Nat.lt_of_lt_of_le hk1 h.size) (fun e => ht (hs k hk1 e))).trans (h.block k hk1 ht)⟩
set_option maxRecDepth 100000 in
set_option maxHeartbeats 2000000 in
theorem qu4 {w : World} {hb : Nat} {v : Value} {ys : List Pw} {lt : Pw -> Pw -> Bool} (O : Ord lt) (h : HpAt w hb (.func (.func 168) #[] #[]) v ys) (hl : ys.length <= 50) (hU : qbp lt ys) (p : Pw) (hbef : Befs w (fun y => y = hb \/ v.ownBlock = some y) (ys ++ [p]) lt) :
  Calls Tryz.prog 208 #[.pointer (some ⟨hb, 0, none⟩), nptr p.blk] w fun e w' => e = .returned (.tuple #[]) /\ ∃ v' zs, zs.Perm (ys ++ [p]) /\ qbp lt zs /\ HpAt w' hb (.func (.func 168) #[] #[]) v' zs /\ Keep (fun y => y = hb \/ v.ownBlock = some y) w w' /\ (v'.ownBlock = v.ownBlock \/ ∃ g, v'.ownBlock = some g /\ w.heap.size <= g) := by
 have hlt := h.at_.lt
 have c1 := h.at_.cell 1
 simp only [List.getElem?_toArray, List.getElem?_cons_zero, List.getElem?_cons_succ] at c1
 have hB0 : Below w.heap.size w (w.alloc (.cells #[nptr p.blk] 95)) := by exact bel2
 have hH0 := h.below hB0
 have hap := qby un94 qvc (by omega) (w.alloc (.cells #[nptr p.blk] 95)) v ys.length (qay ys) hH0.row w.heap.size 1 1 (by omega) [nptr p.blk] rfl (Blk.new w 95 _) (fun u hu => by simp at hu; subst hu; rfl) (by unfold maxLen; omega) (by omega)
 have hpost : ∀ g' cap' w', AppR (w.alloc (.cells #[nptr p.blk] 95)) v.ownBlock 95 1 (ys.length + 1) (qay ys ++ [nptr p.blk]) g' cap' w' -> Blk w' hb 247 #[.func (.func 168) #[] #[], v] /\ HpAt (w'.setCell ⟨hb, 1, none⟩ (.slice (some ⟨g', 0, none⟩) (ys.length + 1) cap')) hb (.func (.func 168) #[] #[]) (.slice (some ⟨g', 0, none⟩) (ys.length + 1) cap') (ys ++ [p]) /\ Keep (fun y => y = hb \/ v.ownBlock = some y) w (w'.setCell ⟨hb, 1, none⟩ (.slice (some ⟨g', 0, none⟩) (ys.length + 1) cap')) /\ (v.ownBlock = some g' \/ w.heap.size <= g') := fun g' cap' w' R => by
  have hb' := hH0.at_.keep R.keep h.ne
  have hg' : g' ≠ hb := fun e => by
   rcases R.new with e2 | e2
   ·rw [e] at e2; exact h.ne e2
   ·simp at e2; omega
  refine ⟨hb', ⟨?_, ?_, ?_⟩, ?_, ?_⟩
  ·have := hb'.set 1 (.slice (some ⟨g', 0, none⟩) (ys.length + 1) cap')
   simpa using this
  ·have : qay (ys ++ [p]) = qay ys ++ [nptr p.blk] := by simp [qay]
   rw [this, show (ys ++ [p]).length = ys.length + 1 by simp]
   exact ownsRow_setCell_other R.own (by simp [Value.ownBlock]; exact hg') _
  ·simp [Value.ownBlock]; exact hg'
  ·exact (((Keep.new (T := fun y => y = hb \/ v.ownBlock = some y) hB0).qbo R.keep (fun b _ e => .inr e))).setCell (p := ⟨hb, 1, none⟩) (.inl rfl) _
  ·exact R.new.imp id (fun e => by simp at e; omega)
 have hrise := fun g' cap' W (hW : HpAt W hb (.func (.func 168) #[] #[]) (.slice (some ⟨g', 0, none⟩) (ys.length + 1) cap') (ys ++ [p])) (hk : Keep (fun y => y = hb \/ v.ownBlock = some y) w W) (hn : v.ownBlock = some g' \/ w.heap.size <= g') =>
  qu6 (k := ys.length) O hW (by simp; omega) (by simp) (hU.push p) (fun W2 hW2 => hbef W2 (hk.qbo hW2 (fun b hb2 e => by
   simp [Value.ownBlock] at e
   subst e
   rcases hn with e | e
   ·exact .inr e
   ·omega)))
 obtain ⟨a0, cap0, hv, hle, hmx⟩ := h.form
 obtain ⟨n, hn⟩ : ∃ n, n = ys.length := ⟨_, rfl⟩
 rw [<- hn] at hap hpost hrise hl hv hle
 have HV : Hid (v = .slice a0 n cap0) := hv
 clear h hH0 hU hbef hn hv
 unfold nptr at hap ⊢
 generalize hpp : qay ys = pp at hap hpost
 clear hpp
 go_enter Tryz.func208, Tryz.ntmps208
 go_wp2_with (at_builtin; refine qah (by rfl) _ _ _ _ rfl _ _ rfl (by rfl) hap ?_; rintro v1 w1 ⟨g1, q1, rfl, R1⟩; obtain ⟨hb1, hH1, hK1, hn1⟩ := hpost _ _ _ R1; have f1 := hb1.frozen 1; have hcc := hb1.cell 1; have hq1 := R1.le; have hq2 := R1.mx; simp only [List.getElem?_toArray, List.getElem?_cons_zero, List.getElem?_cons_succ] at hcc)
 refine (hrise _ _ _ hH1 hK1 hn1).mono ?_
 rintro e w2 ⟨rfl, zs, hp, hh, hH2, hK2⟩
 have hK3 : Keep (fun y => y = hb \/ v.ownBlock = some y) w w2 := hK1.qbo hK2 (fun b hb2 e => by
  simp [Value.ownBlock] at e
  subst e
  rcases hn1 with e | e
  ·exact .inr e
  ·omega)
 have hnew : (Value.slice (some ⟨g1, 0, none⟩) (n + 1) q1).ownBlock = v.ownBlock \/ ∃ g, (Value.slice (some ⟨g1, 0, none⟩) (n + 1) q1).ownBlock = some g /\ w.heap.size <= g := by
  rcases hn1 with e | e
  ·left; rw [e]; rfl
  ·exact .inr ⟨g1, rfl, e⟩
 clear hrise hpost hap
 go_wp2_with fail
 go_end0
 exact ⟨rfl, _, zs, hp, hh, hH2, hK3, hnew⟩
theorem qoc {W : World} {e : TypeId} {g n cap : Nat} {xs : List Value} (h : W.ownsRow 0 e 1 (.slice (some ⟨g, 0, none⟩) n cap) n xs) {m : Nat} (hm : m <= n) : W.ownsRow 0 e 1 (.slice (some ⟨g, 0, none⟩) m cap) m (xs.take m) := by
 obtain ⟨hl, hr⟩ := h
 rcases hr with ⟨hv, _⟩ | ⟨g', cap', cur, hv, hb, hg, h1, h2, h3, h4⟩
 ·cases hv
 ·injection hv with e1 _ e3
  injection e1 with e1
  injection e1 with e1
  subst e1 e3
  refine ⟨by simp at hl ⊢; omega, .inr ⟨g, cap, cur, rfl, hb, hg, by omega, h2, h3, ?_⟩⟩
  rw [<- h4, List.take_take]
  congr 1
  omega
set_option maxRecDepth 100000 in
set_option maxHeartbeats 2000000 in
theorem qgz {w : World} {hb : Nat} {f v : Value} {ys : List Pw} (h : HpAt w hb f v ys) (hl : ys.length <= 100) {i j : Nat} (hj : ys.length <= j) (hjb : j <= 1000) :
  Calls Tryz.prog 228 #[.pointer (some ⟨hb, 0, none⟩), .int .i64 i, .int .i64 j] w fun e w' => e = .returned (.int .i64 i) /\ Below w.heap.size w w' := by
 obtain ⟨a0, cap, hv, hc1, hc2⟩ := h.form
 have c1 := h.at_.cell 1
 have hlt := h.at_.lt
 simp only [List.getElem?_toArray, List.getElem?_cons_zero, List.getElem?_cons_succ] at c1
 rw [hv] at c1
 obtain ⟨n, hn⟩ : ∃ n, n = ys.length := ⟨_, rfl⟩
 rw [<- hn] at c1 hc1 hl hj
 have hjd : decide (j < n) = false := decide_eq_false (by omega)
 have h4 : (0 : Int) <= j := by omega
 clear h hv hn hj
 go_enter Tryz.func228, Tryz.ntmps228
 go_wp2_with fail
 go_quiet (fail)
 go_wp2_with fail
 go_ret
 exact ⟨rfl, below_drewN (Below.refl _ _) _⟩
set_option maxRecDepth 100000 in
set_option maxHeartbeats 2000000 in
theorem qt1 {w : World} {hb : Nat} {f v : Value} (h : HpAt w hb f v []) :
  Calls Tryz.prog 209 #[.pointer (some ⟨hb, 0, none⟩), .int .i64 0] w fun e w' => e = .returned (.tuple #[]) /\ Below w.heap.size w w' := by
 have c1 := qgz (i := 0) (j := 1) h (by simp) (by simp) (by omega)
 have c2 := fun W (hW : Below w.heap.size w W) => qgz (i := 0) (j := 2) (h.below hW) (by simp) (by simp) (by omega)
 have hlt := h.at_.lt
 simp only [Int.cast_ofNat_Int, Int.natCast_zero] at c1 c2
 clear h
 go_enter Tryz.func209, Tryz.ntmps209
 go_wp2_with fail
 refine wp_loop_rounds 1 ?_
 rw [rounds_succ]
 go_wp2_with fail
 refine c1.mono ?_
 rintro e w1 ⟨rfl, hb1⟩
 go_wp2_with fail
 refine (c2 _ hb1).mono ?_
 rintro e w2 ⟨rfl, hb2⟩
 go_wp2_with fail
 exact bodyPost_ret (v := .tuple #[]) (by simp [results, Tryz.results209, go_sem]) rfl ⟨rfl, qac hb1 hb2⟩
def PopR (hb : Nat) (v : Value) (ys : List Pw) (lt : Pw -> Pw -> Bool) (w : World) (e : Ending) (w' : World) : Prop :=
 (ys = [] /\ e = .returned (.tuple #[.pointer none, .bool false]) /\ w' = w) \/
 (∃ (a : Pw) (v' : Value) (zs : List Pw), ys[0]? = some a /\ e = .returned (.tuple #[nptr a.blk, .bool true]) /\ (a :: zs).Perm ys /\ qbp lt zs /\ HpAt w' hb (.func (.func 168) #[] #[]) v' zs /\ Keep (fun y => y = hb \/ v.ownBlock = some y) w w' /\ v'.ownBlock = v.ownBlock)
set_option maxRecDepth 100000 in
set_option maxHeartbeats 2000000 in
theorem qv8 {w : World} {hb : Nat} {v : Value} {ys : List Pw} {lt : Pw -> Pw -> Bool} (O : Ord lt) (h : HpAt w hb (.func (.func 168) #[] #[]) v ys) (hl : ys.length <= 100) (hU : qbp lt ys) (hbef : Befs w (fun y => y = hb \/ v.ownBlock = some y) ys lt) :
  Calls Tryz.prog 171 #[.pointer (some ⟨hb, 0, none⟩)] w (PopR hb v ys lt w) := by
 have hlt := h.at_.lt
 have c1 := h.at_.cell 1
 simp only [List.getElem?_toArray, List.getElem?_cons_zero, List.getElem?_cons_succ] at c1
 by_cases h0 : ys = []
 ·subst h0
  obtain ⟨a0, cap0, hv, hle, hmx⟩ := h.form
  rw [hv] at c1
  simp only [List.length_nil] at c1
  clear hbef hU
  go_enter Tryz.func171, Tryz.ntmps171
  go_wp2_with fail
  exact bodyPost_ret (v := .tuple #[.pointer none, .bool false]) (by simp [results, Tryz.results171, go_sem]) rfl (.inl ⟨rfl, rfl, rfl⟩)
 ·have hpos : 0 < ys.length := by cases ys with | nil => exact absurd rfl h0 | cons _ _ => simp
  obtain ⟨a, ha⟩ : ∃ a, ys[0]? = some a := ⟨_, List.getElem?_eq_getElem hpos⟩
  obtain ⟨b, hbl⟩ : ∃ b, ys[ys.length - 1]? = some b := ⟨_, List.getElem?_eq_getElem (by omega)⟩
  obtain ⟨g, cap, hv, hgl, hgh, hc1, hc2, ca, fa⟩ := h.get ha
  obtain ⟨g', cap', hv', _, _, _, _, cb, fb⟩ := h.get hbl
  rw [hv] at hv'
  injection hv' with e1 _ e3
  injection e1 with e1
  injection e1 with e1
  subst e1 e3
  rw [hv] at c1
  have f1 := h.at_.frozen 1
  have hbg : ¬ (hb = g) := fun e => hgh e.symm
  obtain ⟨m, hm⟩ : ∃ m, ys.length = m + 1 := ⟨ys.length - 1, by omega⟩
  have hm1 : ys.length - 1 = m := by omega
  rw [hm1] at cb fb hbl
  have hpre : ∀ (nq : Nat) (W : World), W = ((((w.drewN nq).setCell ⟨g, 0, none⟩ (nptr b.blk)).setCell ⟨g, m, none⟩ (.pointer none)).setCell ⟨hb, 1, none⟩ (.slice (some ⟨g, 0, none⟩) m cap)) -> HpAt W hb (.func (.func 168) #[] #[]) (.slice (some ⟨g, 0, none⟩) m cap) ((ys.set 0 b).take m) /\ Keep (fun y => y = hb \/ v.ownBlock = some y) w W := by
   rintro nq W rfl
   refine ⟨⟨?_, ?_, ?_⟩, ?_⟩
   ·have := (((h.at_.drewN nq).other ⟨g, 0, none⟩ (nptr b.blk) hbg).other ⟨g, m, none⟩ (.pointer none) hbg).set 1 (.slice (some ⟨g, 0, none⟩) m cap)
    simpa using this
   ·have hrow := h.row
    rw [hv] at hrow
    have r1 := ((hrow.stored 0 (nptr b.blk)).1.stored m (.pointer none)).1
    have r2 := qoc r1 (m := m) (by omega)
    have r3 := ownsRow_setCell_other r2 (a := ⟨hb, 1, none⟩) (by simp [Value.ownBlock]; exact hgh) (.slice (some ⟨g, 0, none⟩) m cap)
    have hlen : ((ys.set 0 b).take m).length = m := by simp; omega
    rw [hlen]
    have hpp : qay ((ys.set 0 b).take m) = (((qay ys).set 0 (nptr b.blk)).set m (.pointer none)).take m := by
     have e1 : (((qay ys).set 0 (nptr b.blk)).set m (.pointer none)).take m = ((qay ys).set 0 (nptr b.blk)).take m := List.take_set_of_le (Nat.le_refl m)
     rw [e1]
     simp [qay, List.map_set, List.map_take]
    rw [hpp]
    exact r3
   ·simp [Value.ownBlock]; exact hgh
   ·have hT : v.ownBlock = some g := by rw [hv]; rfl
    exact ((((Keep.refl _ _).drewN nq).setCell (p := ⟨g, 0, none⟩) (.inr hT) _).setCell (p := ⟨g, m, none⟩) (.inr hT) _).setCell (p := ⟨hb, 1, none⟩) (.inl rfl) _
  have hD : qbr lt ((ys.set 0 b).take m) 0 := by rw [<- hm1]; exact hU.pop b
  have hPm : (a :: (ys.set 0 b).take m).Perm ys := by rw [<- hm1]; exact qnz ha (by rw [hm1]; exact hbl)
  have hsub : ∀ x ∈ (ys.set 0 b).take m, x ∈ ys := fun x hx => hPm.mem_iff.1 (List.mem_cons_of_mem _ hx)
  have hsink : ∀ (nq : Nat) (W : World), W = ((((w.drewN nq).setCell ⟨g, 0, none⟩ (nptr b.blk)).setCell ⟨g, m, none⟩ (.pointer none)).setCell ⟨hb, 1, none⟩ (.slice (some ⟨g, 0, none⟩) m cap)) -> Calls Tryz.prog 209 #[.pointer (some ⟨hb, 0, none⟩), .int .i64 0] W fun e w' => e = .returned (.tuple #[]) /\ PopR hb v ys lt w (.returned (.tuple #[nptr a.blk, .bool true])) w' := fun nq W hW => by
   obtain ⟨hH, hK⟩ := hpre nq W hW
   have hown : (Value.slice (some ⟨g, 0, none⟩) m cap).ownBlock = v.ownBlock := by rw [hv]; rfl
   by_cases hm0 : m = 0
   ·subst hm0
    simp only [List.take_zero] at hH hPm
    refine (qt1 hH).mono ?_
    rintro e w' ⟨rfl, hB⟩
    exact ⟨rfl, .inr ⟨a, _, [], ha, rfl, hPm, fun j x y hj hx => by simp at hx, hH.below hB, hK.trans (Keep.new hB), hown⟩⟩
   ·have hlen : ((ys.set 0 b).take m).length = m := by simp; omega
    have hs := qvy (k := 0) O hH (by omega) (by omega) hD (fun W2 hW2 x hx y hy => hbef W2 (hK.qbo hW2 (fun k _ e => .inr (by rw [<- hown]; exact e))) x (hsub x hx) y (hsub y hy))
    refine hs.mono ?_
    rintro e w' ⟨rfl, zs, hp, hh, hH2, hK2⟩
    exact ⟨rfl, .inr ⟨a, _, zs, ha, rfl, ((hp.cons a).trans hPm), hh, hH2, hK.qbo hK2 (fun k _ e => .inr (by rw [<- hown]; exact e)), hown⟩⟩
  rw [hm] at c1 hc1 hl
  have hmi : (0 : Int) <= m := by omega
  have hfr0 : w.frozen? ⟨g, 0, none⟩ = false := fa
  unfold nptr at ca cb hsink
  have HX : Hid (∀ w', PopR hb v ys lt w (.returned (.tuple #[nptr a.blk, .bool true])) w' -> PopR hb v ys lt w (.returned (.tuple #[nptr a.blk, .bool true])) w') := fun _ e => e
  have HAB : Hid (m = 0 -> b = a) := fun e => by subst e; rw [ha] at hbl; cases hbl; rfl
  clear hpre hD hPm hsub h hbef hU hv ha hbl h0 hpos hm hm1 HX
  generalize PopR hb v ys lt w = X at hsink ⊢
  by_cases hm0 : m = 0
  ·have hab := HAB.out hm0
   subst hm0
   subst hab
   clear HAB
   go_enter Tryz.func171, Tryz.ntmps171
   go_upto_region 4 with fail
   go_quiet (fail)
   go_wp2_with fail
   go_region
   all_goals go_wp2_with fail
   refine (hsink _ _ rfl).mono ?_
   rintro e w2 ⟨rfl, hX⟩
   go_wp2_with fail
   exact hX
  ·have hm0' : ¬ (0 = m) := fun e => hm0 e.symm
   go_enter Tryz.func171, Tryz.ntmps171
   go_upto_region 4 with fail
   go_quiet (fail)
   go_wp2_with fail
   go_region
   all_goals go_wp2_with fail
   refine (hsink _ _ rfl).mono ?_
   rintro e w2 ⟨rfl, hX⟩
   go_wp2_with fail
   exact hX
end Go.Proofs.YtphclnolomgjoaaGreatDoor
namespace Go.Proofs.YtphclnolomgjoaaGreatDoor
theorem qj8 (a : List UInt8) : Op.bytesLess a [] = false := by cases a <;> rfl
theorem qt3 (a b : UInt8) (x y : List UInt8) : Op.bytesLess (a :: x) (b :: y) = (decide (a < b) || (a == b && Op.bytesLess x y)) := rfl
theorem qf8 (a b : UInt8) (x y : List UInt8) : Op.bytesLess (a :: x) (b :: y) = true ↔ (a.toNat < b.toNat \/ (a.toNat = b.toNat /\ Op.bytesLess x y = true)) := by
 rw [qt3]
 simp only [Bool.or_eq_true, Bool.and_eq_true, decide_eq_true_eq, beq_iff_eq, UInt8.lt_iff_toNat_lt, <- UInt8.toNat_inj]
theorem qa1 (a b : UInt8) (x y : List UInt8) : Op.bytesLess (a :: x) (b :: y) = false ↔ (b.toNat < a.toNat \/ (a.toNat = b.toNat /\ Op.bytesLess x y = false)) := by
 have h := qf8 a b x y
 constructor
 ·intro hf
  rw [hf] at h
  simp only [Bool.false_eq_true, false_iff, not_or, not_and, Bool.not_eq_true] at h
  rcases Nat.lt_trichotomy a.toNat b.toNat with h1 | h1 | h1
  ·exact absurd h1 h.1
  ·exact .inr ⟨h1, h.2 h1⟩
  ·exact .inl h1
 ·intro hh
  cases hb : Op.bytesLess (a :: x) (b :: y)
  ·rfl
  ·rcases h.1 hb with h1 | ⟨h1, h2⟩
   ·rcases hh with h3 | ⟨h3, _⟩ <;> omega
   ·rcases hh with h3 | ⟨_, h4⟩
    ·omega
    ·rw [h2] at h4; cases h4
theorem qf1 : ∀ (a b : List UInt8), Op.bytesLess a b = true -> Op.bytesLess b a = false
 | [], [], h => by cases h
 | a :: x, [], h => by cases h
 | [], b :: y, h => rfl
 | a :: x, b :: y, h => by
  rcases (qf8 ..).1 h with h1 | ⟨h1, h2⟩
  ·exact (qa1 ..).2 (.inl h1)
  ·exact (qa1 ..).2 (.inr ⟨h1.symm, qf1 x y h2⟩)
theorem qfe : ∀ (a b c : List UInt8), Op.bytesLess a b = false -> Op.bytesLess b c = false -> Op.bytesLess a c = false
 | a, b, [], _, _ => qj8 a
 | a, [], c :: z, _, h => by cases h
 | [], b :: y, c :: z, h, _ => by cases h
 | a :: x, b :: y, c :: z, h1, h2 => by
  rcases (qa1 ..).1 h1 with h3 | ⟨h3, h4⟩ <;> rcases (qa1 ..).1 h2 with h5 | ⟨h5, h6⟩
  ·exact (qa1 ..).2 (.inl (by omega))
  ·exact (qa1 ..).2 (.inl (by omega))
  ·exact (qa1 ..).2 (.inl (by omega))
  ·exact (qa1 ..).2 (.inr ⟨by omega, qfe x y z h4 h6⟩)
theorem qk5 : ∀ (a b : List UInt8), Op.bytesLess a b = false -> Op.bytesLess b a = false -> a = b
 | [], [], _, _ => rfl
 | [], b :: y, h, _ => by cases h
 | a :: x, [], _, h => by cases h
 | a :: x, b :: y, h1, h2 => by
  rcases (qa1 ..).1 h1 with h3 | ⟨h3, h4⟩ <;> rcases (qa1 ..).1 h2 with h5 | ⟨h5, h6⟩
  ·omega
  ·omega
  ·omega
  ·rw [UInt8.toNat_inj.1 h3, qk5 x y h4 h6]
theorem qb8 (a : List UInt8) : Op.bytesLess a a = false := by
 cases h : Op.bytesLess a a
 ·rfl
 ·have := qf1 a a h; rw [h] at this; exact this
end Go.Proofs.YtphclnolomgjoaaGreatDoor
namespace Go.Proofs.YtphclnolomgjoaaGreatDoor
open Go.RowKit
def ltP (a b : Pw) : Bool := Op.bytesLess (joinB a.x.key) (joinB b.x.key)
theorem qnp : Ord ltP := ⟨fun a b h => qf1 _ _ h, fun a b c h1 h2 => qfe _ _ _ h1 h2⟩
set_option maxRecDepth 100000 in
set_option maxHeartbeats 2000000 in
theorem qm8 {nodes : List Node} (T : Tree nodes) {w : World} (hN : ∀ n ∈ nodes, qan w n) {a b : Pw} (ha : PwIn w nodes a) (hb : PwIn w nodes b) :
  Calls Tryz.prog 168 #[nptr a.blk, nptr b.blk] w fun e w' => e = .returned (.bool (ltP a b)) /\ Below w.heap.size w w' := by
 obtain ⟨m, hm, hmq, hmk⟩ := ha.leaf
 obtain ⟨k, hk, hkq, hkk⟩ := hb.leaf
 have hpa := fun W (hW : Below w.heap.size w W) => qhh T _ m hm rfl W (fun n hn => (hN n hn).below hW)
 have hpb := fun W (hW : Below w.heap.size w W) => qhh T _ k hk rfl W (fun n hn => (hN n hn).below hW)
 have hca := fun W (hW : Below w.heap.size w W) => (ha.below hW).cells.2.1
 have hcb := fun W (hW : Below w.heap.size w W) => (hb.below hW).cells.2.1
 rw [hmq, hmk] at hpa
 rw [hkq, hkk] at hpb
 have hlt : Op.bytesLess (sb (joinB a.x.key)).toList (sb (joinB b.x.key)).toList = ltP a b := by unfold ltP; rw [qaz, qaz, qbi, qbi]
 generalize ltP a b = t at hlt ⊢
 generalize sb (joinB a.x.key) = pa at hpa hlt
 generalize sb (joinB b.x.key) = pb at hpb hlt
 generalize a.blk = ab at *
 generalize b.blk = bb at *
 generalize a.q = aq at *
 generalize b.q = bq at *
 have x1 := hca w (Below.refl _ _)
 have x2 := hcb w (Below.refl _ _)
 clear hmq hmk hkq hkk ha hb hm hk
 unfold nptr at hpa hpb ⊢
 go_enter Tryz.func168, Tryz.ntmps168
 go_upto_region 1 with fail
 go_region_held3 (fun w' => w'.cell? ⟨ab, 1, none⟩ = some (.pointer (some ⟨aq, 0, none⟩)) /\ w'.cell? ⟨bb, 1, none⟩ = some (.pointer (some ⟨bq, 0, none⟩))) (go_keep)
  (first
  | (go_at_call_of 47 (Value.pointer (some ⟨aq, 0, none⟩)); refine (hpa _ ?_).mono ?_; (focus exact bel2); rintro e w1 ⟨rfl, hb1⟩; have hB1 : Below w.heap.size w w1 := qac (by exact bel2) hb1; have y1 := hca _ hB1; have y2 := hcb _ hB1)
  | (go_at_call_of 47 (Value.pointer (some ⟨bq, 0, none⟩)); refine (hpb _ ?_).mono ?_; (focus exact bel2); rintro e w2 ⟨rfl, hb2⟩; have hB2 : Below w.heap.size w w2 := qac (by exact bel2) hb2; have z1 := hca _ hB2; have z2 := hcb _ hB2))
 all_goals go_wp2_with fail
 go_ret
 exact ⟨rfl, hB2⟩
theorem un91 : Tryz.prog.underlying 95 = some (.pointer 105) := by kernel_rfl
theorem qw5 : (Tryz.prog.info? 105).map (fun i => i.size) = some 4 := by kernel_rfl
theorem qu5 : ∃ j, Tryz.prog.info? 105 = some j /\ j.size ≠ 0 := by
 have h := qw5
 cases hi : Tryz.prog.info? 105 with
 | none => rw [hi] at h; cases h
 | some j => rw [hi] at h; simp at h; exact ⟨j, rfl, by omega⟩
theorem qv5 {W : World} {x m : Pw} (hx : Blk W x.blk 105 x.cells) (hm : Blk W m.blk 105 m.cells) : (binOp .eql 95 (.pointer (some ⟨x.blk, 0, none⟩)) (.pointer (some ⟨m.blk, 0, none⟩))).run Tryz.prog W = .ok (.bool (x.blk == m.blk)) W := by
 obtain ⟨j, hj, hs⟩ := qu5
 by_cases h : x.blk = m.blk
 ·rw [h, beq_self_eq_true]
  exact run_eql_ptr_same _ _ un91 hj
 ·have hb : (x.blk == m.blk) = false := by simp [h]
  rw [hb]
  exact run_eql_ptr_other _ un91 hj hs (fun e => h (by injection e)) hx hm
theorem wo1 {w : World} {x p : Pw} (hx : Blk w x.blk 105 x.cells) (hp : Blk w p.blk 105 p.cells) {bx : Nat} (hb : w.cell? ⟨bx, 0, none⟩ = some (nptr p.blk)) :
  Calls Tryz.prog 188 #[nptr x.blk, .pointer (some ⟨bx, 0, none⟩)] w fun e w' => e = .returned (.bool (x.blk == p.blk)) /\ w' = w := by
 have heq := qv5 hx hp
 unfold nptr at hb ⊢
 go_enter Tryz.func188, Tryz.ntmps188
 go_wp2
 go_ret
 exact ⟨rfl, rfl⟩
structure WRow (W : World) (v : Value) (l : List Pw) : Prop where
 row : W.ownsRow 0 95 1 v l.length (qay l)
 works : ∀ p ∈ l, Blk W p.blk 105 p.cells
theorem WRow.at_ {W : World} {v : Value} {l : List Pw} (h : WRow W v l) {i : Nat} {p : Pw} (hi : l[i]? = some p) : ∃ g cap, v = .slice (some ⟨g, 0, none⟩) l.length cap /\ g < W.heap.size /\ l.length <= cap /\ cap <= maxLen /\ W.cell? ⟨g, i, none⟩ = some (nptr p.blk) := by
 obtain ⟨g, cap, rfl, h1, h2⟩ := qat h.row (Nat.lt_of_le_of_lt (Nat.zero_le _) (List.getElem?_eq_some_iff.1 hi).1)
 have := h.row.cells (g := g) rfl i (nptr p.blk) (by unfold qay; rw [List.getElem?_map, hi]; rfl)
 rw [Addr.add_lit, Nat.zero_add] at this
 exact ⟨g, cap, rfl, qal h.row rfl, h1, h2, this⟩
theorem WRow.form {W : World} {v : Value} {l : List Pw} (h : WRow W v l) : ∃ a cap, v = .slice a l.length cap /\ l.length <= cap /\ cap <= maxLen := by
 rcases h.row.2 with ⟨rfl, h0⟩ | ⟨g, cap, cur, rfl, _, _, h1, h2, _⟩
 ·exact ⟨none, 0, by rw [h0], by omega, Nat.zero_le _⟩
 ·exact ⟨_, cap, rfl, h1, h2⟩
def IdxR (l : List Pw) (p : Pw) (e : Ending) : Prop := (∃ i : Nat, e = .returned (.int .i64 i) /\ l[i]? = some p) \/ (p ∉ l /\ e = .returned (.int .i64 (-1)))
set_option maxRecDepth 100000 in
set_option maxHeartbeats 1000000 in
theorem qp7 {w : World} {v : Value} {l : List Pw} (h : WRow w v l) (hl : l.length <= 100) {p : Pw} (hp : Blk w p.blk 105 p.cells) (hinj : ∀ a ∈ l, a.blk = p.blk -> a = p) {bx : Nat} (hb : w.cell? ⟨bx, 0, none⟩ = some (nptr p.blk)) :
  Calls Tryz.prog 222 #[v, .func (.func 188) #[] #[.pointer (some ⟨bx, 0, none⟩)]] w fun e w' => IdxR l p e /\ w' = w := by
 obtain ⟨a0, cap0, hv, hle, hmx⟩ := h.form
 have hat := fun i q (hi : l[i]? = some q) => h.at_ hi
 have hwo := fun q (hq : q ∈ l) => wo1 (h.works q hq) hp hb
 obtain ⟨n, hn⟩ : ∃ n, n = l.length := ⟨_, rfl⟩
 rw [<- hn] at hv hat hl hle
 have HN : Hid (n = l.length) := hn
 clear hn
 subst hv
 go_enter Tryz.func222, Tryz.ntmps222
 go_wp2
 go_loop [8] (fun i => ∃ k : Nat, k <= n /\ i = .int .i64 k /\ ∀ j q, j < k -> l[j]? = some q -> q ≠ p) (fun i => n - (intOf i).toNat)
 case atStart => exact ⟨0, Nat.zero_le _, rfl, fun j q hj => by omega⟩
 case round =>
  obtain ⟨k, hk, rfl, hno⟩ := hrel
  have HNO : Hid (∀ j q, j < k -> l[j]? = some q -> q ≠ p) := hno
  clear hno
  by_cases hlt : k < n
  ·obtain ⟨q, hq⟩ : ∃ q, l[k]? = some q := ⟨_, List.getElem?_eq_getElem (by rw [<- HN.out]; exact hlt)⟩
   obtain ⟨g, cap, he, hgl, hc1, hc2, hc⟩ := hat k q hq
   injection he with e1 _ e3
   subst e1 e3
   have hqm := List.mem_of_getElem? hq
   have hw := hwo q hqm
   have HQ : Hid (l[k]? = some q) := hq
   have hki : (k : Int) < n := by omega
   have hki0 : (0 : Int) <= k := by omega
   unfold nptr at hc hw
   clear hq hat hwo
   cases hbq : (q.blk == p.blk)
   ·rw [hbq] at hw
    go_wp2_with (go_at_call 188; refine hw.mono ?_; rintro e w1 ⟨rfl, hw1⟩; subst hw1)
    go_round
    case rel =>
     refine ⟨k + 1, by omega, by go_num, fun j y hj hy => ?_⟩
     rcases Nat.lt_or_ge j k with h1 | h1
     ·exact HNO.out j y h1 hy
     ·obtain rfl : j = k := by omega
      rw [HQ.out] at hy; cases hy
      intro e; rw [e] at hbq; simp at hbq
    case measure => simp [intOf]; omega
   ·rw [hbq] at hw
    go_wp2_with (go_at_call 188; refine hw.mono ?_; rintro e w1 ⟨rfl, hw1⟩; subst hw1)
    go_ret
    have : q = p := hinj q hqm (by simpa using hbq)
    exact ⟨.inl ⟨k, rfl, by rw [<- this]; exact HQ.out⟩, rfl⟩
  ·go_wp2
   go_ret
   refine ⟨.inr ⟨fun hm => ?_, rfl⟩, rfl⟩
   obtain ⟨j, hj⟩ := List.getElem?_of_mem hm
   have h1 := (List.getElem?_eq_some_iff.1 hj).1
   exact HNO.out j p (by have := HN.out; omega) hj rfl
theorem qag {W : World} {t t' : TypeId} {size n : Nat} {v : Value} {xs : List Value} (h : W.ownsRow 0 t size v n xs) {b : Nat} {vs : Array Value} (hb : Blk W b t' vs) (ht : t ≠ t') : v.ownBlock ≠ some b := by
 intro e
 obtain ⟨_, hr⟩ := h
 rcases hr with ⟨rfl, _⟩ | ⟨g, cap, cur, rfl, _, hg, _⟩
 ·simp [Value.ownBlock] at e
 ·simp [Value.ownBlock] at e
  subst e
  have := hg.symm.trans hb
  injection this with this
  injection this with _ h2 _
  exact ht h2
def qi2 (l zs : List Pw) (i0 j : Nat) : Prop := zs.length = l.length /\ ∀ m, zs[m]? = if m < i0 then l[m]? else if m + 1 < j then l[m + 1]? else l[m]?
theorem qi2.start (l : List Pw) (i0 : Nat) : qi2 l l i0 (i0 + 1) := ⟨rfl, fun m => by
 by_cases h : m < i0
 ·simp [h]
 ·simp [h, show ¬ (m + 1 < i0 + 1) by omega]⟩
theorem qi2.step {l zs : List Pw} {i0 j : Nat} (h : qi2 l zs i0 j) (hj : i0 < j) {q : Pw} (hq : l[j]? = some q) : qi2 l (zs.set (j - 1) q) i0 (j + 1) := by
 refine ⟨by rw [List.length_set]; exact h.1, fun m => ?_⟩
 have hjl := (List.getElem?_eq_some_iff.1 hq).1
 rw [List.getElem?_set]
 by_cases e : j - 1 = m
 ·subst e
  rw [if_pos rfl, if_pos (by rw [h.1]; omega), if_neg (by omega), if_pos (by omega), show j - 1 + 1 = j by omega, hq]
 ·rw [if_neg e, h.2 m]
  by_cases h1 : m < i0
  ·simp [h1]
  ·simp only [h1, if_false]
   by_cases h2 : m + 1 < j
   ·simp [h2, show m + 1 < j + 1 by omega]
   ·simp [h2, show ¬ (m + 1 < j + 1) by omega]
theorem qi2.done {l zs : List Pw} {i0 : Nat} (h : qi2 l zs i0 l.length) (hi : i0 < l.length) : zs.take (l.length - 1) = l.take i0 ++ l.drop (i0 + 1) := by
 apply List.ext_getElem?
 intro m
 rw [List.getElem?_take]
 by_cases hm : m < l.length - 1
 ·rw [if_pos hm, h.2 m]
  by_cases h1 : m < i0
  ·rw [if_pos h1, List.getElem?_append_left (by simp; omega), List.getElem?_take_of_lt h1]
  ·rw [if_neg h1, if_pos (by omega), List.getElem?_append_right (by simp; omega), List.getElem?_drop]
   congr 1
   simp; omega
 ·rw [if_neg hm]
  symm
  rw [List.getElem?_eq_none_iff]
  simp; omega
def WoR (v : Value) (l : List Pw) (p : Pw) (w : World) (e : Ending) (w' : World) : Prop :=
 (p ∉ l /\ e = .returned v /\ Below w.heap.size w w') \/
 (∃ (i : Nat) (v' : Value), l[i]? = some p /\ e = .returned v' /\ WRow w' v' (l.take i ++ l.drop (i + 1)) /\ Keep (fun y => v.ownBlock = some y) w w' /\ v'.ownBlock = v.ownBlock)
theorem qv3 (w : World) : (zeroValue 95).run Tryz.prog w = .ok (.pointer none) w := by kernel_rfl
set_option maxRecDepth 100000 in
set_option maxHeartbeats 2000000 in
theorem qmz {w : World} {v : Value} {l : List Pw} (h : WRow w v l) (hl : l.length <= 100) {p : Pw} (hp : Blk w p.blk 105 p.cells) (hinj : ∀ a ∈ l, a.blk = p.blk -> a = p) (hnd : l.Nodup) {bx : Nat} (hb : w.cell? ⟨bx, 0, none⟩ = some (nptr p.blk)) (hbx : v.ownBlock ≠ some bx) :
  Calls Tryz.prog 187 #[v, .func (.func 188) #[] #[.pointer (some ⟨bx, 0, none⟩)]] w (WoR v l p w) := by
 have hidx := qp7 h hl hp hinj hb
 go_enter Tryz.func187, Tryz.ntmps187
 go_wp2_with fail
 refine hidx.mono ?_
 obtain ⟨a0, cap0, hv, hle, hmx⟩ := h.form
 rintro e w1 ⟨(⟨i, rfl, hi⟩ | ⟨hno, rfl⟩), hw1⟩
 ·subst hw1
  have hil := (List.getElem?_eq_some_iff.1 hi).1
  obtain ⟨g, cap, hv2, hgl, hc1, hc2, _⟩ := h.at_ hi
  rw [hv] at hv2
  injection hv2 with e1 _ e3
  subst e1 e3
  obtain ⟨n, hn⟩ : ∃ n, n = l.length := ⟨_, rfl⟩
  have HN : Hid (n = l.length) := hn
  rw [<- hn] at hv hl hil hc1 hle
  have hTb : v.ownBlock = some g := by rw [hv]; rfl
  have hrow0 := h.row
  rw [hv, <- hn] at hrow0
  have hap : ∀ q ∈ l, g ≠ q.blk := fun q hq e => qag h.row (h.works q hq) (by decide) (by rw [hTb, e])
  have hap2 : g ≠ p.blk := hap p (List.mem_of_getElem? hi)
  have hgx : g ≠ bx := fun e => hbx (by rw [hTb, e])
  have hbl : bx < w1.heap.size := World.block_lt_of_cell? _ _ hb
  have hworks := h.works
  have hne1 : ((i : Int) == -1) = false := by simp
  have hi0 : (0 : Int) <= i := by omega
  have HV : Hid (v = .slice (some ⟨g, 0, none⟩) n cap0) := hv
  have HI : Hid (l[i]? = some p) := hi
  clear hidx hn hi h
  subst hv
  go_wp2_with fail
  go_loopw [5, 6] (fun vi vj wr => ∃ (j : Nat) (zs : List Pw), i + 1 <= j /\ j <= n /\ vj = .int .i64 j /\ vi = .int .i64 ((j - 1 : Nat) : Int) /\ qi2 l zs i j /\ wr.ownsRow 0 95 1 (.slice (some ⟨g, 0, none⟩) n cap0) n (qay zs) /\ Keep (fun y => y = g) w1 wr) (fun _ vj _ => n - (intOf vj).toNat)
  case atStart => exact ⟨i + 1, l, Nat.le_refl _, by omega, by go_num, by simp, qi2.start l i, hrow0, Keep.refl _ _⟩
  case round =>
   obtain ⟨j, zs, hj1, hj2, rfl, rfl, hM, hR, hK⟩ := hrel
   by_cases hlt : j < n
   ·obtain ⟨q, hq⟩ : ∃ q, l[j]? = some q := ⟨_, List.getElem?_eq_getElem (by rw [<- HN.out]; exact hlt)⟩
    have hqm := List.mem_of_getElem? hq
    have hqp : q ≠ p := fun e => by
     subst e
     have := (List.getElem?_inj (by rw [<- HN.out]; exact hlt) hnd).1 (hq.trans HI.out.symm)
     omega
    have hqb : (q.blk == p.blk) = false := by
     cases hh : (q.blk == p.blk) with
     | false => rfl
     | true => exact absurd (hinj q hqm (by simpa using hh)) hqp
    have hzq : zs[j]? = some q := by rw [hM.2 j, if_neg (by omega), if_neg (by omega)]; exact hq
    have cj := hR.cells (g := g) rfl j (nptr q.blk) (by unfold qay; rw [List.getElem?_map, hzq]; rfl)
    rw [Addr.add_lit, Nat.zero_add] at cj
    have fj := hR.frozenAt (g := g) (j - 1)
    have hw := wo1 ((hworks q hqm).keep hK (fun e => hap q hqm e.symm)) (hp.keep hK (fun e => hap2 e.symm)) ((hK.cell (p := ⟨bx, 0, none⟩) hbl (fun e => hgx e.symm)).trans hb)
    rw [hqb] at hw
    obtain ⟨z, hz⟩ : ∃ z, zs[j - 1]? = some z := ⟨_, List.getElem?_eq_getElem (by rw [hM.1, <- HN.out]; omega)⟩
    have cz := hR.cells (g := g) rfl (j - 1) (nptr z.blk) (by unfold qay; rw [List.getElem?_map, hz]; rfl)
    rw [Addr.add_lit, Nat.zero_add] at cz
    have hM2 := hM.step (by omega) hq
    have hR2 := (hR.stored (j - 1) (nptr q.blk)).1
    have hpp : qay (zs.set (j - 1) q) = (qay zs).set (j - 1) (nptr q.blk) := by simp [qay, List.map_set]
    rw [<- hpp] at hR2
    have hK2 := hK.setCell (p := ⟨g, j - 1, none⟩) rfl (nptr q.blk)
    have HF : Hid (qi2 l (zs.set (j - 1) q) i (j + 1) /\ (wr.setCell ⟨g, j - 1, none⟩ (nptr q.blk)).ownsRow 0 95 1 (.slice (some ⟨g, 0, none⟩) n cap0) n (qay (zs.set (j - 1) q)) /\ Keep (fun y => y = g) w1 (wr.setCell ⟨g, j - 1, none⟩ (nptr q.blk))) := ⟨hM2, hR2, hK2⟩
    obtain ⟨j', hj'⟩ : ∃ j', j = j' + 1 := ⟨j - 1, by omega⟩
    subst hj'
    simp only [Nat.add_sub_cancel] at HF cz fj ⊢
    unfold nptr at cj cz hw
    clear hM2 hR2 hK2 hpp hM hR hK hq hzq hz
    have k1 : ((j' + 1 : Nat) : Int) < n := by omega
    have k2 : (j' : Int) < n := by omega
    have k3 : (0 : Int) <= j' := by omega
    go_wp2_with fail
    refine hw.mono ?_
    rintro e w2 ⟨rfl, hw2⟩
    subst hw2
    clear hw
    go_wp2_with fail
    obtain ⟨m1, m2, m3⟩ := HF.out
    exact ⟨⟨j' + 2, zs.set j' q, by omega, by omega, by go_num, by go_num, m1, m2, m3⟩, by simp [intOf]; omega⟩
   ·have hjn : j = n := by omega
    subst hjn
    obtain ⟨n', hn'⟩ : ∃ n', j = n' + 1 := ⟨j - 1, by omega⟩
    have hlen : zs.length = j := by rw [hM.1, <- HN.out]
    obtain ⟨z, hz⟩ : ∃ z, zs[n']? = some z := ⟨_, List.getElem?_eq_getElem (by omega)⟩
    have cz := hR.cells (g := g) rfl n' (nptr z.blk) (by unfold qay; rw [List.getElem?_map, hz]; rfl)
    rw [Addr.add_lit, Nat.zero_add] at cz
    have fz := hR.frozenAt (g := g) n'
    have hcl := fun ty c => Lib.run_clear_slice (P := Tryz.prog) wr 98 95 ty (.pointer none) un94 qv3 rfl rfl g n' 1 c (by omega) (fun k hk => by
     have : k = 0 := by omega
     subst this
     rw [Nat.add_zero, cz]; rfl) (fun k hk => by
     have : k = 0 := by omega
     subst this
     exact fz)
    have hres : WoR (.slice (some ⟨g, 0, none⟩) j cap0) l p w1 (.returned (.slice (some ⟨g, 0, none⟩) n' cap0)) (wr.setCell ⟨g, n', none⟩ (.pointer none)) := by
     refine .inr ⟨i, _, HI.out, rfl, ⟨?_, fun q hq => ?_⟩, ?_, rfl⟩
     ·have r1 := (hR.stored n' (.pointer none)).1
      have r2 := qoc r1 (m := n') (by omega)
      have e1 : ((qay zs).set n' (.pointer none)).take n' = (qay zs).take n' := List.take_set_of_le (Nat.le_refl n')
      rw [e1] at r2
      have hd := hM
      rw [HN.out] at hd
      have hd2 := hd.done (by rw [<- HN.out]; omega)
      have hl1 : l.length - 1 = n' := by rw [<- HN.out]; omega
      rw [hl1] at hd2
      rw [<- hd2]
      have : qay (zs.take n') = (qay zs).take n' := by simp [qay, List.map_take]
      rw [this, show (zs.take n').length = n' by simp; omega]
      exact r2
     ·have hql : q ∈ l := by
       rcases List.mem_append.1 hq with h1 | h1
       ·exact List.mem_of_mem_take h1
       ·exact List.mem_of_mem_drop h1
      exact ((hworks q hql).keep hK (fun e => hap q hql e.symm)).other _ _ (fun e => hap q hql e.symm)
     ·exact (hK.mono (fun y e => by rw [e]; rfl)).setCell (p := ⟨g, n', none⟩) (by rfl) _
    have HRES : Hid (WoR (.slice (some ⟨g, 0, none⟩) j cap0) l p w1 (.returned (.slice (some ⟨g, 0, none⟩) n' cap0)) (wr.setCell ⟨g, n', none⟩ (.pointer none))) := hres
    subst hn'
    simp only [World.setCells, List.replicate] at hcl
    clear hres hM hR hK hlen hz
    simp only [Nat.add_sub_cancel]
    have k2 : (n' : Int) < (n' + 1 : Nat) := by omega
    have k3 : (0 : Int) <= n' := by omega
    have k4 : ¬ ((n' : Int) = cap0) := by omega
    go_wp2_with fail
    go_ret
    exact HRES.out
 ·subst hw1
  clear hv
  go_wp2_with fail
  go_ret
  exact .inl ⟨hno, rfl, Below.refl _ _⟩
set_option maxRecDepth 100000 in
set_option maxHeartbeats 1000000 in
theorem qb7 {w : World} {v : Value} {l : List Pw} (h : WRow w v l) (hl : l.length <= 100) {p : Pw} (hp : Blk w p.blk 105 p.cells) (hinj : ∀ a ∈ l, a.blk = p.blk -> a = p) (hnd : l.Nodup) :
  Calls Tryz.prog 138 #[v, nptr p.blk] w (WoR v l p w) := by
 have hB0 : Below w.heap.size w (w.alloc (.cells #[nptr p.blk] 95)) := by exact bel2
 have hb := (Box.new w 95 (nptr p.blk)).cell
 have h1 : WRow (w.alloc (.cells #[nptr p.blk] 95)) v l := ⟨qab (T := fun _ => False) h.row (Keep.new hB0) (fun _ _ e => e), fun q hq => (h.works q hq).alloc _⟩
 have hbx : v.ownBlock ≠ some w.heap.size := fun e => by have := qal h.row e; omega
 have hd := qmz h1 hl (hp.alloc _) hinj hnd hb hbx
 have hmf : ∀ (fn : Fn) (first cap : Array Value) (w : World), (Instr.makeFunc fn first cap).run Tryz.prog w = .ok (.func fn first cap) w := fun _ _ _ _ => rfl
 have hfin : ∀ e w', WoR v l p (w.alloc (.cells #[nptr p.blk] 95)) e w' -> WoR v l p w e w' := fun e w' hr => by
  rcases hr with ⟨h1, h2, h3⟩ | ⟨i, v', h1, h2, h3, h4, h5⟩
  ·exact .inl ⟨h1, h2, qac hB0 h3⟩
  ·exact .inr ⟨i, v', h1, h2, h3, (Keep.new (T := fun y => v.ownBlock = some y) hB0).trans h4, h5⟩
 have HV : Hid (∀ e w', WoR v l p (w.alloc (.cells #[nptr p.blk] 95)) e w' -> (∃ x, e = .returned x) /\ WoR v l p w e w') := fun e w' hr => ⟨by rcases hr with ⟨_, h2, _⟩ | ⟨_, v', _, h2, _⟩ <;> exact ⟨_, h2⟩, hfin e w' hr⟩
 clear hfin h h1 hinj
 unfold nptr at hd HV ⊢
 generalize WoR v l p w = X at HV ⊢
 generalize WoR v l p (w.alloc (.cells #[.pointer (some ⟨p.blk, 0, none⟩)] 95)) = Y at hd HV
 go_enter Tryz.func138, Tryz.ntmps138
 go_wp2_with fail
 refine hd.mono ?_
 intro e w1 hy
 obtain ⟨⟨x, rfl⟩, hx⟩ := HV.out _ _ hy
 clear hd hy HV
 go_wp2_with fail
 exact hx
end Go.Proofs.YtphclnolomgjoaaGreatDoor
