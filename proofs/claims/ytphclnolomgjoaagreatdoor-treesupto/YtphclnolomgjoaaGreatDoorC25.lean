import Derived.Test.YtphclnolomgjoaaGreatDoorC06
import Derived.Test.YtphclnolomgjoaaGreatDoorC24
import Derived.Test.YtphclnolomgjoaaGreatDoorC20
import Derived.Deep.RegionHeld3
import Derived.Test.YtphclnolomgjoaaGreatDoorC21
import Derived.Deep.LoopGhost
set_option linter.unusedVariables false
set_option linter.unusedSimpArgs false
namespace Go.Proofs.YtphclnolomgjoaaGreatDoor
open Go.RowKit
theorem qw6 : (Tryz.prog.info? 226).map (fun i => (i.size, i.bytes)) = some (2, 16) := by kernel_rfl
theorem qxc : (Tryz.prog.info? 226).bind (fun i => i.zero) = some (.agg #[.pointer none, .int .i64 0]) := by kernel_rfl
theorem qv7 : qdf 226 2 16 := qep qw6 qxc rfl
theorem qw1 : Tryz.prog.underlying 252 = some (.slice 226) := by kernel_rfl
theorem HqAt.form {W : World} {hb : Nat} {f v : Value} {ys : List Ak} (h : HqAt W hb f v ys) : ∃ a cap, v = .slice a ys.length cap /\ ys.length <= cap /\ cap <= maxLen := by
 rcases h.row.2 with ⟨rfl, h0⟩ | ⟨g, cap, cur, rfl, _, _, h1, h2, _⟩
 ·exact ⟨none, 0, by rw [h0], by omega, Nat.zero_le _⟩
 ·exact ⟨_, cap, rfl, h1, h2⟩
theorem HqAt.qsu {W W' : World} {hb : Nat} {f v : Value} {ys : List Ak} (h : HqAt W hb f v ys) (hB : Below W.heap.size W W') : W'.ownsRow 0 226 2 v ys.length (aks ys) := qab (T := fun _ => False) h.row (Keep.new hB) (fun _ _ e => e)
set_option maxRecDepth 100000 in
set_option maxHeartbeats 2000000 in
theorem qrz {w : World} {hb : Nat} {v : Value} {ys : List Ak} {lt : Ak -> Ak -> Bool} (O : Ord lt) (h : HqAt w hb (.func (.func 176) #[] #[]) v ys) (hl : ys.length <= 50) (hU : qbp lt ys) (p : Ak) (hbef : Befq w (fun y => y = hb \/ v.ownBlock = some y) (ys ++ [p]) lt) :
  Calls Tryz.prog 177 #[.pointer (some ⟨hb, 0, none⟩), akv p] w fun e w' => e = .returned (.tuple #[]) /\ ∃ v' zs, zs.Perm (ys ++ [p]) /\ qbp lt zs /\ HqAt w' hb (.func (.func 176) #[] #[]) v' zs /\ Keep (fun y => y = hb \/ v.ownBlock = some y) w w' /\ (v'.ownBlock = v.ownBlock \/ ∃ g, v'.ownBlock = some g /\ w.heap.size <= g) := by
 have hlt := h.at_.lt
 have c1 := h.at_.cell 1
 simp only [List.getElem?_toArray, List.getElem?_cons_zero, List.getElem?_cons_succ] at c1
 have hap := fun (W : World) (hB : Below w.heap.size w W) (nb : Nat) (hnb : Blk W nb 226 #[nptr p.p.blk, .int .i64 p.s]) => qby qw1 qv7 (by omega) W v ys.length (aks ys) (h.qsu hB) nb 1 1 (by omega) [nptr p.p.blk, .int .i64 p.s] rfl hnb (fun u hu => by simp at hu; rcases hu with rfl | rfl <;> rfl) (by unfold maxLen; omega) (by omega)
 have hpost : ∀ W, Below w.heap.size w W -> ∀ g' cap' w', AppR W v.ownBlock 226 2 (ys.length + 1) (aks ys ++ [nptr p.p.blk, .int .i64 p.s]) g' cap' w' -> Blk w' hb 254 #[.func (.func 176) #[] #[], v] /\ Hid (∀ W3, Below (w'.setCell ⟨hb, 1, none⟩ (.slice (some ⟨g', 0, none⟩) (ys.length + 1) cap')).heap.size (w'.setCell ⟨hb, 1, none⟩ (.slice (some ⟨g', 0, none⟩) (ys.length + 1) cap')) W3 -> HqAt W3 hb (.func (.func 176) #[] #[]) (.slice (some ⟨g', 0, none⟩) (ys.length + 1) cap') (ys ++ [p]) /\ Keep (fun y => y = hb \/ v.ownBlock = some y) w W3 /\ (v.ownBlock = some g' \/ w.heap.size <= g')) := fun W hB0 g' cap' w' R => by
  have hb' := (h.at_.below hB0 hlt).keep R.keep h.ne
  have hz := hB0.size
  have hg' : g' ≠ hb := fun e => by
   rcases R.new with e2 | e2
   ·rw [e] at e2; exact h.ne e2
   ·omega
  refine ⟨hb', fun W3 hW3 => ⟨⟨?_, ?_, ?_⟩, ?_, ?_⟩⟩
  ·have := hb'.set 1 (.slice (some ⟨g', 0, none⟩) (ys.length + 1) cap')
   have h3 : Blk (w'.setCell ⟨hb, 1, none⟩ (.slice (some ⟨g', 0, none⟩) (ys.length + 1) cap')) hb 254 #[.func (.func 176) #[] #[], .slice (some ⟨g', 0, none⟩) (ys.length + 1) cap'] := by simpa using this
   exact h3.below hW3 h3.lt
  ·have : aks (ys ++ [p]) = aks ys ++ [nptr p.p.blk, .int .i64 p.s] := by rw [qpv]; rfl
   rw [this, show (ys ++ [p]).length = ys.length + 1 by simp]
   exact qab (T := fun _ => False) (ownsRow_setCell_other R.own (by simp [Value.ownBlock]; exact hg') _) (Keep.new hW3) (fun _ _ e => e)
  ·simp [Value.ownBlock]; exact hg'
  ·exact ((((Keep.new (T := fun y => y = hb \/ v.ownBlock = some y) hB0).qbo R.keep (fun b _ e => .inr e))).setCell (p := ⟨hb, 1, none⟩) (.inl rfl) _).qc5 hW3
  ·exact R.new.imp id (fun e => by omega)
 have hrise := fun g' cap' W (hW : HqAt W hb (.func (.func 176) #[] #[]) (.slice (some ⟨g', 0, none⟩) (ys.length + 1) cap') (ys ++ [p])) (hk : Keep (fun y => y = hb \/ v.ownBlock = some y) w W) (hn : v.ownBlock = some g' \/ w.heap.size <= g') =>
  qu7 (k := ys.length) O hW (by simp; omega) (by simp) (hU.push p) (fun W2 hW2 => hbef W2 (hk.qbo hW2 (fun b hb2 e => by
   simp [Value.ownBlock] at e
   subst e
   rcases hn with e | e
   ·exact .inr e
   ·omega)))
 have hfin : ∀ (g1 q1 : Nat) (W w2 : World), (v.ownBlock = some g1 \/ w.heap.size <= g1) -> Keep (fun y => y = hb \/ v.ownBlock = some y) w W -> Keep (fun y => (Value.slice (some ⟨g1, 0, none⟩) (ys.length + 1) q1).ownBlock = some y) W w2 -> Keep (fun y => y = hb \/ v.ownBlock = some y) w w2 /\ ((Value.slice (some ⟨g1, 0, none⟩) (ys.length + 1) q1).ownBlock = v.ownBlock \/ ∃ g, (Value.slice (some ⟨g1, 0, none⟩) (ys.length + 1) q1).ownBlock = some g /\ w.heap.size <= g) := fun g1 q1 W w2 hn1 hK1 hK2 => by
  refine ⟨hK1.qbo hK2 (fun b hb2 e => ?_), ?_⟩
  ·simp [Value.ownBlock] at e
   subst e
   rcases hn1 with e | e
   ·exact .inr e
   ·omega
  ·rcases hn1 with e | e
   ·left; rw [e]; rfl
   ·exact .inr ⟨g1, rfl, e⟩
 obtain ⟨a0, cap0, hv, hle, hmx⟩ := h.form
 obtain ⟨n, hn⟩ : ∃ n, n = ys.length := ⟨_, rfl⟩
 rw [<- hn] at hap hpost hrise hfin hl hv hle
 have HV : Hid (v = .slice a0 n cap0) := hv
 have hb0 := h.at_
 clear h hU hbef hn
 subst hv
 unfold akv nptr
 unfold nptr at hap
 generalize hpp : aks ys = pp at hap hpost
 clear hpp
 go_enter Tryz.func177, Tryz.ntmps177
 go_upto_region 1 with fail
 go_region_law (refine qau rfl (.tmp 8) (.tmp 10) 252 252 rfl _ _ ?_ ?_ (hap _ ?_ ?_ ?_) ?_; (focus (simp [Act.eval, Act.put])); (focus ((try simp [Act.eval, Act.put]); (try rfl))); (focus exact bel2); (focus exact blk2); rintro v1 w1 ⟨g1, q1, rfl, R1⟩; obtain ⟨hb1, hP1⟩ := hpost _ (by exact bel2) _ _ _ R1; have f2 := hb1.frozen 1; have hcc := hb1.cell 1; have hq1 := R1.le; have hq2 := R1.mx; simp only [List.getElem?_toArray, List.getElem?_cons_zero, List.getElem?_cons_succ] at hcc)
 all_goals go_wp2_with fail
 all_goals obtain ⟨hH1, hK1, hn1⟩ := hP1.out _ (Below.refl _ _)
 all_goals refine (hrise _ _ _ hH1 hK1 hn1).mono ?_
 all_goals rintro e w2 ⟨rfl, zs, hp, hh, hH2, hK2⟩
 all_goals have hF := hfin _ _ _ _ hn1 hK1 hK2
 all_goals clear hrise hpost hap
 all_goals go_wp2_with fail
 all_goals go_end0
 all_goals exact ⟨rfl, _, zs, hp, hh, hH2, hF.1, hF.2⟩
set_option maxRecDepth 100000 in
set_option maxHeartbeats 2000000 in
theorem qg6 {w : World} {hb : Nat} {f v : Value} {ys : List Ak} (h : HqAt w hb f v ys) (hl : ys.length <= 100) {i j : Nat} (hj : ys.length <= j) (hjb : j <= 1000) :
  Calls Tryz.prog 234 #[.pointer (some ⟨hb, 0, none⟩), .int .i64 i, .int .i64 j] w fun e w' => e = .returned (.int .i64 i) /\ Below w.heap.size w w' := by
 obtain ⟨a0, cap, hv, hc1, hc2⟩ := h.form
 have c1 := h.at_.cell 1
 have hlt := h.at_.lt
 simp only [List.getElem?_toArray, List.getElem?_cons_zero, List.getElem?_cons_succ] at c1
 rw [hv] at c1
 obtain ⟨n, hn⟩ : ∃ n, n = ys.length := ⟨_, rfl⟩
 rw [<- hn] at c1 hc1 hl hj
 have hjd : decide (j < n) = false := decide_eq_false (by omega)
 have h4 : (0 : Int) <= j := by omega
 clear h hv hn hj
 go_enter Tryz.func234, Tryz.ntmps234
 go_wp2_with fail
 go_quiet (fail)
 go_wp2_with fail
 go_ret
 exact ⟨rfl, below_drewN (Below.refl _ _) _⟩
set_option maxRecDepth 100000 in
set_option maxHeartbeats 2000000 in
theorem qsa {w : World} {hb : Nat} {f v : Value} (h : HqAt w hb f v []) :
  Calls Tryz.prog 215 #[.pointer (some ⟨hb, 0, none⟩), .int .i64 0] w fun e w' => e = .returned (.tuple #[]) /\ Below w.heap.size w w' := by
 have c1 := qg6 (i := 0) (j := 1) h (by simp) (by simp) (by omega)
 have c2 := fun W (hW : Below w.heap.size w W) => qg6 (i := 0) (j := 2) (h.below hW) (by simp) (by simp) (by omega)
 have hlt := h.at_.lt
 simp only [Int.cast_ofNat_Int, Int.natCast_zero] at c1 c2
 clear h
 go_enter Tryz.func215, Tryz.ntmps215
 go_wp2_with fail
 refine wp_loop_rounds 1 ?_
 rw [rounds_succ]
 go_wp2_with fail
 refine c1.mono ?_
 rintro e w1 ⟨rfl, hb1⟩
 go_wp2_with fail
 refine (c2 _ hb1).mono ?_
 rintro e w2 ⟨rfl, hb2⟩
 go_wp2_with fail
 exact bodyPost_ret (v := .tuple #[]) (by simp [results, Tryz.results215, go_sem]) rfl ⟨rfl, qac hb1 hb2⟩
theorem qr0 {W : World} {e : TypeId} {g n cap s : Nat} {xs : List Value} (h : W.ownsRow 0 e s (.slice (some ⟨g, 0, none⟩) n cap) n xs) {m : Nat} (hm : m <= n) : W.ownsRow 0 e s (.slice (some ⟨g, 0, none⟩) m cap) m (xs.take (m * s)) := by
 obtain ⟨hl, hr⟩ := h
 rcases hr with ⟨hv, _⟩ | ⟨g', cap', cur, hv, hb, hg, h1, h2, h3, h4⟩
 ·cases hv
 ·injection hv with e1 _ e3
  injection e1 with e1
  injection e1 with e1
  subst e1 e3
  have hms : m * s <= n * s := Nat.mul_le_mul_right s hm
  refine ⟨by rw [List.length_take, hl]; omega, .inr ⟨g, cap, cur, rfl, hb, hg, by omega, h2, h3, ?_⟩⟩
  rw [<- h4, List.take_take]
  congr 1
  omega
theorem HqAt.other {W : World} {hb : Nat} {f v : Value} {ys : List Ak} (h : HqAt W hb f v ys) (p : Addr) (u : Value) (h1 : hb ≠ p.block) (h2 : v.ownBlock ≠ some p.block) : HqAt (W.setCell p u) hb f v ys :=
 ⟨h.at_.other _ _ h1, ownsRow_setCell_other h.row h2 _, h.ne⟩
def PopQ (hb : Nat) (v : Value) (ys : List Ak) (lt : Ak -> Ak -> Bool) (w : World) (e : Ending) (w' : World) : Prop :=
 (ys = [] /\ e = .returned (.tuple #[.agg #[.pointer none, .int .i64 0], .bool false]) /\ Below w.heap.size w w') \/
 (∃ (a : Ak) (v' : Value) (zs : List Ak), ys[0]? = some a /\ e = .returned (.tuple #[akv a, .bool true]) /\ (a :: zs).Perm ys /\ qbp lt zs /\ HqAt w' hb (.func (.func 176) #[] #[]) v' zs /\ Keep (fun y => y = hb \/ v.ownBlock = some y) w w' /\ v'.ownBlock = v.ownBlock)
set_option maxRecDepth 100000 in
set_option maxHeartbeats 2000000 in
theorem qwg {w : World} {hb : Nat} {v : Value} {ys : List Ak} {lt : Ak -> Ak -> Bool} (O : Ord lt) (h : HqAt w hb (.func (.func 176) #[] #[]) v ys) (hl : ys.length <= 100) (hU : qbp lt ys) (hbef : Befq w (fun y => y = hb \/ v.ownBlock = some y) ys lt) :
  Calls Tryz.prog 179 #[.pointer (some ⟨hb, 0, none⟩)] w (PopQ hb v ys lt w) := by
 have hlt := h.at_.lt
 have c1 := h.at_.cell 1
 simp only [List.getElem?_toArray, List.getElem?_cons_zero, List.getElem?_cons_succ] at c1
 by_cases h0 : ys = []
 ·subst h0
  obtain ⟨a0, cap0, hv, hle, hmx⟩ := h.form
  rw [hv] at c1
  simp only [List.length_nil] at c1
  clear hbef hU
  go_enter Tryz.func179, Tryz.ntmps179
  go_wp2_with fail
  have b2 : Blk ((w.alloc (.cells #[.pointer none, .int .i64 0] 226)).alloc (.cells #[.pointer none, .int .i64 0] 226)) w.heap.size 226 #[.pointer none, .int .i64 0] := by exact blk2
  have hc2 := b2.cell
  exact bodyPost_ret (v := .tuple #[.agg #[.pointer none, .int .i64 0], .bool false]) (by simp [results, Tryz.results179, go_sem, hc2]) rfl (.inl ⟨rfl, rfl, by exact bel2⟩)
 ·have hpos : 0 < ys.length := by cases ys with | nil => exact absurd rfl h0 | cons _ _ => simp
  obtain ⟨a, ha⟩ : ∃ a, ys[0]? = some a := ⟨_, List.getElem?_eq_getElem hpos⟩
  obtain ⟨b, hbl⟩ : ∃ b, ys[ys.length - 1]? = some b := ⟨_, List.getElem?_eq_getElem (by omega)⟩
  obtain ⟨g, cap, hv, hgl, hgh, hc1, hc2, ⟨ca, ca'⟩, fa, fa'⟩ := h.get ha
  obtain ⟨g', cap', hv', _, _, _, _, ⟨cb, cb'⟩, fb, fb'⟩ := h.get hbl
  rw [hv] at hv'
  injection hv' with e1 _ e3
  injection e1 with e1
  injection e1 with e1
  subst e1 e3
  rw [hv] at c1
  have f1 := h.at_.frozen 1
  have hbg : ¬ (hb = g) := fun e => hgh e.symm
  obtain ⟨m, hm⟩ : ∃ m, ys.length = m + 1 := ⟨ys.length - 1, by omega⟩
  have hm1 : ys.length - 1 = m := by omega
  rw [hm1] at cb fb cb' fb' hbl
  have hown : ∀ n, (Value.slice (some ⟨g, 0, none⟩) n cap).ownBlock = v.ownBlock := fun n => by rw [hv]; rfl
  have hpre : ∀ (W1 W : World), Below w.heap.size w W1 -> W = (((((W1.setCell ⟨g, 0, none⟩ (nptr b.p.blk)).setCell ⟨g, 1, none⟩ (.int .i64 b.s)).setCell ⟨g, m * 2, none⟩ (.pointer none)).setCell ⟨g, m * 2 + 1, none⟩ (.int .i64 0)).setCell ⟨hb, 1, none⟩ (.slice (some ⟨g, 0, none⟩) m cap)) -> HqAt W hb (.func (.func 176) #[] #[]) (.slice (some ⟨g, 0, none⟩) m cap) ((ys.set 0 b).take m) /\ Keep (fun y => y = hb \/ v.ownBlock = some y) w W := by
   rintro W1 W hB1 rfl
   have h1 := h.below hB1
   refine ⟨⟨?_, ?_, ?_⟩, ?_⟩
   ·have := ((((h1.at_.other ⟨g, 0, none⟩ (nptr b.p.blk) hbg).other ⟨g, 1, none⟩ (.int .i64 b.s) hbg).other ⟨g, m * 2, none⟩ (.pointer none) hbg).other ⟨g, m * 2 + 1, none⟩ (.int .i64 0) hbg).set 1 (.slice (some ⟨g, 0, none⟩) m cap)
    simpa using this
   ·have hrow := h1.row
    rw [hv] at hrow
    have r1 := ((((hrow.stored 0 (nptr b.p.blk)).1.stored 1 (.int .i64 b.s)).1.stored (m * 2) (.pointer none)).1.stored (m * 2 + 1) (.int .i64 0)).1
    have r2 := qr0 r1 (m := m) (by omega)
    have r3 := ownsRow_setCell_other r2 (a := ⟨hb, 1, none⟩) (by simp [Value.ownBlock]; exact hgh) (.slice (some ⟨g, 0, none⟩) m cap)
    have hlen : ((ys.set 0 b).take m).length = m := by simp; omega
    rw [hlen]
    have hpp : aks ((ys.set 0 b).take m) = (((((aks ys).set 0 (nptr b.p.blk)).set 1 (.int .i64 b.s)).set (m * 2) (.pointer none)).set (m * 2 + 1) (.int .i64 0)).take (m * 2) := by
     rw [qtm, qkb, List.take_set_of_le (by omega : m * 2 <= m * 2 + 1), List.take_set_of_le (Nat.le_refl (m * 2))]
    rw [hpp]
    exact r3
   ·simp [Value.ownBlock]; exact hgh
   ·have hT : v.ownBlock = some g := by rw [hv]; rfl
    exact ((((((Keep.new hB1).setCell (p := ⟨g, 0, none⟩) (.inr hT) _).setCell (p := ⟨g, 1, none⟩) (.inr hT) _).setCell (p := ⟨g, m * 2, none⟩) (.inr hT) _).setCell (p := ⟨g, m * 2 + 1, none⟩) (.inr hT) _).setCell (p := ⟨hb, 1, none⟩) (.inl rfl) _)
  have hD : qbr lt ((ys.set 0 b).take m) 0 := by rw [<- hm1]; exact hU.pop b
  have hPm : (a :: (ys.set 0 b).take m).Perm ys := by rw [<- hm1]; exact qnz ha (by rw [hm1]; exact hbl)
  have hsub : ∀ x ∈ (ys.set 0 b).take m, x ∈ ys := fun x hx => hPm.mem_iff.1 (List.mem_cons_of_mem _ hx)
  have hsink : ∀ (W1 W : World), Below w.heap.size w W1 -> W = (((((W1.setCell ⟨g, 0, none⟩ (nptr b.p.blk)).setCell ⟨g, 1, none⟩ (.int .i64 b.s)).setCell ⟨g, m * 2, none⟩ (.pointer none)).setCell ⟨g, m * 2 + 1, none⟩ (.int .i64 0)).setCell ⟨hb, 1, none⟩ (.slice (some ⟨g, 0, none⟩) m cap)) ->
    Calls Tryz.prog 215 #[.pointer (some ⟨hb, 0, none⟩), .int .i64 0] W fun e w' => e = .returned (.tuple #[]) /\ Keep (fun y => y = hb \/ v.ownBlock = some y) W1 w' /\ ∀ x y, PopQ hb v ys lt w (.returned (.tuple #[akv a, .bool true])) ((w'.setCell ⟨w.heap.size, 0, none⟩ x).setCell ⟨w.heap.size, 1, none⟩ y) := fun W1 W hB1 hW => by
   obtain ⟨hH, hK⟩ := hpre W1 W hB1 hW
   have hK1 : Keep (fun y => y = hb \/ v.ownBlock = some y) W1 W := by
    have hT : v.ownBlock = some g := by rw [hv]; rfl
    rw [hW]
    exact ((((((Keep.refl _ _).setCell (p := ⟨g, 0, none⟩) (.inr hT) _).setCell (p := ⟨g, 1, none⟩) (.inr hT) _).setCell (p := ⟨g, m * 2, none⟩) (.inr hT) _).setCell (p := ⟨g, m * 2 + 1, none⟩) (.inr hT) _).setCell (p := ⟨hb, 1, none⟩) (.inl rfl) _)
   have hgw : (Value.slice (some ⟨g, 0, none⟩) m cap).ownBlock ≠ some w.heap.size := by simp [Value.ownBlock]; omega
   have hend : ∀ w' zs, (a :: zs).Perm ys -> qbp lt zs -> HqAt w' hb (.func (.func 176) #[] #[]) (.slice (some ⟨g, 0, none⟩) m cap) zs -> Keep (fun y => y = hb \/ v.ownBlock = some y) w w' -> ∀ x y, PopQ hb v ys lt w (.returned (.tuple #[akv a, .bool true])) ((w'.setCell ⟨w.heap.size, 0, none⟩ x).setCell ⟨w.heap.size, 1, none⟩ y) := fun w' zs hp hh hH2 hK2 x y =>
    .inr ⟨a, _, zs, ha, rfl, hp, hh, (hH2.other _ _ (by simp; omega) hgw).other _ _ (by simp; omega) hgw, hK2.qbo (((Keep.refl (fun b => b = w.heap.size) _).setCell (p := ⟨w.heap.size, 0, none⟩) rfl _).setCell (p := ⟨w.heap.size, 1, none⟩) rfl _) (fun b hb e => by omega), hown m⟩
   by_cases hm0 : m = 0
   ·subst hm0
    simp only [List.take_zero] at hH hPm
    refine (qsa hH).mono ?_
    rintro e w' ⟨rfl, hB⟩
    exact ⟨rfl, hK1.trans (Keep.new hB), hend w' [] hPm (fun j x y hj hx => by simp at hx) (hH.below hB) (hK.trans (Keep.new hB))⟩
   ·have hlen : ((ys.set 0 b).take m).length = m := by simp; omega
    have hs := qvu (k := 0) O hH (by omega) (by omega) hD (fun W2 hW2 x hx y hy => hbef W2 (hK.qbo hW2 (fun k _ e => .inr (by rw [<- hown m]; exact e))) x (hsub x hx) y (hsub y hy))
    refine hs.mono ?_
    rintro e w' ⟨rfl, zs, hp, hh, hH2, hK2⟩
    exact ⟨rfl, hK1.qbo hK2 (fun k _ e => .inr (by rw [<- hown m]; exact e)), hend w' zs ((hp.cons a).trans hPm) hh hH2 (hK.qbo hK2 (fun k _ e => .inr (by rw [<- hown m]; exact e)))⟩
  rw [hm] at c1 hc1 hl
  have hmi : (0 : Int) <= m := by omega
  have hwr : IntKind.i64.wrap (m : Int) = (m : Int) := by rw [IntKind.wrap_i64]; omega
  have hfr := fun (W : World) (hW : Below w.heap.size w W) => (⟨(hW.cell (p := ⟨hb, 1, none⟩) hlt).trans c1, (hW.cell (p := ⟨g, 0, none⟩) hgl).trans ca, (hW.cell (p := ⟨g, 1, none⟩) hgl).trans ca', (hW.cell (p := ⟨g, m * 2, none⟩) hgl).trans cb, (hW.cell (p := ⟨g, m * 2 + 1, none⟩) hgl).trans cb', (h.below hW).at_.frozen 1, (by have := (h.below hW).row; rw [hv] at this; exact this.frozenAt)⟩ : _ /\ _ /\ _ /\ _ /\ _ /\ _ /\ ∀ i, W.frozen? ⟨g, i, none⟩ = false)
  have HAB : Hid (m = 0 -> b = a) := fun e => by subst e; rw [ha] at hbl; cases hbl; rfl
  have hvT : ∀ y, v.ownBlock = some y -> y = g := fun y e => by rw [hv] at e; simp [Value.ownBlock] at e; exact e.symm
  clear hpre hD hPm hsub hbef hU h hv ha hbl h0 hpos hm hm1 hown c1 ca ca' cb cb' fa fa' fb fb' f1
  generalize hXX : PopQ hb v ys lt w = X at hsink ⊢
  clear hXX
  unfold nptr at hfr hsink
  unfold akv nptr at hsink
  go_enter Tryz.func179, Tryz.ntmps179
  obtain ⟨W0, hW0⟩ : ∃ W0, W0 = (w.alloc (.cells #[.pointer none, .int .i64 0] 226)).alloc (.cells #[.pointer none, .int .i64 0] 226) := ⟨_, rfl⟩
  have hB0 : Below w.heap.size w W0 := by rw [hW0]; exact bel2
  have b2 : Blk W0 w.heap.size 226 #[.pointer none, .int .i64 0] := by rw [hW0]; exact blk2
  have b4 : Blk W0 (w.heap.size + 1) 226 #[.pointer none, .int .i64 0] := by rw [hW0]; exact Blk.new' (by simp)
  have hs0 : W0.heap.size = w.heap.size + 2 := by rw [hW0]; simp
  obtain ⟨k1, ka, ka', kb, kb', kf1, kf⟩ := hfr W0 hB0
  have kfa := kf 0
  have h1 := hfr _ (show Below w.heap.size w ((w.alloc (.cells #[.pointer none, .int .i64 0] 226)).alloc (.cells #[.pointer none, .int .i64 0] 226)) by exact bel2)
  have i1 := h1.1
  clear h1
  go_upto_region 4 with fail
  rw [<- hW0]
  clear hW0 i1
  have e1 : ¬ (hb = W0.heap.size) := by omega
  have e2 : ¬ (g = W0.heap.size) := by omega
  have e1' : ¬ (W0.heap.size = hb) := by omega
  have e2' : ¬ (W0.heap.size = g) := by omega
  have HS0 : Hid (W0.heap.size = w.heap.size + 2) := hs0
  clear hs0
  go_region_held3 (fun w' => w'.cell? ⟨hb, 1, none⟩ = some (.slice (some ⟨g, 0, none⟩) (m + 1) cap) /\ w'.cell? ⟨g, 0, none⟩ = some (.pointer (some ⟨a.p.blk, 0, none⟩)) /\ w'.cell? ⟨g, 1, none⟩ = some (.int .i64 a.s)) (go_keep) (fail)
  obtain ⟨W5, hW5⟩ : ∃ W5, W5 = (W0.alloc (.cells #[.pointer (some ⟨a.p.blk, 0, none⟩), .int .i64 a.s] 226)).drew := ⟨_, rfl⟩
  have hB5 : Below W0.heap.size W0 W5 := by rw [hW5]; exact bel2
  have b5 : Blk W5 W0.heap.size 226 #[.pointer (some ⟨a.p.blk, 0, none⟩), .int .i64 a.s] := by rw [hW5]; exact blk2
  have b25 := b2.below hB5 b2.lt
  have b45 := b4.below hB5 b4.lt
  have hB5w := qac hB0 hB5
  rw [<- hW5]
  clear hW5 k1 ka ka' kb kb' kf1 kf kfa b2 b4
  obtain ⟨k1, ka, ka', kb, kb', kf1, kf⟩ := hfr W5 hB5w
  clear hfr
  have kn := b45.cell
  have q1 : ¬ (w.heap.size + 1 = g) := by omega
  have q2 : ¬ (g = w.heap.size + 1) := by omega
  have q3 : ¬ (hb = g) := by omega
  have hdr : ∀ (W : World) (p : Addr) (u : Value), (W.setCell p u).drew = W.drew.setCell p u := fun _ _ _ => rfl
  have Hdr : Hid (∀ (W : World) (p : Addr) (u : Value), (W.setCell p u).drew = W.drew.setCell p u) := hdr
  clear hdr
  by_cases hm0 : m = 0
  ·have hab := HAB.out hm0
   subst hm0
   subst hab
   simp only [Nat.zero_mul, Nat.zero_add] at kb kb' hsink
   clear kb kb' HAB
   go_upto_region 5 with fail
   go_region
   go_wp2_with fail
   go_region
   go_wp2_with fail
   simp only [Hdr.out]
   refine (hsink W5.drew.drew _ (by exact bel2) rfl).mono ?_
   rintro e w2 ⟨rfl, hK2, hX⟩
   have hgs : ∀ y, y ≠ hb -> y ≠ g -> ¬ (y = hb \/ v.ownBlock = some y) := fun y y1 y2 e => e.elim y1 (fun e => y2 (hvT y e))
   have s5 := (b5.drew.drew).keep hK2 (hgs _ (by omega) (by omega))
   have s2 := (b25.drew.drew).keep hK2 (hgs _ (by omega) (by omega))
   have t5 := s5.cell
   have t2 := s2.cell
   have u2 := s2.frozen
   have z0 := t5 0
   have z1 := t5 1
   simp only [List.getElem?_toArray, List.getElem?_cons_zero, List.getElem?_cons_succ] at z0 z1
   clear hsink k1 ka ka' kf1 kf
   go_wp2_with fail
   have s3 := ((s2.set 0 (.pointer (some ⟨b.p.blk, 0, none⟩))).set 1 (.int .i64 b.s)).cell
   exact bodyPost_ret (v := .tuple #[.agg #[.pointer (some ⟨b.p.blk, 0, none⟩), .int .i64 b.s], .bool true]) (by simp [results, Tryz.results179, go_sem, s3]) rfl (hX _ _)
  ·have hm0' : ¬ (0 = m) := fun e => hm0 e.symm
   have r1 : ¬ (0 = m * 2) := by omega
   have r2 : ¬ (1 = m * 2) := by omega
   have r3 : ¬ (1 = m * 2 + 1) := by omega
   have r4 : ¬ (m * 2 = 0) := by omega
   have r5 : ¬ (m * 2 = 1) := by omega
   have r6 : ¬ (m * 2 + 1 = 1) := by omega
   go_upto_region 5 with fail
   go_region
   go_wp2_with fail
   go_region
   go_wp2_with fail
   simp only [Hdr.out]
   refine (hsink W5.drew.drew _ (by exact bel2) rfl).mono ?_
   rintro e w2 ⟨rfl, hK2, hX⟩
   have hgs : ∀ y, y ≠ hb -> y ≠ g -> ¬ (y = hb \/ v.ownBlock = some y) := fun y y1 y2 e => e.elim y1 (fun e => y2 (hvT y e))
   have s5 := (b5.drew.drew).keep hK2 (hgs _ (by omega) (by omega))
   have s2 := (b25.drew.drew).keep hK2 (hgs _ (by omega) (by omega))
   have t5 := s5.cell
   have t2 := s2.cell
   have u2 := s2.frozen
   have z0 := t5 0
   have z1 := t5 1
   simp only [List.getElem?_toArray, List.getElem?_cons_zero, List.getElem?_cons_succ] at z0 z1
   clear hsink k1 ka ka' kb kb' kf1 kf
   go_wp2_with fail
   have s3 := ((s2.set 0 (.pointer (some ⟨a.p.blk, 0, none⟩))).set 1 (.int .i64 a.s)).cell
   exact bodyPost_ret (v := .tuple #[.agg #[.pointer (some ⟨a.p.blk, 0, none⟩), .int .i64 a.s], .bool true]) (by simp [results, Tryz.results179, go_sem, s3]) rfl (hX _ _)
structure LdAt (W : World) (nodes : List Node) (rr bt : Nat) (r : Node) (lst vw va ev : Value) (ws as_ : List Pw) (evs : List (Int × Int)) : Prop where
 ins : ∀ n ∈ nodes, qan W n
 ld : qdx W rr bt (nptr r.blk) (nptr r.blk) lst vw va ev ws as_ evs
 lf : ∀ p ∈ ws ++ as_, ∃ n ∈ nodes, n.blk = p.q /\ n.key = p.x.key
 nm : ∀ p ∈ ws ++ as_, (0 <= p.x.d0 /\ p.x.d0 <= 1000) /\ (0 <= p.x.d1 /\ p.x.d1 <= 1000)
structure qdh (nodes : List Node) (rr bt : Nat) (vw va ev : Value) (ws as_ : List Pw) (T : Nat -> Prop) : Prop where
 ns : ∀ n ∈ nodes, ¬ T n.blk /\ ∀ g, n.sl.ownBlock = some g -> ¬ T g
 rr : ¬ T rr
 bt : ¬ T bt
 vw : ∀ b, vw.ownBlock = some b -> ¬ T b
 va : ∀ b, va.ownBlock = some b -> ¬ T b
 ev : ∀ b, ev.ownBlock = some b -> ¬ T b
 ws : ∀ p ∈ ws ++ as_, ¬ T p.blk
section
variable {W W' : World} {nodes : List Node} {rr bt : Nat} {r : Node} {lst vw va ev : Value} {ws as_ : List Pw} {evs : List (Int × Int)}
theorem LdAt.keep (h : LdAt W nodes rr bt r lst vw va ev ws as_ evs) {T : Nat -> Prop} (hk : Keep T W W') (ho : qdh nodes rr bt vw va ev ws as_ T) : LdAt W' nodes rr bt r lst vw va ev ws as_ evs :=
 ⟨qel ho.ns h.ins hk, ⟨h.ld.bk.keep hk ho.bt ho.vw ho.va ho.ws, h.ld.rnd.keep hk ho.rr ho.ev⟩, h.lf, h.nm⟩
theorem LdAt.below (h : LdAt W nodes rr bt r lst vw va ev ws as_ evs) (hb : Below W.heap.size W W') : LdAt W' nodes rr bt r lst vw va ev ws as_ evs :=
 h.keep (T := fun _ => False) (Keep.new hb) ⟨fun _ _ => ⟨id, fun _ _ => id⟩, id, id, fun _ _ => id, fun _ _ => id, fun _ _ => id, fun _ _ => id⟩
theorem LdAt.cells (h : LdAt W nodes rr bt r lst vw va ev ws as_ evs) : W.cell? ⟨rr, 0, none⟩ = some (nptr r.blk) /\ W.cell? ⟨rr, 1, none⟩ = some (.pointer (some ⟨bt, 1, none⟩)) /\ W.cell? ⟨rr, 2, none⟩ = some ev /\ W.cell? ⟨bt, 2, none⟩ = some vw /\ W.cell? ⟨bt, 3, none⟩ = some va :=
 ⟨h.ld.rnd.at_.cell 0, h.ld.rnd.at_.cell 1, h.ld.rnd.at_.cell 2, h.ld.bk.at_.cell 2, h.ld.bk.at_.cell 3⟩
theorem LdAt.rd (h : LdAt W nodes rr bt r lst vw va ev ws as_ evs) : Rd W nodes bt rr va as_ :=
 ⟨h.ins, h.cells.2.1, h.cells.2.2.2.2, ⟨h.ld.bk.arow, fun p hp => h.ld.bk.works p (List.mem_append_right _ hp), fun p hp => h.lf p (List.mem_append_right _ hp), fun p hp => h.nm p (List.mem_append_right _ hp), by have := h.ld.bk.len; omega⟩⟩
theorem LdAt.rw_ (h : LdAt W nodes rr bt r lst vw va ev ws as_ evs) : Rw W nodes bt rr r vw ws :=
 ⟨h.ins, h.cells.1, h.cells.2.1, h.cells.2.2.2.1, ⟨h.ld.bk.wrow, fun p hp => h.ld.bk.works p (List.mem_append_left _ hp)⟩, by have := h.ld.bk.len; omega, fun p hp => by obtain ⟨n, h1, h2, _⟩ := h.lf p (List.mem_append_left _ hp); exact ⟨n, h1, h2⟩⟩
theorem LdAt.pin (h : LdAt W nodes rr bt r lst vw va ev ws as_ evs) {p : Pw} (hp : p ∈ ws ++ as_) : PwIn W nodes p := ⟨h.ld.bk.works p hp, h.lf p hp, h.nm p hp⟩
theorem LdAt.lt (h : LdAt W nodes rr bt r lst vw va ev ws as_ evs) {T : Nat -> Prop} (hT : ∀ b, T b -> W.heap.size <= b) : qdh nodes rr bt vw va ev ws as_ T :=
 ⟨fun n hn => ⟨fun e => by have := (h.ins n hn).lt; have := hT _ e; omega, fun g hg e => by have := ((h.ins n hn).row.lt g hg).2; have := hT _ e; omega⟩, fun e => by have := h.ld.rnd.at_.lt; have := hT _ e; omega, fun e => by have := h.ld.bk.at_.lt; have := hT _ e; omega, fun b hb e => by have := qal h.ld.bk.wrow hb; have := hT _ e; omega, fun b hb e => by have := qal h.ld.bk.arow hb; have := hT _ e; omega, fun b hb e => by have := qal h.ld.rnd.row hb; have := hT _ e; omega, fun p hp e => by have := (h.ld.bk.works p hp).lt; have := hT _ e; omega⟩
theorem qdh.or {T T' : Nat -> Prop} (h : qdh nodes rr bt vw va ev ws as_ T) (h' : qdh nodes rr bt vw va ev ws as_ T') : qdh nodes rr bt vw va ev ws as_ (fun b => T b \/ T' b) :=
 ⟨fun n hn => ⟨fun e => e.elim (h.ns n hn).1 (h'.ns n hn).1, fun g hg e => e.elim ((h.ns n hn).2 g hg) ((h'.ns n hn).2 g hg)⟩, fun e => e.elim h.rr h'.rr, fun e => e.elim h.bt h'.bt, fun b hb e => e.elim (h.vw b hb) (h'.vw b hb), fun b hb e => e.elim (h.va b hb) (h'.va b hb), fun b hb e => e.elim (h.ev b hb) (h'.ev b hb), fun p hp e => e.elim (h.ws p hp) (h'.ws p hp)⟩
theorem qdh.mono {T T' : Nat -> Prop} (h : qdh nodes rr bt vw va ev ws as_ T) (hm : ∀ b, T' b -> T b) : qdh nodes rr bt vw va ev ws as_ T' :=
 ⟨fun n hn => ⟨fun e => (h.ns n hn).1 (hm _ e), fun g hg e => (h.ns n hn).2 g hg (hm _ e)⟩, fun e => h.rr (hm _ e), fun e => h.bt (hm _ e), fun b hb e => h.vw b hb (hm _ e), fun b hb e => h.va b hb (hm _ e), fun b hb e => h.ev b hb (hm _ e), fun p hp e => h.ws p hp (hm _ e)⟩
theorem qdh.rw_ {T : Nat -> Prop} (h : qdh nodes rr bt vw va ev ws as_ T) : qhs nodes bt rr vw ws T := ⟨h.ns, h.rr, h.bt, h.vw, fun p hp => h.ws p (List.mem_append_left _ hp)⟩
theorem LdAt.qh0 (h : LdAt W nodes rr bt r lst vw va ev ws as_ evs) : ∀ n ∈ nodes, ¬ LdT rr bt vw va ev n.blk /\ ∀ g, n.sl.ownBlock = some g -> ¬ LdT rr bt vw va ev g := fun n hn => by
 have hat : Blk W n.blk 136 n.cells := (h.ins n hn).at_
 have hrow := (h.ins n hn).row
 refine ⟨?_, fun g hg => ?_⟩
 ·rintro (e | (e | e | e) | e)
  ·exact qax hat h.ld.rnd.at_ (by decide) e
  ·exact qax hat h.ld.bk.at_ (by decide) e
  ·exact qag h.ld.bk.wrow hat (by decide) e
  ·exact qag h.ld.bk.arow hat (by decide) e
  ·exact qag h.ld.rnd.row hat (by decide) e
 ·rintro (e | (e | e | e) | e)
  ·subst e; exact qag hrow h.ld.rnd.at_ (by decide) hg
  ·subst e; exact qag hrow h.ld.bk.at_ (by decide) hg
  ·exact qdj hrow h.ld.bk.wrow (by decide) hg e
  ·exact qdj hrow h.ld.bk.arow (by decide) hg e
  ·exact qdj hrow h.ld.rnd.row (by decide) hg e
end
structure qbu (rr bt : Nat) (w w' : World) (vw va ev vw' va' ev' : Value) : Prop where
 keep : Keep (LdT rr bt vw va ev) w w'
 new : LdN w vw va ev vw' va' ev'
theorem qbu.refl (rr bt : Nat) (w : World) (vw va ev : Value) : qbu rr bt w w vw va ev vw va ev := ⟨Keep.refl _ _, ⟨fun b e => e.elim (fun e => .inl e) (fun e => .inr (.inl e)), fun b e => .inl e⟩⟩
theorem qbu.trans {rr bt : Nat} {w w1 w2 : World} {vw va ev vw1 va1 ev1 vw2 va2 ev2 : Value} (h : qbu rr bt w w1 vw va ev vw1 va1 ev1) (k : qbu rr bt w1 w2 vw1 va1 ev1 vw2 va2 ev2) : qbu rr bt w w2 vw va ev vw2 va2 ev2 := by
 refine ⟨h.keep.qbo k.keep (fun b hb e => ?_), ⟨fun b e => ?_, fun b e => ?_⟩⟩
 ·rcases e with e | (e | e | e) | e
  ·exact .inl e
  ·exact .inr (.inl (.inl e))
  ·rcases h.new.all b (.inl e) with e | e | e | e
   ·exact .inr (.inl (.inr (.inl e)))
   ·exact .inr (.inl (.inr (.inr e)))
   ·exact .inr (.inr e)
   ·omega
  ·rcases h.new.all b (.inr (.inl e)) with e | e | e | e
   ·exact .inr (.inl (.inr (.inl e)))
   ·exact .inr (.inl (.inr (.inr e)))
   ·exact .inr (.inr e)
   ·omega
  ·rcases h.new.all b (.inr (.inr e)) with e | e | e | e
   ·exact .inr (.inl (.inr (.inl e)))
   ·exact .inr (.inl (.inr (.inr e)))
   ·exact .inr (.inr e)
   ·omega
 ·rcases k.new.bk b e with e | e | e
  ·exact h.new.bk b (.inl e)
  ·exact h.new.bk b (.inr e)
  ·exact .inr (.inr (Nat.le_trans h.keep.size e))
 ·rcases k.new.ev b e with e | e
  ·exact h.new.ev b e
  ·exact .inr (Nat.le_trans h.keep.size e)
theorem qbu.below {rr bt : Nat} {w w1 w2 : World} {vw va ev vw1 va1 ev1 : Value} (h : qbu rr bt w w1 vw va ev vw1 va1 ev1) (hb : Below w1.heap.size w1 w2) : qbu rr bt w w2 vw va ev vw1 va1 ev1 := ⟨h.keep.qc5 hb, h.new⟩
section
variable {w : World} {nodes : List Node} {rr bt : Nat} {r : Node} {lst vw va ev : Value} {ws as_ : List Pw} {evs : List (Int × Int)}
theorem LdAt.next (h : LdAt w nodes rr bt r lst vw va ev ws as_ evs) {w2 : World} {vw' va' ev' : Value} {ws' as' : List Pw} {evs' : List (Int × Int)} (h2 : qdx w2 rr bt (nptr r.blk) (nptr r.blk) lst vw' va' ev' ws' as' evs') (hk : Keep (LdT rr bt vw va ev) w w2) (hn : LdN w vw va ev vw' va' ev') (hm : ∀ p ∈ ws' ++ as', p ∈ ws ++ as_) :
  LdAt w2 nodes rr bt r lst vw' va' ev' ws' as' evs' /\ qbu rr bt w w2 vw va ev vw' va' ev' :=
 ⟨⟨qel h.qh0 h.ins hk, h2, fun p hp => h.lf p (hm p hp), fun p hp => h.nm p (hm p hp)⟩, ⟨hk, hn⟩⟩
theorem LdAt.admit (h : LdAt w nodes rr bt r lst vw va ev ws as_ evs) (hl : evs.length <= 10000) {i : Nat} {p : Pw} (hi : ws[i]? = some p) :
  Calls Tryz.prog 173 #[.pointer (some ⟨rr, 0, none⟩), nptr p.blk] w fun e w' => e = .returned (.tuple #[]) /\ ∃ vw' va' ev', LdAt w' nodes rr bt r lst vw' va' ev' (ws.take i ++ ws.drop (i + 1)) (as_ ++ [p]) (evs ++ [(1, p.x.num)]) /\ qbu rr bt w w' vw va ev vw' va' ev' := by
 refine (qqc h.ld hl hi).mono ?_
 rintro e w' ⟨he, vw', va', ev', h2, hk, hn⟩
 refine ⟨he, vw', va', ev', h.next h2 hk hn (fun q hq => ?_)⟩
 rcases List.mem_append.1 hq with h1 | h1
 ·exact List.mem_append_left _ (qbb h1)
 ·rcases List.mem_append.1 h1 with h1 | h1
  ·exact List.mem_append_right _ h1
  ·simp at h1; subst h1; exact List.mem_append_left _ (List.mem_of_getElem? hi)
set_option maxRecDepth 100000 in
set_option maxHeartbeats 2000000 in
theorem qqm (T0 : Tree nodes) (hB : qa7 nodes) (h : LdAt w nodes rr bt r lst vw va ev ws as_ evs) {st : Int} {Ws : List Wk} {p : Pw} (hp : p ∈ ws ++ as_) {n : Node} (hn : n ∈ nodes) (hnq : n.blk = p.q) (hnk : n.key = p.x.key) (R : Rel nodes Ws ws as_) (I : RInv (nodes.map Node.ent) p.x st Ws) (hl : evs.length + admN Ws <= 10000) :
  Calls Tryz.prog 172 #[.pointer (some ⟨rr, 0, none⟩), nptr p.blk] w fun e w' => e = .returned (.tuple #[]) /\ ∃ vw' va' ev' ws' as', LdAt w' nodes rr bt r lst vw' va' ev' ws' as' (room (nodes.map Node.ent) p.x (admN Ws) ⟨Ws, evs⟩).evs /\ Rel nodes (room (nodes.map Node.ent) p.x (admN Ws) ⟨Ws, evs⟩).Ws ws' as' /\ qbu rr bt w w' vw va ev vw' va' ev' /\ ws' ++ as' ⊆ ws ++ as_ /\ ws ++ as_ ⊆ ws' ++ as' := by
 have hvic : ∀ (W : World) (vw va ev : Value) (ws as_ : List Pw) (evs : List (Int × Int)), LdAt W nodes rr bt r lst vw va ev ws as_ evs -> p ∈ ws ++ as_ -> Calls Tryz.prog 210 #[.pointer (some ⟨rr, 0, none⟩), .pointer (some ⟨p.blk, 0, none⟩)] W fun e w' => e = .returned (optP (vicP nodes as_ p.x n)) /\ Below W.heap.size W w' := fun W vw va ev ws as_ evs hW hpm => qns T0 hB hW.rd (hW.pin hpm) hn hnq
 have hnw := fun W (p : Pw) => qgv (W := W) (x := p)
 have hnn := fun W => qd8 (W := W)
 obtain ⟨L, hL⟩ : ∃ L, L = nodes.map Node.ent := ⟨_, rfl⟩
 rw [<- hL] at I ⊢
 obtain ⟨fin, hfin⟩ : ∃ fin, fin = room L p.x (admN Ws) ⟨Ws, evs⟩ := ⟨_, rfl⟩
 rw [<- hfin]
 have HL : Hid (L = nodes.map Node.ent) := hL
 clear hL
 unfold nptr
 go_enter Tryz.func172, Tryz.ntmps172
 go_wp2_with fail
 refine (hvic _ _ _ _ _ _ _ h hp).mono ?_
 rintro e w1 ⟨rfl, hb1⟩
 have h1 := h.below hb1
 generalize hv0 : optP (vicP nodes as_ p.x n) = v0
 have HV0 : Hid (optP (vicP nodes as_ p.x n) = v0) := hv0
 clear hv0
 go_wp2_with fail
 go_loopg [4] (admN Ws) (fun q v wr => ∃ (vw' va' ev' : Value) (ws' as' : List Pw) (s : MS), v = optP (vicP nodes as' p.x n) /\ admN s.Ws <= q /\ LdAt wr nodes rr bt r lst vw' va' ev' ws' as' s.evs /\ Rel nodes s.Ws ws' as' /\ RInv L p.x st s.Ws /\ fin = room L p.x (admN s.Ws) s /\ s.evs.length + admN s.Ws <= 10000 /\ qbu rr bt w wr vw va ev vw' va' ev' /\ ws' ++ as' ⊆ ws ++ as_ /\ ws ++ as_ ⊆ ws' ++ as')
 case atStart => exact ⟨vw, va, ev, ws, as_, ⟨Ws, evs⟩, HV0.out.symm, Nat.le_refl _, h1, R, I, hfin, hl, (qbu.refl _ _ _ _ _ _).below hb1, fun _ e => e, fun _ e => e⟩
 case round =>
  clear h1 hb1 hfin hl R I
  obtain ⟨vw', va', ev', ws', as', s, rfl, hq, hA, hR, hI, hf, hlen, hst, hs1, hs2⟩ := hrel
  cases hv : vicP nodes as' p.x n with
  | none =>
   have hno := hR.qtk T0 hI.wks hn hnk hv
   rw [<- HL.out] at hno
   have hend : fin = s := by rw [hf]; exact room_end (qfu.2 hno) _
   have HF : Hid (fin = s) := hend
   clear hf hend hno
   simp only [optP]
   go_wp2_with fail
   go_end0
   refine ⟨rfl, vw', va', ev', ws', as', ?_, ?_, hst, hs1, hs2⟩
   ·rw [HF.out]; exact hA
   ·rw [HF.out]; exact hR
  | some q' =>
   obtain ⟨i, v, iw, hi, hvw, hvi, hv0, hqx⟩ := hR.qtp T0 hI.wks hn hnk hv
   rw [<- HL.out] at hvw
   have hrs := qe1 (s := s) hvw hvi
   obtain ⟨s', hs'⟩ : ∃ s' : MS, s' = ⟨v.adm 0 :: (s.Ws.take iw ++ s.Ws.drop (iw + 1)), s.evs ++ [(2, v.num)]⟩ := ⟨_, rfl⟩
   rw [<- hs'] at hrs
   have hI2 := hI.step hrs
   have had := (qmc hI.wks hrs).1
   have hf2 : fin = room L p.x (admN s'.Ws) s' := by rw [hf, <- had]; exact qqx hrs _
   have hR2 : Rel nodes s'.Ws (q' :: ws') (as'.take i ++ as'.drop (i + 1)) := by rw [hs']; exact hR.qis hI.wks hi hvi hv0 hqx
   have hev2 : s'.evs = s.evs ++ [(2, q'.x.num)] := by rw [hs', hqx]; rfl
   have hlen2 : s'.evs.length + admN s'.Ws <= 10000 := by rw [hev2]; simp; omega
   have hq'm := List.mem_of_getElem? hi
   have hmem : ∀ x ∈ (q' :: ws') ++ (as'.take i ++ as'.drop (i + 1)), x ∈ ws' ++ as' := fun x hx => by
    rcases List.mem_append.1 hx with hx | hx
    ·rcases List.mem_cons.1 hx with rfl | hx
     ·exact List.mem_append_right _ hq'm
     ·exact List.mem_append_left _ hx
    ·exact List.mem_append_right _ (qbb hx)
   have hmem2 : ∀ x ∈ ws' ++ as', x ∈ (q' :: ws') ++ (as'.take i ++ as'.drop (i + 1)) := fun x hx => by
    rcases List.mem_append.1 hx with hx | hx
    ·exact List.mem_append_left _ (List.mem_cons_of_mem _ hx)
    ·have := (qb0 hi).mem_iff.1 hx
     rcases List.mem_cons.1 this with rfl | this
     ·exact List.mem_append_left _ (List.mem_cons_self ..)
     ·exact List.mem_append_right _ this
   have hevi := qor hA.ld.bk hi
   have hnext : ∀ w1 vw1 va1, BkAt w1 bt (nptr r.blk) lst vw1 va1 (q' :: ws') (as'.take i ++ as'.drop (i + 1)) -> Keep (BkT bt vw' va') wr w1 -> qdx w1 rr bt (nptr r.blk) (nptr r.blk) lst vw1 va1 ev' (q' :: ws') (as'.take i ++ as'.drop (i + 1)) s.evs := fun w1 vw1 va1 hb hk => ⟨hb, hA.ld.rnd.keep hk hA.ld.qgd.1 hA.ld.qgd.2⟩
   obtain ⟨_, cbk, _⟩ := hA.cells
   have hn1 := hnw
   clear hnn
   have HX : Hid (RInv L p.x st s'.Ws /\ fin = room L p.x (admN s'.Ws) s' /\ Rel nodes s'.Ws (q' :: ws') (as'.take i ++ as'.drop (i + 1)) /\ s'.evs = s.evs ++ [(2, q'.x.num)] /\ s'.evs.length + admN s'.Ws <= 10000 /\ admN s'.Ws + 1 = admN s.Ws) := ⟨hI2.1, hf2, hR2, hev2, hlen2, had⟩
   clear hI2 hf2 hR2 hev2 hlen2 had hrs hvw hvi hf hs'
   simp only [optP]
   unfold nptr at hevi ⊢
   go_wp2_with fail
   refine hevi.mono ?_
   rintro e w2 ⟨rfl, vw1, va1, hb1, hk1, hn1⟩
   have h1 := hnext w2 vw1 va1 hb1 hk1
   have htell := ql9 h1.rnd (by omega) (h1.bk.works q' (by simp)) 2
   clear hevi hnext
   unfold nptr at htell
   go_wp2_with fail
   refine htell.mono ?_
   rintro e w3 ⟨rfl, ev1, h2, hk2, hn2⟩
   obtain ⟨t1, t2, t3⟩ := hA.ld.told h1 hk1 hn1 h2 hk2 hn2
   obtain ⟨hA3, hst3⟩ := hA.next t1 t2 t3 hmem
   have hvc := hvic w3 _ _ _ _ _ _ hA3 (hmem2 _ (hs2 hp))
   clear htell
   go_wp2_with fail
   refine hvc.mono ?_
   rintro e w4 ⟨rfl, hb4⟩
   obtain ⟨y1, y2, y3, y4, y5, y6⟩ := HX.out
   generalize hv4 : optP (vicP nodes (as'.take i ++ as'.drop (i + 1)) p.x n) = v4
   have HV4 : Hid (optP (vicP nodes (as'.take i ++ as'.drop (i + 1)) p.x n) = v4) := hv4
   clear hv4
   go_wp2_with fail
   go_roundg (admN s'.Ws)
   case measure => omega
   case rel => exact ⟨vw1, va1, ev1, _, _, s', HV4.out.symm, Nat.le_refl _, by rw [y4]; exact hA3.below hb4, y3, y1, y2, y5, (hst.trans hst3).below hb4, fun x hx => hs1 (hmem x hx), fun x hx => hmem2 x (hs2 hx)⟩
end
def ownMore (nodes : List Node) (as_ : List Pw) : Option Pw -> List Pw
 | some p => if ownP nodes as_ p.x then [p] else []
 | none => []
section
variable {w : World} {nodes : List Node} {rr bt : Nat} {r : Node} {lst vw va ev : Value} {ws as_ : List Pw} {evs : List (Int × Int)}
theorem LdAt.befs (h : LdAt w nodes rr bt r lst vw va ev ws as_ evs) (T0 : Tree nodes) {T : Nat -> Prop} (ho : qdh nodes rr bt vw va ev ws as_ T) {ys : List Pw} (hys : ∀ p ∈ ys, p ∈ ws ++ as_) : Befs w T ys ltP := fun W hk a ha b hb => by
 have hW := h.keep hk ho
 exact qm8 T0 hW.ins (hW.pin (hys a ha)) (hW.pin (hys b hb))
theorem HpAt.keep {W W' : World} {hb : Nat} {f v : Value} {ys : List Pw} (h : HpAt W hb f v ys) {T : Nat -> Prop} (hk : Keep T W W') (h1 : ¬ T hb) (h2 : ∀ b, v.ownBlock = some b -> ¬ T b) : HpAt W' hb f v ys := ⟨h.at_.keep hk h1, qab h.row hk h2, h.ne⟩
set_option maxRecDepth 100000 in
set_option maxHeartbeats 2000000 in
theorem qhb (T0 : Tree nodes) (hB : qa7 nodes) (h : LdAt w nodes rr bt r lst vw va ev ws as_ evs) {hb : Nat} {v : Value} {ys : List Pw} (hH : HpAt w hb (.func (.func 168) #[] #[]) v ys) (hU : qbp ltP ys) (hl : ys.length <= 50) (hys : ∀ p ∈ ys, p ∈ ws ++ as_) (ho : qdh nodes rr bt vw va ev ws as_ (fun y => y = hb \/ v.ownBlock = some y)) (o : Option Pw) (hop : ∀ p, o = some p -> p ∈ ws ++ as_) :
  Calls Tryz.prog 170 #[.pointer (some ⟨rr, 0, none⟩), .pointer (some ⟨hb, 0, none⟩), optP o] w fun e w' => e = .returned (.tuple #[]) /\ ∃ v' zs, zs.Perm (ys ++ ownMore nodes as_ o) /\ qbp ltP zs /\ HpAt w' hb (.func (.func 168) #[] #[]) v' zs /\ Keep (fun y => y = hb \/ v.ownBlock = some y) w w' /\ (v'.ownBlock = v.ownBlock \/ ∃ g, v'.ownBlock = some g /\ w.heap.size <= g) := by
 have hnn := fun W => qd8 (W := W)
 have hnw := fun W (p : Pw) => qgv (W := W) (x := p)
 cases o with
 | none =>
  simp only [optP, ownMore, List.append_nil]
  go_enter Tryz.func170, Tryz.ntmps170
  go_wp2_with fail
  go_end0
  exact ⟨rfl, v, ys, List.Perm.refl _, hU, hH, Keep.refl _ _, .inl rfl⟩
 | some p =>
  have hpm := hop p rfl
  have hab := qjr T0 hB h.rd (h.pin hpm)
  have hpush := fun W (hW : Below w.heap.size w W) => qu4 qnp (hH.below hW) hl hU p ((h.below hW).befs T0 ho (fun q hq => by
   rcases List.mem_append.1 hq with e | e
   ·exact hys q e
   ·simp at e; subst e; exact hpm))
  have hown : ownP nodes as_ p.x = ((abv (ws0 (pun as_ p.x.key) + p.x.d0) (pn0 nodes p.x.key) == 0) && (abv (ws1 (pun as_ p.x.key) + p.x.d1) (pn1 nodes p.x.key) == 0)) := rfl
  simp only [optP]
  obtain ⟨M, hM⟩ : ∃ M, M = ownMore nodes as_ (some p) := ⟨_, rfl⟩
  rw [<- hM]
  have HM : Hid (M = if ownP nodes as_ p.x then [p] else []) := hM
  clear hM
  generalize abv (ws0 (pun as_ p.x.key) + p.x.d0) (pn0 nodes p.x.key) = a0 at *
  generalize abv (ws1 (pun as_ p.x.key) + p.x.d1) (pn1 nodes p.x.key) = a1 at *
  unfold nptr at hab hpush ⊢
  have heq : ∀ W, (Op.equalIn 10000 35 (.agg #[.int .i64 a0, .int .i64 a1]) (.agg #[.int .i64 0, .int .i64 0])).run Tryz.prog W = .ok (a0 == 0 && a1 == 0) W := fun W => eq35 9998 a0 a1 0 0 W
  generalize hb0 : (a0 == 0 && a1 == 0) = b0 at heq hown
  have HOWN : Hid (ownP nodes as_ p.x = b0) := hown
  clear hown hb0
  go_enter Tryz.func170, Tryz.ntmps170
  go_wp2_with fail
  refine hab.mono ?_
  rintro e w1 ⟨rfl, hb1⟩
  have hp1 := hpush w1 hb1
  have he1 := heq w1
  clear hab hpush heq
  cases b0
  ·go_wp2_with fail
   go_end0
   refine ⟨rfl, v, ys, ?_, hU, hH.below hb1, Keep.new hb1, .inl rfl⟩
   rw [HM.out, HOWN.out]; simp
  ·go_wp2_with fail
   refine hp1.mono ?_
   rintro e w2 ⟨rfl, v', zs, y1, y2, y3, y4, y5⟩
   go_wp2_with fail
   go_end0
   refine ⟨rfl, v', zs, ?_, y2, y3, (Keep.new hb1).trans y4, y5.imp id (fun ⟨g, g1, g2⟩ => ⟨g, g1, Nat.le_trans hb1.size g2⟩)⟩
   rw [HM.out, HOWN.out]; exact y1
end
end Go.Proofs.YtphclnolomgjoaaGreatDoor
