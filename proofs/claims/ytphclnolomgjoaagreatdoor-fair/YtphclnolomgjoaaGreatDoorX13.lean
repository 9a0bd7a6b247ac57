import Derived.Test.YtphclnolomgjoaaGreatDoorX09
import Derived.Test.YtphclnolomgjoaaGreatDoorB37
import Derived.Test.YtphclnolomgjoaaGreatDoorX01
set_option linter.unusedVariables false
set_option linter.unusedSimpArgs false
namespace Go.Proofs.YtphclnolomgjoaaGreatDoor
open Go.RowKit
def later (s d t : Int) : Int := if t ≤ s then t else t + d
def latW (s d : Int) (x : Wk) : Wk := { x with st := later s d x.st }
theorem later_pos {s d t : Int} (hs : 0 ≤ s) (hd : 0 ≤ d) : 0 < later s d t ↔ 0 < t := by unfold later; split <;> omega
theorem later_mono {s d a b : Int} (hd : 0 ≤ d) (h : a ≤ b) : later s d a ≤ later s d b := by unfold later; split <;> split <;> omega
section
variable {L : List Ent} {s d : Int}
theorem wunder_lat (hs : 0 ≤ s) (hd : 0 ≤ d) (A : List Wk) (k : Bs) : qae (A.map (latW s d)) k = (qae A k).map (latW s d) := by
  unfold qae
  rw [List.filter_map]
  congr 1
  refine List.filter_congr fun x _ => ?_
  show (decide (0 < later s d x.st) && inB (qaa x.key) k) = (decide (0 < x.st) && inB (qaa x.key) k)
  rw [decide_eq_decide.2 (later_pos (t := x.st) hs hd)]
theorem ws0_lat (l : List Wk) : ws0 (l.map (latW s d)) = ws0 l := by unfold ws0; rw [List.map_map]; rfl
theorem ws1_lat (l : List Wk) : ws1 (l.map (latW s d)) = ws1 l := by unfold ws1; rw [List.map_map]; rfl
theorem own_lat (hs : 0 ≤ s) (hd : 0 ≤ d) (A : List Wk) (x : Wk) : ownW L (A.map (latW s d)) (latW s d x) = ownW L A x := by
  unfold ownW
  rw [wunder_lat hs hd, ws0_lat, ws1_lat]
  rfl
theorem qhc.lat (hs : 0 ≤ s) (hd : 0 ≤ d) {A : List Wk} {v : Wk} (h : qhc L A v) : qhc L (A.map (latW s d)) (latW s d v) := by
  have hm : ∀ (P : Wk → Prop), (∀ y ∈ A, y.key = v.key → 0 < y.st → P y → y.st ≤ v.st) → (∀ y, P (latW s d y) → P y) → ∀ y ∈ A.map (latW s d), y.key = (latW s d v).key → 0 < y.st → P y → y.st ≤ (latW s d v).st := fun P h hP y hy h1 h2 h3 => by
    obtain ⟨y, hy', rfl⟩ := List.mem_map.1 hy
    exact later_mono hd (h y hy' h1 ((later_pos hs hd).1 h2) (hP y h3))
  unfold qhc at h ⊢
  rw [wunder_lat hs hd, ws0_lat, ws1_lat]
  rcases h with ⟨a, b, c⟩ | ⟨a, b, c⟩
  · exact .inl ⟨a, b, hm (fun y => y.d0 > 0) c (fun y h => h)⟩
  · exact .inr ⟨a, b, hm (fun y => y.d1 > 0) c (fun y h => h)⟩
theorem admNum_lat {A : List Wk} {n t t' : Int} (ht : later s d t = t') : qd7 (A.map (latW s d)) n t' = (qd7 A n t).map (latW s d) := by
  unfold qd7
  rw [List.map_map, List.map_map]
  refine List.map_congr_left fun y _ => ?_
  simp only [Function.comp]
  by_cases h : y.num = n
  · rw [if_pos h, if_pos (show (latW s d y).num = n from h)]
    subst ht
    rfl
  · rw [if_neg h, if_neg (show ¬ (latW s d y).num = n from h)]
theorem Ev.lat {p : Bool} {A B : List Wk} {st st' : Int} {es : List (Int × Int)} (h : Ev L p A st es B st') : 0 ≤ s → 0 ≤ d → s ≤ st → Ev L p (A.map (latW s d)) (st + d) es (B.map (latW s d)) (st' + d) := by
  induction h with
  | nil h => intro hs hd h1; exact .nil (h.map _)
  | @adm p A B st st' es x h1 h2 h3 h4 ih =>
    intro hs hd hst
    have g := ih hs hd (by omega)
    have hx0 : (latW s d x).st = 0 := by show later s d x.st = 0; rw [h2]; unfold later; rw [if_pos hs]
    refine .adm (x := latW s d x) (List.mem_map_of_mem h1) hx0 (fun e => by rw [own_lat hs hd]; exact h3 e) ?_
    have e : later s d (st + 1) = st + d + 1 := by unfold later; rw [if_neg (by omega)]; omega
    have e2 : (latW s d x).num = x.num := rfl
    rw [e2, admNum_lat e, show st + d + 1 = st + 1 + d by omega]
    exact g
  | @evi p A B st st' es v h1 h2 h3 h4 ih =>
    intro hs hd hst
    have g := ih hs hd hst
    refine .evi (v := latW s d v) (List.mem_map_of_mem h1) ((later_pos hs hd).2 h2) (h3.lat hs hd) ?_
    have e : later s d 0 = 0 := by unfold later; rw [if_pos hs]
    have e2 : (latW s d v).num = v.num := rfl
    rw [e2, admNum_lat e]
    exact g
theorem Ev.later {p : Bool} {A B : List Wk} {st st' : Int} {es : List (Int × Int)} (h : Ev L p A st es B st') (hA : ∀ x ∈ A, x.st ≤ st) (hst : 0 ≤ st) {t : Int} (ht : st ≤ t) : ∃ B' t', Ev L p A t es B' t' := by
  have g := h.lat (s := st) (d := t - st) hst (by omega) (by omega)
  have e : A.map (latW st (t - st)) = A := by
    conv => rhs; rw [← List.map_id A]
    refine List.map_congr_left fun x hx => ?_
    unfold latW Go.Proofs.YtphclnolomgjoaaGreatDoor.later
    rw [if_pos (hA x hx)]
    rfl
  rw [e, show st + (t - st) = t by omega] at g
  exact ⟨_, _, g⟩
end
def usL (l : List KW) (k : Nat) : List KW := l.filter fun w => decide (w.leaf = k) && w.inn
def us0 (l : List KW) (k : Nat) : Int := ((usL l k).map (·.d0)).sum
def us1 (l : List KW) (k : Nat) : Int := ((usL l k).map (·.d1)).sum
theorem us_snoc (l : List KW) (x : KW) (k : Nat) : us0 (l ++ [x]) k = us0 l k + (if decide (x.leaf = k) && x.inn then x.d0 else 0) ∧ us1 (l ++ [x]) k = us1 l k + (if decide (x.leaf = k) && x.inn then x.d1 else 0) := by
  unfold us0 us1 usL
  rw [List.filter_append]
  cases h : (decide (x.leaf = k) && x.inn) <;> simp [h]
structure Rpl (L : List Ent) (paths : List (List Bs)) (l : List KW) (A : List Wk) (st : Int) : Prop where
  perm : (l.map (KW.wk paths)).Perm A
  nums : (l.map (·.num)).Nodup
  pos : ∀ w ∈ l, w.inn = true → 0 < w.qav
  idx : ∀ w ∈ l, w.leaf < 5
  anti : Anti A
  len : paths.length = 8
  pnd : paths.Nodup
  st0 : 0 ≤ st
  d0 : ∀ w ∈ l, 0 ≤ w.d0 ∧ w.d0 ≤ 1000
  d1 : ∀ w ∈ l, 0 ≤ w.d1 ∧ w.d1 ≤ 1000
  l24 : l.length ≤ 24
section
variable {L : List Ent} {paths : List (List Bs)} {l : List KW} {A B : List Wk} {st st' : Int}
theorem Rpl.key (h : Rpl L paths l A st) {w : KW} (hw : w ∈ l) : ∃ p, paths[w.leaf]? = some p ∧ (KW.wk paths w).key = p := by
  have hl : w.leaf < paths.length := by have := h.idx w hw; rw [h.len]; omega
  exact ⟨_, List.getElem?_eq_getElem hl, by simp [KW.wk, List.getD, List.getElem?_eq_getElem hl]⟩
theorem Rpl.used (h : Rpl L paths l A st) {w : KW} (hw : w ∈ l) : us0 l w.leaf = ws0 (qae A (qaa (KW.wk paths w).key)) ∧ us1 l w.leaf = ws1 (qae A (qaa (KW.wk paths w).key)) := by
  have e : qae (l.map (KW.wk paths)) (qaa (KW.wk paths w).key) = (usL l w.leaf).map (KW.wk paths) := by
    unfold qae usL
    rw [List.filter_map]
    congr 1
    refine List.filter_congr fun y hy => ?_
    simp only [Function.comp]
    have h1 : decide (0 < (KW.wk paths y).st) = y.inn := by
      unfold KW.wk
      cases hi : y.inn
      · simp
      · have := h.pos y hy hi
        simp [this]
    have h2 : inB (qaa (KW.wk paths y).key) (qaa (KW.wk paths w).key) = decide (y.leaf = w.leaf) := by
      have my := h.perm.mem_iff.1 (List.mem_map_of_mem (f := KW.wk paths) hy)
      have mw := h.perm.mem_iff.1 (List.mem_map_of_mem (f := KW.wk paths) hw)
      by_cases hl : y.leaf = w.leaf
      · have : (KW.wk paths y).key = (KW.wk paths w).key := by simp [KW.wk, hl]
        rw [this, decide_eq_true hl]
        unfold inB
        simp
      · rw [decide_eq_false hl]
        cases hb : inB (qaa (KW.wk paths y).key) (qaa (KW.wk paths w).key)
        · rfl
        · exfalso
          have ke := h.anti _ my _ mw hb
          obtain ⟨p, hp, kp⟩ := h.key hy
          obtain ⟨q, hq, kq⟩ := h.key hw
          rw [kp, kq] at ke
          subst ke
          have i1 := List.getElem?_eq_some_iff.1 hp
          have i2 := List.getElem?_eq_some_iff.1 hq
          exact hl (nodup_inj h.pnd i1.1 i2.1 (i1.2.trans i2.2.symm))
    rw [h1, h2, Bool.and_comm]
  rw [← qe8 (qdb h.perm _), ← qe9 (qdb h.perm _), e]
  unfold us0 us1 ws0 ws1
  rw [List.map_map, List.map_map]
  exact ⟨rfl, rfl⟩
theorem Rpl.set (h : Rpl L paths l A st) {k : Nat} {w w' : KW} (hk : l[k]? = some w) (hf : KW.fix w' = KW.fix w) {A' : List Wk} {st' : Int} (hA : ((l.set k w').map (KW.wk paths)).Perm A') (hp : w'.inn = true → 0 < w'.qav) (hs : 0 ≤ st') (hA2 : A'.map (·.key) = A.map (·.key)) : Rpl L paths (l.set k w') A' st' := by
  have hm : ∀ y ∈ l.set k w', y = w' ∨ y ∈ l := fun y hy => (List.mem_or_eq_of_mem_set hy).symm
  have hw := List.mem_of_getElem? hk
  have hfix : (l.set k w').map KW.fix = l.map KW.fix := by
    rw [List.map_set, hf]
    exact qih (by rw [List.getElem?_map, hk]; rfl)
  simp only [KW.fix, Prod.mk.injEq] at hf
  obtain ⟨f1, f2, f3, f4⟩ := hf
  refine ⟨hA, by rw [qid, hfix, ← qid]; exact h.nums, fun y hy hi => ?_, fun y hy => ?_, fun x hx y hy e => ?_, h.len, h.pnd, hs, fun y hy => ?_, fun y hy => ?_, by rw [List.length_set]; exact h.l24⟩
  · rcases hm y hy with rfl | e
    · exact hp hi
    · exact h.pos y e hi
  · rcases hm y hy with rfl | e
    · rw [f2]; exact h.idx w hw
    · exact h.idx y e
  · have kx : x.key ∈ A.map (·.key) := by rw [← hA2]; exact List.mem_map_of_mem hx
    have ky : y.key ∈ A.map (·.key) := by rw [← hA2]; exact List.mem_map_of_mem hy
    obtain ⟨x', hx', ex⟩ := List.mem_map.1 kx
    obtain ⟨y', hy', ey⟩ := List.mem_map.1 ky
    rw [← ex, ← ey] at e ⊢
    exact h.anti x' hx' y' hy' e
  · rcases hm y hy with rfl | e
    · rw [f3]; exact h.d0 w hw
    · exact h.d0 y e
  · rcases hm y hy with rfl | e
    · rw [f4]; exact h.d1 w hw
    · exact h.d1 y e
theorem admNum_keys (A : List Wk) (n t : Int) : (qd7 A n t).map (·.key) = A.map (·.key) := by
  unfold qd7
  rw [List.map_map]
  refine List.map_congr_left fun y _ => ?_
  simp only [Function.comp]
  split <;> rfl
theorem Rpl.event (h : Rpl L paths l A st) {p : Bool} {c m : Int} {es : List (Int × Int)} (hE : Ev L p A st ((c, m) :: es) B st') :
    ∃ (k : Nat) (w : KW), l[k]? = some w ∧ w.num = m ∧ (∀ (i : Nat) (z : KW), i < k → l[i]? = some z → z.num ≠ m) ∧
      ((c = 1 ∧ (p = true → us0 l w.leaf + w.d0 ≤ es0 (qai L (qaa (paths.getD w.leaf []))) ∧ us1 l w.leaf + w.d1 ≤ es1 (qai L (qaa (paths.getD w.leaf [])))) ∧
          ∃ A', Rpl L paths (l.set k { w with inn := true, qav := st + 1 }) A' (st + 1) ∧ Ev L false A' (st + 1) es B st') ∨
       (c = 2 ∧ ((us0 l w.leaf > es0 (qai L (qaa (paths.getD w.leaf []))) ∧ w.d0 > 0 ∧ ∀ y ∈ l, y.leaf = w.leaf → y.inn = true → y.d0 > 0 → y.qav ≤ w.qav) ∨
          (us1 l w.leaf > es1 (qai L (qaa (paths.getD w.leaf []))) ∧ w.d1 > 0 ∧ ∀ y ∈ l, y.leaf = w.leaf → y.inn = true → y.d1 > 0 → y.qav ≤ w.qav)) ∧
          ∃ A', Rpl L paths (l.set k { w with inn := false }) A' st ∧ Ev L true A' st es B st')) := by
  have hfst : ∀ {w : KW} {k : Nat}, l[k]? = some w → ∀ (i : Nat) (z : KW), i < k → l[i]? = some z → z.num ≠ w.num := fun {w k} hk i z hi hz e => by
    have := qfy h.nums hz hk e
    omega
  cases hE with
  | adm h1 h2 h3 h4 =>
    obtain ⟨w, hw, rfl⟩ := List.mem_map.1 (h.perm.mem_iff.2 h1)
    obtain ⟨k, hk, hf⟩ := qo9 h.nums hw
    have hkl := (List.getElem?_eq_some_iff.1 hk).1
    obtain ⟨u0, u1⟩ := h.used hw
    refine ⟨k, w, hk, rfl, hfst hk, .inl ⟨rfl, fun e => ?_, _, h.set (w' := { w with inn := true, qav := st + 1 }) hk rfl ?_ (fun _ => ?_) (by have := h.st0; omega) (admNum_keys _ _ _), h4⟩⟩
    · have := h3 e
      unfold ownW at this
      simp only [Bool.and_eq_true, decide_eq_true_eq] at this
      rw [u0, u1]
      exact this
    · have hk2 : (l.map (KW.wk paths))[k]? = some (KW.wk paths w) := by rw [List.getElem?_map, hk]; rfl
      have e := qcg (by rw [qou]; exact h.nums) hk2 (st + 1)
      have e2 : (l.set k { w with inn := true, qav := st + 1 }).map (KW.wk paths) = (l.map (KW.wk paths)).set k ((KW.wk paths w).adm (st + 1)) := by
        rw [List.map_set]; rfl
      rw [e2, ← e]
      exact qex h.perm _ _
    · have := h.st0
      show 0 < st + 1
      omega
  | evi h1 h2 h3 h4 =>
    obtain ⟨w, hw, rfl⟩ := List.mem_map.1 (h.perm.mem_iff.2 h1)
    obtain ⟨k, hk, hf⟩ := qo9 h.nums hw
    have hkl := (List.getElem?_eq_some_iff.1 hk).1
    obtain ⟨u0, u1⟩ := h.used hw
    have hin : w.inn = true := by
      cases hi : w.inn
      · have h2 : 0 < (if w.inn = true then w.qav else 0) := h2
        rw [hi] at h2
        simp at h2
      · rfl
    have hy : ∀ y ∈ l, y.leaf = w.leaf → y.inn = true → KW.wk paths y ∈ A ∧ (KW.wk paths y).key = (KW.wk paths w).key ∧ 0 < (KW.wk paths y).st ∧ (KW.wk paths y).st = y.qav := fun y hy e1 e2 => by
      refine ⟨h.perm.mem_iff.1 (List.mem_map_of_mem hy), by simp [KW.wk, e1], ?_, ?_⟩
      · simp [KW.wk, e2, h.pos y hy e2]
      · simp [KW.wk, e2]
    have hws : (KW.wk paths w).st = w.qav := by simp [KW.wk, hin]
    refine ⟨k, w, hk, rfl, hfst hk, .inr ⟨rfl, ?_, _, h.set (w' := { w with inn := false }) hk rfl ?_ (fun e => by cases e) h.st0 (admNum_keys _ _ _), h4⟩⟩
    · rcases h3 with ⟨a, b, c⟩ | ⟨a, b, c⟩
      · refine .inl ⟨by rw [u0]; exact a, b, fun y hy1 e1 e2 e3 => ?_⟩
        obtain ⟨g1, g2, g3, g4⟩ := hy y hy1 e1 e2
        have := c _ g1 g2 g3 e3
        omega
      · refine .inr ⟨by rw [u1]; exact a, b, fun y hy1 e1 e2 e3 => ?_⟩
        obtain ⟨g1, g2, g3, g4⟩ := hy y hy1 e1 e2
        have := c _ g1 g2 g3 e3
        omega
    · have hk2 : (l.map (KW.wk paths))[k]? = some (KW.wk paths w) := by rw [List.getElem?_map, hk]; rfl
      have e := qcg (by rw [qou]; exact h.nums) hk2 0
      have e2 : (l.set k { w with inn := false }).map (KW.wk paths) = (l.map (KW.wk paths)).set k ((KW.wk paths w).adm 0) := by
        rw [List.map_set]; rfl
      rw [e2, ← e]
      exact qex h.perm _ _
theorem ev_end {p : Bool} (hE : Ev L p A st [] B st') : p = false := by cases hE; rfl
end
end Go.Proofs.YtphclnolomgjoaaGreatDoor
