import Derived.Test.YtphclnolomgjoaaGreatDoorX05
import Derived.Test.YtphclnolomgjoaaGreatDoorB37
import Derived.Test.YtphclnolomgjoaaGreatDoorX01
set_option linter.unusedVariables false
set_option linter.unusedSimpArgs false
namespace Go.Proofs.YtphclnolomgjoaaGreatDoor
open Go.RowKit
structure Lin (E : Int → Prop) (Ws : List Wk) : Prop where
  inn : ∀ x ∈ Ws, ∀ y ∈ Ws, x.key = y.key → x.num < y.num → x.st = 0 → ¬ E x.num → y.st = 0 ∧ ¬ E y.num
  ord : Ws.Pairwise fun u v => v.key = u.key → v.num < u.num → v.st = 0 → E v.num
section
variable {E E' : Int → Prop} {Ws Ws' : List Wk}
theorem Lin.congr (h : Lin E Ws) (he : ∀ n, E n ↔ E' n) : Lin E' Ws :=
  ⟨fun x hx y hy a b c d => by rw [← he] at d ⊢; exact h.inn x hx y hy a b c d, h.ord.imp fun h a b c => (he _).1 (h a b c)⟩
theorem Lin.sub (h : Lin E Ws) (hs : Ws'.Sublist Ws) : Lin E Ws' :=
  ⟨fun x hx y hy => h.inn x (hs.subset hx) y (hs.subset hy), h.ord.sublist hs⟩
theorem Lin.map (h : Lin E Ws) {g : Wk → Wk} (hnum : ∀ x, (g x).num = x.num) (hst : ∀ x, (g x).st = x.st) (hkey : ∀ x ∈ Ws, ∀ y ∈ Ws, (g x).key = (g y).key → x.key = y.key) : Lin E (Ws.map g) := by
  refine ⟨fun a ha b hb h1 h2 h3 h4 => ?_, ?_⟩
  · obtain ⟨a, ha', rfl⟩ := List.mem_map.1 ha
    obtain ⟨b, hb', rfl⟩ := List.mem_map.1 hb
    rw [hnum, hnum] at h2
    rw [hst] at h3
    rw [hnum] at h4
    rw [hst, hnum]
    exact h.inn a ha' b hb' (hkey a ha' b hb' h1) h2 h3 h4
  · rw [List.pairwise_map]
    refine h.ord.imp_of_mem fun {a b} ha hb h h1 h2 h3 => ?_
    rw [hnum, hnum] at h2
    rw [hst] at h3
    rw [hnum]
    exact h (hkey _ hb _ ha h1) h2 h3
theorem Lin.add (h : Lin E Ws) {x : Wk} (hn : ∀ y ∈ Ws, y.num < x.num) (hE : ¬ E x.num) (hx : x.st = 0) : Lin E (Ws ++ [x]) := by
  refine ⟨fun a ha b hb h1 h2 h3 h4 => ?_, ?_⟩
  · rcases List.mem_append.1 ha with ha | ha
    · rcases List.mem_append.1 hb with hb | hb
      · exact h.inn a ha b hb h1 h2 h3 h4
      · rw [List.mem_singleton] at hb; subst hb; exact ⟨hx, hE⟩
    · rw [List.mem_singleton] at ha; subst ha
      rcases List.mem_append.1 hb with hb | hb
      · have := hn b hb; omega
      · rw [List.mem_singleton] at hb; subst hb; omega
  · rw [List.pairwise_append]
    refine ⟨h.ord, List.pairwise_singleton _ _, fun a ha b hb _ h2 => ?_⟩
    rw [List.mem_singleton] at hb; subst hb
    have := hn a ha; omega
theorem Lin.qjs (h : Lin E Ws) (hn : (Ws.map (·.num)).Nodup) {i : Nat} {v : Wk} (hi : Ws[i]? = some v) (hv : v.st ≠ 0) : Lin (fun n => E n ∨ n = v.num) (v.adm 0 :: (Ws.take i ++ Ws.drop (i + 1))) := by
  have hsub := qe7 Ws i
  have hvm : v ∈ Ws := List.mem_of_getElem? hi
  refine ⟨fun a ha b hb h1 h2 h3 h4 => ?_, ?_⟩
  · rcases List.mem_cons.1 ha with rfl | ha
    · exact absurd (Or.inr rfl) h4
    · have ha' := hsub.subset ha
      rcases List.mem_cons.1 hb with rfl | hb
      · exact absurd (h.inn a ha' v hvm h1 h2 h3 (fun e => h4 (.inl e))).1 hv
      · have hb' := hsub.subset hb
        obtain ⟨g1, g2⟩ := h.inn a ha' b hb' h1 h2 h3 (fun e => h4 (.inl e))
        refine ⟨g1, fun e => ?_⟩
        rcases e with e | e
        · exact g2 e
        · obtain ⟨j, hj, hje⟩ := List.getElem_of_mem hb'
          have hj' : Ws[j]? = some b := by rw [List.getElem?_eq_getElem hj, hje]
          have := qfy hn hj' hi e
          subst this
          rw [hi] at hj'; cases hj'
          exact hv g1
  · rw [List.pairwise_cons]
    refine ⟨fun w hw h1 h2 h3 => ?_, (h.ord.sublist hsub).imp fun h a b c => .inl (h a b c)⟩
    refine Classical.byContradiction fun h4 => ?_
    exact hv (h.inn w (hsub.subset hw) v hvm h1 h2 h3 (fun e => h4 (.inl e))).1
theorem Lin.admit (h : Lin E Ws) (hn : (Ws.map (·.num)).Nodup) {x : Wk} (hh : qaz Ws x.key = some x) {t : Int} (ht : 0 < t) : Lin E (qd7 Ws x.num t) := by
  have hno : ∀ w ∈ Ws, w.key = x.key → w.num < x.num → w.st = 0 → E w.num := fun w hw h1 h2 h3 => by
    unfold qaz at hh
    rw [List.find?_eq_some_iff_append] at hh
    obtain ⟨_, la, lb, e, hA⟩ := hh
    have hord := h.ord
    rw [e] at hw hord
    rcases List.mem_append.1 hw with hw | hw
    · have := hA w hw
      simp [h1, h3] at this
    · rcases List.mem_cons.1 hw with rfl | hw
      · omega
      · exact (List.pairwise_cons.1 (List.pairwise_append.1 hord).2.1).1 w hw h1 h2 h3
  have hkey : ∀ y : Wk, (if y.num = x.num then y.adm t else y).key = y.key := fun y => by split <;> rfl
  have hnum : ∀ y : Wk, (if y.num = x.num then y.adm t else y).num = y.num := fun y => by split <;> rfl
  have hst : ∀ y : Wk, (if y.num = x.num then y.adm t else y).st = 0 → y.num ≠ x.num ∧ y.st = 0 := fun y h => by
    split at h
    · have : t = 0 := h
      omega
    · exact ⟨by assumption, h⟩
  unfold qd7
  refine ⟨fun a ha b hb h1 h2 h3 h4 => ?_, ?_⟩
  · obtain ⟨a, ha', rfl⟩ := List.mem_map.1 ha
    obtain ⟨b, hb', rfl⟩ := List.mem_map.1 hb
    rw [hkey, hkey] at h1
    rw [hnum, hnum] at h2
    rw [hnum] at h4 ⊢
    obtain ⟨h5, h6⟩ := hst a h3
    have g := h.inn a ha' b hb' h1 h2 h6 h4
    by_cases hbn : b.num = x.num
    · have hx := qaj hh
      obtain ⟨i, hi, hie⟩ := List.getElem_of_mem hx.1
      obtain ⟨j, hj, hje⟩ := List.getElem_of_mem hb'
      have e := qfy hn (List.getElem?_eq_getElem hi) (List.getElem?_eq_getElem hj) (by rw [hie, hje]; exact hbn.symm)
      subst e
      rw [hie] at hje
      subst hje
      exact absurd (hno a ha' h1 h2 h6) h4
    · rw [if_neg hbn]; exact g
  · rw [List.pairwise_map]
    refine h.ord.imp fun h h1 h2 h3 => ?_
    rw [hkey, hkey] at h1
    rw [hnum, hnum] at h2
    rw [hnum]
    exact h h1 h2 (hst _ h3).2
theorem Lin.room {L : List Ent} {x : Wk} {st : Int} : ∀ (n : Nat) (s : MS), RInv L x st s.Ws → Lin (fun m => E m ∨ (2, m) ∈ s.evs) s.Ws → Lin (fun m => E m ∨ (2, m) ∈ (room L x n s).evs) (room L x n s).Ws
  | 0, s, R, h => h
  | n + 1, s, R, h => by
    cases hr : qa3 L x s with
    | none => rw [room_end hr]; exact h
    | some s' =>
      rw [qlu hr]
      obtain ⟨i, v, h1, h2, h3, h4, h5, h6⟩ := qdo hr
      refine Lin.room n s' (R.step hr).1 ?_
      rw [h6]
      refine (h.qjs R.wks.nums h3 h4).congr fun m => ?_
      simp only [List.mem_append, List.mem_singleton, Prod.mk.injEq, true_and]
      exact or_assoc
theorem Lin.own {L : List Ent} {s s' : SS} (h : SInv s) (hl : Lin (fun m => E m ∨ (2, m) ∈ s.evs) s.Ws) (he : qbc L s = some s') : Lin (fun m => E m ∨ (2, m) ∈ s'.evs) s'.Ws := by
  obtain ⟨b, x, h1, h2, h3, h4, rfl⟩ := qee he
  have R := h.rinv h2 h3 h4
  have R2 := (R.room (admN s.Ws) ⟨s.Ws, s.evs⟩).1
  have g := Lin.room (E := E) (admN s.Ws) ⟨s.Ws, s.evs⟩ R hl
  have g2 := g.admit R2.wks.nums R2.head (t := s.st + 1) (by have := h.st0; omega)
  refine Lin.congr g2 fun m => ?_
  simp [qdz]
theorem Lin.idle {L : List Ent} {s s' : SS} (h : SInv s) (hl : Lin (fun m => E m ∨ (2, m) ∈ s.evs) s.Ws) (he : qat L s = some s') : Lin (fun m => E m ∨ (2, m) ∈ s'.evs) s'.Ws := by
  obtain ⟨b, x, h1, h2, h3, h4, rfl⟩ := qcz he
  have hh := qch (fun y hy => (h.wks.st y hy).1) h2 h3
  have g2 := hl.admit h.wks.nums hh (t := s.st + 1) (by have := h.st0; omega)
  rw [qcg h.wks.nums h2] at g2
  refine Lin.congr g2 fun m => ?_
  simp [qf5]
theorem Lin.settle {L : List Ent} {st : Int} (h : SInv ⟨Ws, st, []⟩) (hl : Lin E Ws) : Lin (fun m => E m ∨ (2, m) ∈ (qal L ⟨Ws, st, []⟩).evs) (qal L ⟨Ws, st, []⟩).Ws := by
  have e : qal L ⟨Ws, st, []⟩ = qbf (qat L) Ws.length (qbf (qbc L) Ws.length ⟨Ws, st, []⟩) := rfl
  rw [e]
  have h0 : SInv ⟨Ws, st, []⟩ ∧ Lin (fun m => E m ∨ (2, m) ∈ (⟨Ws, st, []⟩ : SS).evs) (⟨Ws, st, []⟩ : SS).Ws := ⟨h, hl.congr fun m => by simp⟩
  have h1 := qdv (f := qbc L) (I := fun s => SInv s ∧ Lin (fun m => E m ∨ (2, m) ∈ s.evs) s.Ws) (fun a b ha he => ⟨(ha.1.own he).1, Lin.own ha.1 ha.2 he⟩) Ws.length _ h0
  have h2 := qdv (f := qat L) (I := fun s => SInv s ∧ Lin (fun m => E m ∨ (2, m) ∈ s.evs) s.Ws) (fun a b ha he => ⟨(ha.1.idle he).1, Lin.idle ha.1 ha.2 he⟩) Ws.length _ h1
  exact h2.2
end
theorem Ev.nums {L : List Ent} {p : Bool} {A B : List Wk} {st st' : Int} {es : List (Int × Int)} (h : Ev L p A st es B st') : ∀ {a m : Int}, (a, m) ∈ es → m ∈ A.map (·.num) := by
  have hadm : ∀ (A : List Wk) (n t : Int), (qd7 A n t).map (·.num) = A.map (·.num) := fun A n t => by
    unfold qd7
    rw [List.map_map]
    refine List.map_congr_left fun y _ => ?_
    simp only [Function.comp]
    split <;> rfl
  induction h with
  | nil h => intro a m hm; cases hm
  | adm h1 h2 h3 h4 ih =>
    intro a m hm
    rcases List.mem_cons.1 hm with e | e
    · cases e; exact List.mem_map_of_mem h1
    · have := ih e; rwa [hadm] at this
  | evi h1 h2 h3 h4 ih =>
    intro a m hm
    rcases List.mem_cons.1 hm with e | e
    · cases e; exact List.mem_map_of_mem h1
    · have := ih e; rwa [hadm] at this
structure LinI (E : Int → Prop) (R : KR) : Prop where
  lin : Lin E R.k.Ws
  cnt : ∀ m, E m → m ≤ R.k.cnt
  last : ∀ m, (2, m) ∈ R.last → E m
  len : R.last.length ≤ 1000
section
variable {E : Int → Prop} {R R' : KR} {n : Nat} {nodes nodes' : List Node}
theorem lin_done {L : List Ent} {Ws : List Wk} {cnt st : Int} (I : SInv ⟨Ws, st, []⟩) (hl : Lin E Ws) (hw : ∀ x ∈ Ws, x.num ≤ cnt) (hc : ∀ m, E m → m ≤ cnt) {paths : List (List Bs)} {ws : List KW} {t : Int} :
    LinI (fun m => E m ∨ (2, m) ∈ (KS.done L Ws cnt st).evs) ⟨(KS.done L Ws cnt st).ks, paths, ws, t, (KS.done L Ws cnt st).evs⟩ := by
  refine ⟨hl.settle I, fun m hm => ?_, fun m hm => .inr hm, by have := qre L I rfl; show (qal L ⟨Ws, st, []⟩).evs.length ≤ 1000; omega⟩
  rcases hm with hm | hm
  · exact hc m hm
  · have := (qt2 L I).nums hm
    obtain ⟨x, hx, rfl⟩ := List.mem_map.1 this
    exact hw x hx
theorem LinI.same (h : LinI E R) {k : KS} (hk : k = R.k) {paths : List (List Bs)} {ws : List KW} {t : Int} : LinI (fun m => E m ∨ (2, m) ∈ ([] : List (Int × Int))) ⟨k, paths, ws, t, []⟩ := by
  subst hk
  exact ⟨h.lin.congr fun m => by simp, fun m hm => h.cnt m (by simpa using hm), fun m hm => (by cases hm), by simp⟩
theorem LinI.step (h : LinI E R) (I : RunI n R) (K : KInv nodes R.k) (I' : RunI (n + 1) R') (K' : KInv nodes' R'.k) {k a b c : Int} (hs : qyi R k a b c R') : LinI (fun m => E m ∨ (2, m) ∈ R'.last) R' := by
  have hnum : ∀ x ∈ R.k.Ws, x.num ≤ R.k.cnt := fun x hx => (K.wkl.num x hx).2
  rcases hs with ⟨_, hl, p, ws', hp, _, rfl⟩ | ⟨_, i, x, ws', hx, _, rfl⟩ | ⟨_, i, p, x0, x1, x2, x3, ws', st', hp, _, rfl⟩ | ⟨_, i, p, tk, ws', hp, htk, he, _, rfl⟩ | ⟨rfl, _⟩
  · have ha5 := qef a (n := 5) (by omega)
    have hb16 := qef b (n := 16) (by omega)
    have hc16 := qef c (n := 16) (by omega)
    have hf : qao (pkN b 16) (pkN c 16) = true := qla (by omega) (by omega)
    generalize (pkN b 16 : Int) = d0 at *
    generalize (pkN c 16 : Int) = d1 at *
    by_cases hE : errS R.k.L R.k.Ws (qaa p) (qao d0 d1) = 0
    · have ho : R.k.qbk (qaa p) d0 d1 = KS.done R.k.L (R.k.Ws ++ [qe4 R.k.cnt (qaa p) d0 d1]) (R.k.cnt + 1) R.k.st := by
        unfold KS.qbk; rw [hE]; simp
      obtain ⟨hk, hp0, hp4, m, hm, hfe, hmk, hml⟩ := I.path K hp
      have hnm := qbi hk
      have hlf : m.leaf = true := by rw [hml]; simp [ha5]
      have hmk2 : m.key = qac (qaa p) := by rw [hnm]; exact hmk
      have I2 := SInv.append K.tree K.inv K.wkl K.cnt0 hm hlf hmk2 hf (by rw [← I.wlen]; exact hl)
      rw [ho]
      refine lin_done I2 (h.lin.add (fun y hy => ?_) (fun e => ?_) rfl) (fun x hx => ?_) (fun m hm => ?_)
      · have := hnum y hy
        show y.num < R.k.cnt + 1
        omega
      · have : R.k.cnt + 1 ≤ R.k.cnt := h.cnt _ e
        omega
      · rcases List.mem_append.1 hx with hx | hx
        · have := hnum x hx; omega
        · rw [List.mem_singleton] at hx; subst hx
          show R.k.cnt + 1 ≤ R.k.cnt + 1
          omega
      · have := h.cnt m hm; omega
    · have ho : R.k.qbk (qaa p) d0 d1 = R.k.same (errS R.k.L R.k.Ws (qaa p) (qao d0 d1)) := by
        unfold KS.qbk; rw [if_pos hE]
      rw [ho]
      exact h.same rfl
  · unfold KS.finish
    cases hf : R.k.Ws.findIdx? (fun y => y.num == x.num) with
    | none => exact h.same rfl
    | some j =>
      have hsub := qe7 R.k.Ws j
      have I2 : SInv ⟨R.k.Ws.take j ++ R.k.Ws.drop (j + 1), R.k.st, []⟩ := ⟨K.inv.wks.sub hsub, K.inv.st0, K.inv.anti.sub hsub⟩
      exact lin_done I2 (h.lin.sub hsub) (fun x hx => hnum x (hsub.subset hx)) h.cnt
  · unfold KS.qbb
    split
    · exact h.same rfl
    · split
      · exact h.same rfl
      · exact lin_done K.inv h.lin hnum h.cnt
  · obtain ⟨hk, hp0, hp4, m, hm, hfe, hmk, hml⟩ := I.path K hp
    have hnm := qbi hk
    have hnt := qbi htk
    have hnd := I'.pnodup K'
    simp only at hnd
    clear I' K'
    unfold KS.move mvTo at he ⊢
    rw [hnm, hnt] at he ⊢
    by_cases hE : qqc R.k.L (qaa p) (qaa tk) = 0
    · rw [if_neg (by simpa using hE)] at he ⊢
      cases hb : qct (R.k.L.map (mvE p (tk ++ [qad p]))) (R.k.Ws.map (mvW p (tk ++ [qad p])))
      · rw [hb] at he
        rw [if_neg (by simp)] at he ⊢
        rw [← K.L, qis K.tree] at hE
        obtain ⟨_, _, q, tq, hq, ht, b1, b2, b3, b4⟩ := qga hE
        obtain ⟨hqm, hqk⟩ := qan hq
        obtain ⟨htm, htk'⟩ := qan ht
        rw [hnm] at hqk
        rw [hnt] at htk'
        obtain ⟨pp, ks, ii, kt, at_, M⟩ := Mv.of K.tree hqm htm (by rw [hqk]; exact hp0) b1 b2 b3 b4
        have hS := M.sinv K.wkl K.inv
        rw [hqk, htk'] at hS
        refine lin_done hS (h.lin.map (fun x => rfl) (fun x => rfl) fun x hx y hy e => ?_) (fun x hx => ?_) h.cnt
        · obtain ⟨u, hu, rfl⟩ := List.mem_map.1 (I.perm.mem_iff.2 hx)
          obtain ⟨v, hv, rfl⟩ := List.mem_map.1 (I.perm.mem_iff.2 hy)
          have lu : u.leaf < R.paths.length := by have := I.idx u hu; rw [I.len]; omega
          have lv : v.leaf < R.paths.length := by have := I.idx v hv; rw [I.len]; omega
          have ku : (KW.wk R.paths u).key = R.paths[u.leaf] := by simp [KW.wk, List.getD, List.getElem?_eq_getElem lu]
          have kv : (KW.wk R.paths v).key = R.paths[v.leaf] := by simp [KW.wk, List.getD, List.getElem?_eq_getElem lv]
          have e2 : mvK p (tk ++ [qad p]) (KW.wk R.paths u).key = mvK p (tk ++ [qad p]) (KW.wk R.paths v).key := e
          rw [ku, kv] at e2 ⊢
          have := nodup_inj hnd (i := u.leaf) (j := v.leaf) (by simpa using lu) (by simpa using lv) (by simpa using e2)
          simp only [this]
        · obtain ⟨y, hy, rfl⟩ := List.mem_map.1 hx
          exact hnum y hy
      · rw [hb] at he
        simp [KS.same] at he
    · rw [if_pos hE] at he
      exact absurd he hE
  · exact ⟨h.lin.congr fun m => ⟨.inl, fun e => e.elim id (h.last m)⟩, fun m hm => h.cnt m (hm.elim id (h.last m)), fun m hm => .inr hm, h.len⟩
theorem LinI.fine (h : LinI E R) (I : RunI n R) {x y : KW} (hx : x ∈ R.works) (hy : y ∈ R.works) (hl : x.leaf = y.leaf) (hn : x.num < y.num) (h1 : x.inn = false) (h2 : y.inn = true) : E x.num := by
  refine Classical.byContradiction fun hE => ?_
  have mx : KW.wk R.paths x ∈ R.k.Ws := I.perm.mem_iff.1 (List.mem_map_of_mem hx)
  have my : KW.wk R.paths y ∈ R.k.Ws := I.perm.mem_iff.1 (List.mem_map_of_mem hy)
  have := (h.lin.inn _ mx _ my (by simp [KW.wk, hl]) hn (by simp [KW.wk, h1]) hE).1
  have hp := I.pos y hy h2
  simp [KW.wk, h2] at this
  omega
end
end Go.Proofs.YtphclnolomgjoaaGreatDoor
