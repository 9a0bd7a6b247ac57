import Derived.Test.YtphclnolomgjoaaGreatDoorC21
import Derived.Test.YtphclnolomgjoaaGreatDoorC06
import Derived.Test.YtphclnolomgjoaaGreatDoorC16
import Derived.Test.YtphclnolomgjoaaGreatDoorC20
import Derived.Sort.CutIn
import Derived.Test.YtphclnolomgjoaaGreatDoorC15
set_option linter.unusedVariables false
set_option linter.unusedSimpArgs false
namespace Go.Proofs.YtphclnolomgjoaaGreatDoor
open Go.RowKit
structure qb2 (L : List Ent) (Ws : List Wk) (hs : List Wk) : Prop where
 nd : hs.Nodup
 all : ∀ y, y ∈ hs ↔ (qa0 Ws y.key = some y /\ ownW L Ws y = true)
theorem qb2.perm {L : List Ent} {Ws hs hs' : List Wk} (h : qb2 L Ws hs) (hp : hs.Perm hs') : qb2 L Ws hs' :=
 ⟨hp.nodup_iff.1 h.nd, fun y => hp.mem_iff.symm.trans (h.all y)⟩
theorem qb2.qis {L : List Ent} {Ws hs : List Wk} (h : qb2 L Ws hs) (hA : Anti Ws) (hW : Wks Ws) {i : Nat} {v : Wk} (hi : Ws[i]? = some v) (hv : 0 < v.st) (ho : qq0 L Ws v.key) : qb2 L (v.adm 0 :: (Ws.take i ++ Ws.drop (i + 1))) hs := by
 refine ⟨h.nd, fun y => (h.all y).trans ?_⟩
 have hvm := List.mem_of_getElem? hi
 rw [qdn hi hv]
 constructor
 ·rintro ⟨h1, h2⟩
  obtain ⟨y1, _, _⟩ := qak h1
  have hd := hW.num y y1
  have hk : v.key ≠ y.key := fun e => qg7 ⟨hd.1.1, hd.2.1⟩ h2 (e ▸ ho)
  rw [if_neg hk, qce hi hv (hA.not hvm y1 hk)]
  exact ⟨h1, h2⟩
 ·rintro ⟨h1, h2⟩
  by_cases hk : v.key = y.key
  ·rw [if_pos hk] at h1
   cases h1
   rw [qd6 hi hv ho] at h2; cases h2
  ·rw [if_neg hk] at h1
   rw [qce hi hv (hA.not hvm (qak h1).1 hk)] at h2
   exact ⟨h1, h2⟩
theorem qb2.step {L : List Ent} {x : Wk} {st : Int} {s s' : MS} {hs : List Wk} (h : qb2 L s.Ws hs) (R : RInv L x st s.Ws) (he : roomStep L x s = some s') : qb2 L s'.Ws hs := by
 obtain ⟨i, v, hvi, hf, hv, h0, hw, rfl⟩ := qgb he
 have hst := (R.wks.st v (List.mem_of_getElem? hv)).1
 exact h.qis R.anti R.wks.wks hv (by omega) (qoh hw)
theorem qb2.room {L : List Ent} {x : Wk} {st : Int} {hs : List Wk} : ∀ (n : Nat) (s : MS), RInv L x st s.Ws -> qb2 L s.Ws hs -> qb2 L (room L x n s).Ws hs
 | 0, s, R, h => h
 | n + 1, s, R, h => by
  simp only [Proofs.YtphclnolomgjoaaGreatDoor.room]
  cases he : roomStep L x s with
  | none => exact h
  | some s' => exact qb2.room n s' (R.step he).1 (h.step R he)
def moreOwn (L : List Ent) (Ws : List Wk) (k : List Bs) : List Wk := match qa0 Ws k with
 | some z => if ownW L Ws z then [z] else []
 | none => []
theorem qhp {L : List Ent} {Ws : List Wk} {k : List Bs} {y : Wk} : y ∈ moreOwn L Ws k ↔ (qa0 Ws k = some y /\ ownW L Ws y = true) := by
 unfold moreOwn
 cases h : qa0 Ws k with
 | none => simp
 | some z =>
  simp only
  split
  ·rename_i ho; simp; constructor
   ·rintro rfl; exact ⟨rfl, ho⟩
   ·rintro ⟨e, _⟩; exact e.symm
  ·rename_i ho; simp; rintro rfl; simpa using ho
theorem qo4 (L : List Ent) (Ws : List Wk) (k : List Bs) : (moreOwn L Ws k).Nodup := by
 unfold moreOwn
 split
 ·split <;> simp
 ·simp
theorem qb2.admit {L : List Ent} {Ws rest : List Wk} {x : Wk} (h : qb2 L Ws (x :: rest)) (hA : Anti Ws) {i : Nat} (hi : Ws[i]? = some x) {t : Int} (ht : 0 < t) : qb2 L (Ws.set i (x.adm t)) (moreOwn L (Ws.set i (x.adm t)) x.key ++ rest) := by
 obtain ⟨hx, ho⟩ := (h.all x).1 (List.mem_cons_self ..)
 obtain ⟨x1, x2, _⟩ := qak hx
 have hnd := List.nodup_cons.1 h.nd
 have hkey : ∀ y ∈ rest, x.key ≠ y.key := fun y hy e => hnd.1 (by
  have := qob hx ((h.all y).1 (List.mem_cons_of_mem _ hy)).1 e
  rw [this]; exact hy)
 refine ⟨?_, fun y => ?_⟩
 ·rw [List.nodup_append]
  refine ⟨qo4 .., hnd.2, fun a ha b hb e => ?_⟩
  subst e
  exact hkey a hb (qak (qhp.1 ha).1).2.2.symm
 ·rw [List.mem_append, qhp]
  constructor
  ·rintro (⟨h1, h2⟩ | h1)
   ·rw [(qak h1).2.2]; exact ⟨h1, h2⟩
   ·have hk := hkey y h1
    obtain ⟨g1, g2⟩ := (h.all y).1 (List.mem_cons_of_mem _ h1)
    rw [qcy hi ht hk, qdl hi x2 ht (hA.not x1 (qak g1).1 hk)]
    exact ⟨g1, g2⟩
  ·rintro ⟨h1, h2⟩
   by_cases hk : x.key = y.key
   ·left; rw [hk]; exact ⟨h1, h2⟩
   ·right
    rw [qcy hi ht hk] at h1
    rw [qdl hi x2 ht (hA.not x1 (qak h1).1 hk)] at h2
    rcases List.mem_cons.1 ((h.all y).2 ⟨h1, h2⟩) with rfl | h3
    ·exact absurd rfl hk
    ·exact h3
theorem qb2.does {L : List Ent} {s : SS} {x : Wk} {rest : List Wk} (h : qb2 L s.Ws (x :: rest)) (I : SInv s) (hmin : ∀ y ∈ rest, Op.bytesLess (joinB y.key) (joinB x.key) = false) :
  ownStep L s = some (qcs L x s) /\ RInv L x s.st s.Ws /\ qb2 L (qcs L x s).Ws (moreOwn L (qcs L x s).Ws x.key ++ rest) := by
 obtain ⟨hx, ho⟩ := (h.all x).1 (List.mem_cons_self ..)
 have R : RInv L x s.st s.Ws := ⟨I.wks, I.anti, hx, ho⟩
 have hst0 := I.st0
 refine ⟨?_, R, ?_⟩
 ·obtain ⟨b, hb, hbx⟩ := qta I.wks.wks (fun y hy => (I.wks.st y hy).1) hx ho (fun y h1 h2 => by
   rcases List.mem_cons.1 ((h.all y).2 ⟨h1, h2⟩) with rfl | h3
   ·exact qb8 _
   ·exact hmin y h3)
  unfold ownStep
  rw [hb]
  simp only
  rw [hbx]
 ·have g1 := (RInv.room (admN s.Ws) ⟨s.Ws, s.evs⟩ R).1
  have g2 := qb2.room (admN s.Ws) ⟨s.Ws, s.evs⟩ R h
  obtain ⟨x1, _, _⟩ := qak g1.head
  obtain ⟨i, hi⟩ := List.getElem?_of_mem x1
  unfold qcs
  simp only
  rw [qfa g1.wks.nums hi]
  exact g2.admit g1.anti hi (by omega)
theorem qb2.ends {L : List Ent} {s : SS} (h : qb2 L s.Ws []) (I : SInv s) : ownStep L s = none := by
 unfold ownStep
 rw [qte (fun y hy => (I.wks.st y hy).1) (fun y hy => by
  cases ho : ownW L s.Ws y with
  | false => rfl
  | true => exact absurd ((h.all y).2 ⟨hy, ho⟩) (by simp))]
theorem qwv {l l' : List Wk} (h : l.Sublist l') (h0 : ∀ x ∈ l', 0 <= x.d0 /\ 0 <= x.d1) : ws0 l <= ws0 l' /\ ws1 l <= ws1 l' := by
 induction h with
 | slnil => simp [ws0, ws1]
 | cons a _ ih =>
  have h1 := ih (fun x hx => h0 x (List.mem_cons_of_mem _ hx))
  have h2 := h0 a (List.mem_cons_self ..)
  simp [ws0, ws1] at h1 ⊢; omega
 | cons_cons a _ ih =>
  have h1 := ih (fun x hx => h0 x (List.mem_cons_of_mem _ hx))
  simp [ws0, ws1] at h1 ⊢; omega
theorem qsp (s : Bs) : inB s [] = true := by simp [inB]
theorem qju {α : Type} {p q : α -> Bool} (h : ∀ x, p x = true -> q x = true) : ∀ l : List α, (l.filter p).Sublist (l.filter q)
 | [] => by simp
 | a :: l => by
  rw [List.filter_cons, List.filter_cons]
  have ih := qju h l
  cases hp : p a with
  | true => rw [h a hp]; simpa using ih
  | false =>
   cases hq : q a with
   | true => simp; exact ih.trans (List.sublist_cons_self ..)
   | false => simpa using ih
theorem qtb {Ws : List Wk} (hW : Wks Ws) (k : Bs) : ws0 (qae Ws k) <= ws0 (qae Ws []) /\ ws1 (qae Ws k) <= ws1 (qae Ws []) := by
 refine qwv (qju (fun x hx => ?_) Ws) (fun x hx => ?_)
 ·simp only [Bool.and_eq_true] at hx ⊢; exact ⟨hx.1, qsp _⟩
 ·have := hW.num x (List.mem_filter.1 hx).1; omega
def qrm (L : List Ent) : Prop := ∃ r ∈ L, r.key = [] /\ r.b0 = 0 /\ r.b1 = 0
theorem qjn {L : List Ent} (E : Ents L) (hR : qrm L) {Ws : List Wk} (hW : Wks Ws) {x : Wk} (h : qbm L Ws x = true) : Plain L Ws x := by
 obtain ⟨r, hr, hk, hb0, hb1⟩ := hR
 unfold qbm at h
 rw [List.all_eq_true] at h
 have := h r hr
 unfold tight sh0 sh1 at this
 rw [hk, hb0, hb1] at this
 simp only [show joinB [] = [] from rfl, qsp, Bool.true_and, Bool.not_eq_true', Bool.or_eq_false_iff, decide_eq_false_iff_not] at this
 have hu := qtb hW (joinB x.key)
 have he := qeo E (joinB x.key)
 exact ⟨fun e => by omega, fun e => by omega⟩
theorem qhw {Ws : List Wk} {i : Nat} {x : Wk} (hi : Ws[i]? = some x) (hx : x.st = 0) {t : Int} (ht : 0 < t) {k : Bs} (hn : inB (joinB x.key) k = false) : ws0 (qae (Ws.set i (x.adm t)) k) = ws0 (qae Ws k) /\ ws1 (qae (Ws.set i (x.adm t)) k) = ws1 (qae Ws k) := by
 have := qie hi hx ht k
 rw [hn] at this
 simpa using this
theorem qex {L : List Ent} {Ws : List Wk} {i : Nat} {x y : Wk} (hi : Ws[i]? = some x) (hx : x.st = 0) {t : Int} (ht : 0 < t) (hn : inB (joinB x.key) (joinB y.key) = false) : shp L (Ws.set i (x.adm t)) y = shp L Ws y := by
 have := qhw hi hx ht hn
 unfold shp
 rw [this.1, this.2]
theorem qpb {L : List Ent} {Ws : List Wk} (hW : Wks Ws) {i : Nat} {x y : Wk} (hi : Ws[i]? = some x) (hx : x.st = 0) {t : Int} (ht : 0 < t) (h : qbm L (Ws.set i (x.adm t)) y = true) : qbm L Ws y = true := by
 unfold qbm at *
 rw [List.all_eq_true] at *
 intro e he
 have h1 := h e he
 have h2 := qie hi hx ht (joinB e.key)
 have h3 := hW.num x (List.mem_of_getElem? hi)
 unfold tight sh0 sh1 at *
 cases h4 : inB (joinB y.key) (joinB e.key)
 ·rfl
 ·rw [h4] at h1
  simp only [Bool.true_and, Bool.not_eq_true', Bool.or_eq_false_iff, decide_eq_false_iff_not] at h1 ⊢
  rw [h2.1, h2.2] at h1
  constructor
  ·have := h1.1
   split at this <;> omega
  ·have := h1.2
   split at this <;> omega
structure qbt (L : List Ent) (Ws : List Wk) (hs : List (Wk × Int)) : Prop where
 nd : (hs.map fun p => p.1.key).Nodup
 hd : ∀ p ∈ hs, qa0 Ws p.1.key = some p.1 /\ p.2 = shp L Ws p.1
 all : ∀ y, qa0 Ws y.key = some y -> qbm L Ws y = true -> (y, shp L Ws y) ∈ hs
theorem qbt.perm {L : List Ent} {Ws : List Wk} {hs hs' : List (Wk × Int)} (h : qbt L Ws hs) (hp : hs.Perm hs') : qbt L Ws hs' :=
 ⟨(hp.map _).nodup_iff.1 h.nd, fun p hm => h.hd p (hp.mem_iff.2 hm), fun y h1 h2 => hp.mem_iff.1 (h.all y h1 h2)⟩
theorem qbt.drop {L : List Ent} {Ws : List Wk} {p : Wk × Int} {rest : List (Wk × Int)} (h : qbt L Ws (p :: rest)) (hf : qbm L Ws p.1 = false) : qbt L Ws rest := by
 refine ⟨(List.nodup_cons.1 h.nd).2, fun q hq => h.hd q (List.mem_cons_of_mem _ hq), fun y h1 h2 => ?_⟩
 rcases List.mem_cons.1 (h.all y h1 h2) with e | h3
 ·rw [<- e] at hf; simp only at hf; rw [hf] at h2; cases h2
 ·exact h3
def qb5 (L : List Ent) (Ws : List Wk) (k : List Bs) : List (Wk × Int) := match qa0 Ws k with
 | some z => [(z, shp L Ws z)]
 | none => []
def before (a b : Wk × Int) : Bool := if a.2 ≠ b.2 then decide (a.2 < b.2) else decide (a.1.num < b.1.num)
theorem qig (a b : Wk × Int) : before a b = (decide (a.2 < b.2) || (decide (a.2 = b.2) && decide (a.1.num < b.1.num))) := by
 unfold before
 by_cases h : a.2 = b.2
 ·simp [h]
 ·simp [h]
theorem qbt.does {L : List Ent} (E : Ents L) (hR : qrm L) {s : SS} {x : Wk} {sx : Int} {rest : List (Wk × Int)} (h : qbt L s.Ws ((x, sx) :: rest)) (I : SInv s) (hf : qbm L s.Ws x = true) (hmin : ∀ q ∈ rest, before q (x, sx) = false) :
  ∃ b, s.Ws[b]? = some x /\ x.st = 0 /\ qas L s = some (qds b x s) /\ qbt L (qds b x s).Ws (qb5 L (qds b x s).Ws x.key ++ rest) := by
 obtain ⟨hx, hsx⟩ := h.hd _ (List.mem_cons_self ..)
 simp only at hx hsx
 obtain ⟨x1, x2, _⟩ := qak hx
 have hst0 := I.st0
 have hpx := qjn E hR I.wks.wks hf
 obtain ⟨b, hb, hbx⟩ := qnh E I.wks.nums (fun y hy => (I.wks.st y hy).1) hx hf (fun y h1 h2 => by
  rw [qvx E (qjn E hR I.wks.wks h2) hpx]
  rcases List.mem_cons.1 (h.all y h1 h2) with e | h3
  ·cases e; simp
  ·have := hmin _ h3
   rw [qig] at this
   simp only at this
   rw [hsx] at this
   exact this)
 refine ⟨b, hbx, x2, ?_, ?_⟩
 ·unfold qas
  rw [hb]
  simp only
  rw [hbx]
 ·have hnd := List.nodup_cons.1 h.nd
  have hkey : ∀ q ∈ rest, x.key ≠ q.1.key := fun q hq e => hnd.1 (by
   show x.key ∈ rest.map fun p => p.1.key
   rw [e]; exact List.mem_map.2 ⟨q, hq, rfl⟩)
  have ht : 0 < s.st + 1 := by omega
  unfold qds
  simp only
  obtain ⟨Ws2, hWs2⟩ : ∃ Ws2, Ws2 = s.Ws.set b (x.adm (s.st + 1)) := ⟨_, rfl⟩
  rw [<- hWs2]
  have hmore : ∀ q ∈ qb5 L Ws2 x.key, qa0 Ws2 x.key = some q.1 /\ q.1.key = x.key /\ q.2 = shp L Ws2 q.1 := by
   intro q hq
   unfold qb5 at hq
   cases hz : qa0 Ws2 x.key with
   | none => rw [hz] at hq; cases hq
   | some z =>
    rw [hz] at hq
    simp at hq
    subst hq
    exact ⟨rfl, (qak hz).2.2, rfl⟩
  refine ⟨?_, fun q hq => ?_, fun y h1 h2 => ?_⟩
  ·rw [List.map_append, List.nodup_append]
   refine ⟨?_, hnd.2, fun a ha c hc e => ?_⟩
   ·unfold qb5
    split <;> simp
   ·obtain ⟨q, hq, rfl⟩ := List.mem_map.1 ha
    obtain ⟨q', hq', rfl⟩ := List.mem_map.1 hc
    rw [(hmore q hq).2.1] at e
    exact hkey q' hq' e
  ·rcases List.mem_append.1 hq with hq | hq
   ·obtain ⟨g1, g2, g3⟩ := hmore q hq
    rw [g2]; exact ⟨g1, g3⟩
   ·obtain ⟨g1, g2⟩ := h.hd q (List.mem_cons_of_mem _ hq)
    rw [hWs2, qcy hbx ht (hkey q hq), qex hbx x2 ht (I.anti.not x1 (qak g1).1 (hkey q hq))]
    exact ⟨g1, g2⟩
  ·rw [List.mem_append]
   by_cases hk : x.key = y.key
   ·left
    rw [hk]
    unfold qb5
    rw [h1]
    simp
   ·right
    rw [hWs2] at h1 h2 ⊢
    rw [qcy hbx ht hk] at h1
    have hm := h.all y h1 (qpb I.wks.wks hbx x2 ht h2)
    rw [qex hbx x2 ht (I.anti.not x1 (qak h1).1 hk)]
    rcases List.mem_cons.1 hm with e | h3
    ·cases e; exact absurd rfl hk
    ·exact h3
theorem qbt.ends {L : List Ent} {s : SS} (h : qbt L s.Ws []) (I : SInv s) : qas L s = none := by
 unfold qas
 rw [qnt (fun y hy => (I.wks.st y hy).1) (fun y hy => by
  cases ho : qbm L s.Ws y with
  | false => rfl
  | true => exact absurd (h.all y hy ho) (by simp))]
theorem qle (a b : Wk × Int) (h : before a b = true) : before b a = false := by
 rw [qig] at *
 simp at *
 omega
theorem qkr (a b c : Wk × Int) (h1 : before a b = false) (h2 : before b c = false) : before a c = false := by
 rw [qig] at *
 simp at *
 omega
end Go.Proofs.YtphclnolomgjoaaGreatDoor
namespace Go.Proofs.YtphclnolomgjoaaGreatDoor
open Go.RowKit Go.Shelf
attribute [local go_sem] Oper.semAt_some
def shq0 (nodes : List Node) (l : List Pw) (m : Node) (a : Int) : Int := abv (ws0 (pun l m.key) + a) (pn0 nodes m.key + m.b0)
def shq1 (nodes : List Node) (l : List Pw) (m : Node) (a : Int) : Int := abv (ws1 (pun l m.key) + a) (pn1 nodes m.key + m.b1)
def okAt (nodes : List Node) (l : List Pw) (x : Wk) (m : Node) : Bool := (shq0 nodes l m x.d0 == 0) && (shq1 nodes l m x.d1 == 0)
set_option maxRecDepth 100000 in
set_option maxHeartbeats 2000000 in
theorem qrc {nodes : List Node} (T : Tree nodes) (hB : qa7 nodes) {w : World} {bt rr : Nat} {va : Value} {l : List Pw} (h : Rd w nodes bt rr va l) {p : Pw} (hp : PwIn w nodes p) {n : Node} (hn : n ∈ nodes) (hnq : n.blk = p.q) :
  Calls Tryz.prog 180 #[.pointer (some ⟨rr, 0, none⟩), nptr p.blk] w fun e w' => e = .returned (.bool ((ups nodes 4 n).all (okAt nodes l p.x))) /\ Below w.heap.size w w' := by
 have hdd : ∀ k : Nat, Fence.wide.depth.isSome = true -> 1 <= k := fun k h => by simp [Fence.wide] at h
 have hup : ∀ W, (∀ n ∈ nodes, qan W n) -> _ := fun W hW => qrs T hn W hW
 have hmem := qhy T 4 n hn (T.ok n hn).2
 have hpl := hp.at_.lt
 have hpc := fun W (hW : Below w.heap.size w W) => (hp.below hW).cells.2
 have hsh := fun W (hW : Below w.heap.size w W) m (hm : m ∈ nodes) => qjp T hB (h.below hW) hm p.x.d0 p.x.d1 hp.num.1 hp.num.2
 obtain ⟨z1, _, _⟩ := hpc w (Below.refl _ _)
 rw [hnq] at hup
 generalize hX : ups nodes 4 n = X at hup hmem ⊢
 refine (callsIn_wide (n := 3)).1 ?_
 refine callsIn_of_wp_marks Tryz.func180 rfl trivial ?_ rfl
 unfold nptr at hup ⊢
 have e1 : ¬ (p.blk = w.heap.size) := by omega
 have e2 : ¬ (p.blk = w.heap.size + 1) := by omega
 have e3 : ¬ (p.blk = w.heap.size + 1 + 1) := by omega
 simp only [Tryz.ntmps180, List.size_toArray, List.length_cons, List.length_nil, Nat.reduceAdd, Nat.reduceSub, Array.replicate_succ, Array.replicate_zero, List.push_toArray, List.append_toArray, List.nil_append, List.cons_append]
 have hB0 : Below w.heap.size w (((w.alloc (.cells #[.pointer (some ⟨rr, 0, none⟩)] 186)).alloc (.cells #[.pointer (some ⟨p.blk, 0, none⟩)] 95)).alloc (.cells #[.bool false] 4)) := by exact bel1
 have x2 : Box (((w.alloc (.cells #[.pointer (some ⟨rr, 0, none⟩)] 186)).alloc (.cells #[.pointer (some ⟨p.blk, 0, none⟩)] 95)).alloc (.cells #[.bool false] 4)) w.heap.size 186 (.pointer (some ⟨rr, 0, none⟩)) := ((Box.new w 186 _).alloc _).alloc _
 have x3 : Box (((w.alloc (.cells #[.pointer (some ⟨rr, 0, none⟩)] 186)).alloc (.cells #[.pointer (some ⟨p.blk, 0, none⟩)] 95)).alloc (.cells #[.bool false] 4)) (w.heap.size + 1) 95 (.pointer (some ⟨p.blk, 0, none⟩)) := by
  have := (Box.new (w.alloc (.cells #[.pointer (some ⟨rr, 0, none⟩)] 186)) 95 (.pointer (some ⟨p.blk, 0, none⟩))).alloc (.cells #[.bool false] 4)
  rwa [World.size_alloc] at this
 have x4 : Box (((w.alloc (.cells #[.pointer (some ⟨rr, 0, none⟩)] 186)).alloc (.cells #[.pointer (some ⟨p.blk, 0, none⟩)] 95)).alloc (.cells #[.bool false] 4)) (w.heap.size + 1 + 1) 4 (.bool false) := by
  have := Box.new ((w.alloc (.cells #[.pointer (some ⟨rr, 0, none⟩)] 186)).alloc (.cells #[.pointer (some ⟨p.blk, 0, none⟩)] 95)) 4 (.bool false)
  rwa [World.size_alloc, World.size_alloc] at this
 have hs0 : (((w.alloc (.cells #[.pointer (some ⟨rr, 0, none⟩)] 186)).alloc (.cells #[.pointer (some ⟨p.blk, 0, none⟩)] 95)).alloc (.cells #[.bool false] 4)).heap.size = w.heap.size + 3 := by simp
 gi_upto_region 1 with fail
 generalize (((w.alloc (.cells #[.pointer (some ⟨rr, 0, none⟩)] 186)).alloc (.cells #[.pointer (some ⟨p.blk, 0, none⟩)] 95)).alloc (.cells #[.bool false] 4)) = W0 at hB0 x2 x3 x4 hs0 ⊢
 obtain ⟨y1, _, _⟩ := hpc _ hB0
 have c3 := x3.cell
 clear z1
 gi_wp2_with ((first | refine ⟨trivial, hdd _, ?_⟩ | refine ⟨trivial, ?_⟩); gi_at_call 191; refine (callsIn_wide.2 (hup _ (fun n hn => (h.ins n hn).below hB0))).mono ?_; rintro e W ⟨rfl, rfl, hseq⟩)
 obtain ⟨W, hW⟩ : ∃ W, W = W0.alloc (.cells #[.pointer (some ⟨p.q, 0, none⟩)] 97) := ⟨_, rfl⟩
 have hsz : W.heap.size = w.heap.size + 4 := by rw [hW]; simp [hs0]
 have hb2 : Box W w.heap.size 186 (.pointer (some ⟨rr, 0, none⟩)) := by rw [hW]; exact x2.alloc _
 have hb3 : Box W (w.heap.size + 1) 95 (.pointer (some ⟨p.blk, 0, none⟩)) := by rw [hW]; exact x3.alloc _
 have hb4 : Box W (w.heap.size + 1 + 1) 4 (.bool false) := by rw [hW]; exact x4.alloc _
 have hbw : Below w.heap.size w W := by rw [hW]; exact hB0.alloc hB0.size _
 rw [hs0] at hseq
 simp only [<- hW] at hseq ⊢
 have hq := hseq (fun b => b = w.heap.size + 1 + 1 \/ W.heap.size <= b) (fun k hk => ⟨fun e => by have := (h.ins k hk).lt; omega, fun g hg e => by have := ((h.ins k hk).row.lt g hg).2; omega⟩)
 clear hseq hup hW x2 x3 x4 c3 y1
 have hno : ∀ b, b < W.heap.size -> ¬ (False \/ W.heap.size <= b) := fun b hb e => by rcases e with e | e; exact e; omega
 refine qgy (T := fun b => b = w.heap.size + 1 + 1) (S := fun _ => False) rfl (enters_of Tryz.func223 (by kernel_rfl) rfl) hq (Below.refl _ _) rfl (fun b e => e.elim) (fun b e => by omega)
  (fun pre A => pre.all (okAt nodes l p.x) = true /\ Box A w.heap.size 186 (.pointer (some ⟨rr, 0, none⟩)) /\ Box A (w.heap.size + 1) 95 (.pointer (some ⟨p.blk, 0, none⟩)) /\ Box A (w.heap.size + 1 + 1) 4 (.bool false) /\ Below w.heap.size w A)
  (fun c pre A => c = .ret /\ pre.all (okAt nodes l p.x) = false /\ Box A (w.heap.size + 1 + 1) 4 (.bool false) /\ Below w.heap.size w A)
  (fun pre A B hs hk => ⟨hs.1, hs.2.1.keep hk (hno _ (by omega)), hs.2.2.1.keep hk (hno _ (by omega)), hs.2.2.2.1.keep hk (hno _ (by omega)), hs.2.2.2.2.trans (hk.toBelow hs.2.2.2.2.size (fun b hb' => hno b (by omega)))⟩)
  (fun c pre A B hs hk => ⟨hs.1, hs.2.1, hs.2.2.1.keep hk (hno _ (by omega)), hs.2.2.2.trans (hk.toBelow hs.2.2.2.size (fun b hb' => hno b (by omega)))⟩)
  ⟨rfl, hb2, hb3, hb4, hbw⟩
  (fun x => { tmps := #[.pointer (some ⟨rr, 0, none⟩), .pointer (some ⟨p.blk, 0, none⟩), .pointer (some ⟨w.heap.size, 0, none⟩), .pointer (some ⟨w.heap.size + 1, 0, none⟩), .pointer (some ⟨w.heap.size + 1 + 1, 0, none⟩), .pointer (some ⟨x.blk, 0, none⟩), .pointer (some ⟨p.blk, 0, none⟩), .pointer (some ⟨p.blk, 0, none⟩), .pointer (some ⟨p.blk, 1, none⟩), .pointer (some ⟨p.q, 0, none⟩),
   .func (.func 223) #[] #[.pointer (some ⟨w.heap.size + 3, 0, none⟩)], .pointer (some ⟨x.blk, 0, none⟩), undef, undef, undef, undef, undef, undef, undef, undef, undef], defers := [] }) ?assign ?body ?done ?stop
 case assign =>
  intro l x W K hK
  gi_wp2
  exact hK
 case body =>
  rintro l2 pre x W2 ⟨hall, hbo2, hbo3, hbox, hbel⟩ hszW hpre
  have hxm := ((hmem x).1 (hpre.subset (by simp))).1
  have c2 := hbo2.cell
  have c3 := hbo3.cell
  have hc := hbox.cell
  have hf := hbox.frozen
  obtain ⟨y1, y2, y3⟩ := hpc _ hbel
  have hsx := fun W hW => hsh W hW x hxm
  have hok : okAt nodes l p.x x = ((shq0 nodes l x p.x.d0 == 0) && (shq1 nodes l x p.x.d1 == 0)) := rfl
  have hneq := fun W => qwk (shq0 nodes l x p.x.d0) (shq1 nodes l x p.x.d1) 0 0 W
  have hsx2 : ∀ W, Below w.heap.size w W -> Calls Tryz.prog 216 #[.pointer (some ⟨rr, 0, none⟩), .pointer (some ⟨x.blk, 0, none⟩), .agg #[.int .i64 p.x.d0, .int .i64 p.x.d1]] W fun e w' => e = .returned (.agg #[.int .i64 (shq0 nodes l x p.x.d0), .int .i64 (shq1 nodes l x p.x.d1)]) /\ Below W.heap.size W w' := hsx
  generalize shq0 nodes l x p.x.d0 = s0 at hok hneq hsx2
  generalize shq1 nodes l x p.x.d1 = s1 at hok hneq hsx2
  have HALL : Hid (pre.all (okAt nodes l p.x) = true) := hall
  have HOK : Hid (okAt nodes l p.x x = ((s0 == 0) && (s1 == 0))) := hok
  have hmix : Tryz.prog.follows .mixedOrders = true := by kernel_rfl
  clear hall hok hsx hsh hq
  gi_upto_region 3 with fail
  refine qdk (fun W' => W'.cell? ⟨w.heap.size, 0, none⟩ = some (.pointer (some ⟨rr, 0, none⟩)) /\ W'.cell? ⟨w.heap.size + 1, 0, none⟩ = some (.pointer (some ⟨p.blk, 0, none⟩)) /\ W'.cell? ⟨p.blk, 2, none⟩ = some (.int .i64 p.x.d0) /\ W'.cell? ⟨p.blk, 3, none⟩ = some (.int .i64 p.x.d1) /\ Below W2.heap.size W2 W') (by kernel_rfl) (by kernel_rfl) ⟨c2, c3, y2, y3, by exact bel2⟩ (fun hS => ?_)
  refine wpAnyH_take (i := 0) (v := .pointer (some ⟨rr, 0, none⟩)) rfl (by kernel_rfl) (by kernel_rfl) (by kernel_rfl) (fun _ _ _ h => absurd h.1 (by intro e; cases e)) (Or.inl ⟨by rfl, ?_⟩) hS ?_
  ·intro w' hS'
   obtain ⟨s2, s3, s4, s5, _⟩ := hS'
   go_simp
  simp only [List.getElem_toArray, List.getElem_cons_zero, List.getElem_cons_succ, Act.put, List.setIfInBounds_toArray, List.set_cons_zero, List.set_cons_succ]
  refine wpAnyH_take (i := 1) (v := .pointer (some ⟨x.blk, 0, none⟩)) rfl (by kernel_rfl) (by kernel_rfl) (by kernel_rfl) (fun _ _ _ h => absurd h.1 (by intro e; cases e)) (Or.inl ⟨by rfl, ?_⟩) hS ?_
  ·intro w' hS'
   obtain ⟨s2, s3, s4, s5, _⟩ := hS'
   go_simp
  simp only [List.getElem_toArray, List.getElem_cons_zero, List.getElem_cons_succ, Act.put, List.setIfInBounds_toArray, List.set_cons_zero, List.set_cons_succ]
  refine wpAnyH_take (i := 2) (v := .pointer (some ⟨p.blk, 0, none⟩)) rfl (by kernel_rfl) (by kernel_rfl) (by kernel_rfl) (fun _ _ _ h => absurd h.1 (by intro e; cases e)) (Or.inl ⟨by rfl, ?_⟩) hS ?_
  ·intro w' hS'
   obtain ⟨s2, s3, s4, s5, _⟩ := hS'
   go_simp
  simp only [List.getElem_toArray, List.getElem_cons_zero, List.getElem_cons_succ, Act.put, List.setIfInBounds_toArray, List.set_cons_zero, List.set_cons_succ]
  refine wpAnyH_take (i := 3) (v := .pointer (some ⟨p.blk, 0, none⟩)) rfl (by kernel_rfl) (by kernel_rfl) (by kernel_rfl) (fun _ _ _ h => absurd h.1 (by intro e; cases e)) (Or.inl ⟨by rfl, ?_⟩) hS ?_
  ·intro w' hS'
   obtain ⟨s2, s3, s4, s5, _⟩ := hS'
   go_simp
  simp only [List.getElem_toArray, List.getElem_cons_zero, List.getElem_cons_succ, Act.put, List.setIfInBounds_toArray, List.set_cons_zero, List.set_cons_succ]
  refine wpAnyH_take (i := 4) (v := .pointer (some ⟨p.blk, 2, none⟩)) rfl (by kernel_rfl) (by kernel_rfl) (by kernel_rfl) (fun _ _ _ h => absurd h.1 (by intro e; cases e)) (Or.inl ⟨by rfl, ?_⟩) hS ?_
  ·intro w' hS'
   obtain ⟨s2, s3, s4, s5, _⟩ := hS'
   go_simp
  simp only [List.getElem_toArray, List.getElem_cons_zero, List.getElem_cons_succ, Act.put, List.setIfInBounds_toArray, List.set_cons_zero, List.set_cons_succ]
  refine wpAnyH_take (i := 5) (v := .agg #[.int .i64 p.x.d0, .int .i64 p.x.d1]) rfl (by kernel_rfl) (by kernel_rfl) (by kernel_rfl) (fun _ _ _ h => absurd h.1 (by intro e; cases e)) (Or.inl ⟨by rfl, ?_⟩) hS ?_
  ·intro w' hS'
   obtain ⟨s2, s3, s4, s5, _⟩ := hS'
   go_simp
  simp only [List.getElem_toArray, List.getElem_cons_zero, List.getElem_cons_succ, Act.put, List.setIfInBounds_toArray, List.set_cons_zero, List.set_cons_succ]
  refine wpAnyH_take (i := 7) (v := .agg #[.int .i64 0, .int .i64 0]) rfl (by kernel_rfl) (by kernel_rfl) (by kernel_rfl) (fun _ _ _ h => absurd h.1 (by intro e; cases e)) (Or.inl ⟨by rfl, ?_⟩) hS ?_
  ·intro w' hS'
   obtain ⟨s2, s3, s4, s5, _⟩ := hS'
   go_simp
  simp only [List.getElem_toArray, List.getElem_cons_zero, List.getElem_cons_succ, Act.put, List.setIfInBounds_toArray, List.set_cons_zero, List.set_cons_succ]
  refine wpAnyH_ready (rs := [6]) (by kernel_rfl) (by simp) ?_
  refine AllReadyH.cons rfl (fun K hK => ?_) AllReadyH.nil
  rw [if_pos (by rfl)]
  try simp only [List.getElem_toArray, List.getElem_cons_zero, List.getElem_cons_succ]
  go_simp
  refine (hsx2 _ (qac hbel (by exact bel2))).mono ?_
  rintro e W3 ⟨rfl, hbA⟩
  have hb3' : Below W2.heap.size W2 W3 := qac (show Below W2.heap.size W2 W2.drew by exact bel2) hbA
  have hlt2 := hbo2.lt
  have hlt3 := hbo3.lt
  have hltp := (hp.below hbel).at_.lt
  refine hK.out _ _ ⟨(hb3'.cell (p := ⟨w.heap.size, 0, none⟩) hlt2).trans c2, (hb3'.cell (p := ⟨w.heap.size + 1, 0, none⟩) hlt3).trans c3, (hb3'.cell (p := ⟨p.blk, 2, none⟩) hltp).trans y2, (hb3'.cell (p := ⟨p.blk, 3, none⟩) hltp).trans y3, hb3'⟩ (fun hS => ?_)
  clear hK
  try simp only [List.getElem_toArray, List.getElem_cons_zero, List.getElem_cons_succ, Act.put, List.setIfInBounds_toArray, List.set_cons_zero, List.set_cons_succ]
  refine wpAnyH_take (i := 8) (v := .bool (!(s0 == 0 && s1 == 0))) rfl (by kernel_rfl) (by kernel_rfl) (by kernel_rfl) (fun _ _ _ h => absurd h.1 (by intro e; cases e)) (Or.inl ⟨by rfl, ?_⟩) hS ?_
  ·intro w' hS'
   go_simp
  try simp only [List.getElem_toArray, List.getElem_cons_zero, List.getElem_cons_succ, Act.put, List.setIfInBounds_toArray, List.set_cons_zero, List.set_cons_succ]
  refine wpAnyH_done (by kernel_rfl) ⟨rfl, ?_⟩ _
  have hB3 : Below w.heap.size w W3 := qac hbel hb3'
  have k2 := hbo2.below hb3' hlt2
  have k3 := hbo3.below hb3' hlt3
  have k4 := hbox.below hb3' hbox.lt
  have kc := k4.cell
  have kf := k4.frozen
  clear hc hf c2 c3 y1 y2 y3 hS hneq hsx2
  generalize hbv : (s0 == 0 && s1 == 0) = bv at HOK
  clear hbv
  cases bv
  ·gi_wp2_with fail
   refine ⟨((Keep.new (T := fun b => b = w.heap.size + 1 + 1) hb3').setCell (p := ⟨w.heap.size + 1 + 1, 0, none⟩) rfl _), rfl, ?_, k4.set _, hB3.setCell (by simp; omega) _⟩
   rw [List.all_append, HALL.out]
   simp [HOK.out]
  ·gi_wp2_with fail
   refine ⟨Keep.new hb3', ?_, k2, k3, k4, hB3⟩
   rw [List.all_append, HALL.out]
   simp [HOK.out]
 case done =>
  rintro A ⟨hall, hbo2, hbo3, hbox, hbel⟩ hD
  have hc := hbox.cell
  have hf := hbox.frozen
  gi_wp2
  have hD' : (A.setCell ⟨w.heap.size + 1 + 1, 0, none⟩ (.bool true)).heap[W.heap.size]? = some (.deferred (some [])) := (Below.heap_setCell _ _ _ _ (by simp; omega)).trans hD
  have hb2 := ((hbox.set (.bool true)).put W.heap.size (.deferred none) (by omega)).cell
  refine ⟨by simp, .inl ⟨_, _, rfl, run_takeDeferred hD', ?_⟩⟩
  exact ⟨.bool true, by simp [results, Tryz.results180, go_sem, hb2], qa9 hall.symm, qa8 (hbel.setCell (by simp; omega) _) _ _ (by omega)⟩
 case stop =>
  rintro c pre A hpre ⟨rfl, hv, hbox, hbel⟩ hD
  gi_wp2
  have hb2 := (hbox.put W.heap.size (.deferred none) (by omega)).cell
  refine ⟨by simp, .inl ⟨_, _, rfl, run_takeDeferred hD, ?_⟩⟩
  refine ⟨.bool false, by simp [results, Tryz.results180, go_sem, hb2], qa9 ?_, qa8 hbel _ _ (by omega)⟩
  symm
  rw [List.all_eq_false] at hv ⊢
  obtain ⟨y, hy, hy2⟩ := hv
  exact ⟨y, hpre.subset hy, hy2⟩
end Go.Proofs.YtphclnolomgjoaaGreatDoor
namespace Go.Proofs.YtphclnolomgjoaaGreatDoor
open Go.RowKit
theorem qe0 {k a : List Bs} (hk : qbn k = true) (ha : qbn a = true) : inB (joinB k) (joinB a) = a.isPrefixOf k := by
 rw [Bool.eq_iff_iff, qqv hk ha, List.isPrefixOf_iff_prefix]
theorem qi7 (k : List Bs) (hk : qbn k = true) : ∀ l : List Node, (∀ n ∈ l, qbn n.key = true /\ (n.leaf = false -> n.n0 = 0 /\ n.n1 = 0)) ->
  es0 (qaf (l.map Node.ent) (joinB k)) = sum0 (under l k) /\ es1 (qaf (l.map Node.ent) (joinB k)) = sum1 (under l k)
 | [], _ => ⟨rfl, rfl⟩
 | n :: l, h => by
  obtain ⟨i0, i1⟩ := qi7 k hk l (fun m hm => h m (by simp [hm]))
  obtain ⟨h1, h2⟩ := h n (by simp)
  have hp := qe0 h1 hk
  unfold qaf under es0 es1 sum0 sum1 at *
  rw [List.map_cons, List.filter_cons, List.filter_cons]
  have e1 : (Node.ent n).leaf = n.leaf := rfl
  have e2 : (Node.ent n).key = n.key := rfl
  rw [e1, e2, hp]
  cases hl : n.leaf
  ·obtain ⟨z0, z1⟩ := h2 hl
   cases k.isPrefixOf n.key
   ·simpa using ⟨i0, i1⟩
   ·simp only [Bool.false_and, Bool.false_eq_true, if_false, if_true, List.map_cons, List.sum_cons, z0, z1, Int.zero_add]; exact ⟨i0, i1⟩
  ·cases k.isPrefixOf n.key
   ·simpa using ⟨i0, i1⟩
   ·simp only [Bool.and_self, if_true, List.map_cons, List.sum_cons]
    exact ⟨by rw [i0]; rfl, by rw [i1]; rfl⟩
theorem Tree.ents {nodes : List Node} (T : Tree nodes) : Ents (nodes.map Node.ent) := by
 refine ⟨fun e he => ?_, fun e he => ?_, by simpa using T.len, ?_⟩
 ·obtain ⟨n, hn, rfl⟩ := List.mem_map.1 he; exact T.ok n hn
 ·obtain ⟨n, hn, rfl⟩ := List.mem_map.1 he; exact ⟨(T.num n hn).1, (T.num n hn).2.1⟩
 ·obtain ⟨r, h0, _⟩ := T.root
  have := (List.getElem?_eq_some_iff.1 h0).1
  simpa using this
theorem Tree.einj {nodes : List Node} (T : Tree nodes) : ∀ a ∈ nodes.map Node.ent, ∀ b ∈ nodes.map Node.ent, a.key = b.key -> a = b := by
 intro a ha b hb e
 obtain ⟨n, hn, rfl⟩ := List.mem_map.1 ha
 obtain ⟨m, hm, rfl⟩ := List.mem_map.1 hb
 rw [T.inj n hn m hm e]
structure Rel (nodes : List Node) (Ws : List Wk) (ws as_ : List Pw) : Prop where
 w : ws.map (·.x) = Ws.filter (fun x => x.st == 0)
 a : ∃ az : List Wk, as_.map (·.x) = az.map (·.adm 0) /\ az.Perm (Ws.filter fun x => decide (0 < x.st)) /\ az.Pairwise (fun x y => x.st < y.st)
 leaf : ∀ p ∈ ws ++ as_, ∃ n ∈ nodes, n.blk = p.q /\ n.key = p.x.key
theorem qvz (l : List Wk) : ws0 (l.map (·.adm 0)) = ws0 l := by
 unfold ws0; rw [List.map_map]; rfl
theorem qvl (l : List Wk) : ws1 (l.map (·.adm 0)) = ws1 l := by
 unfold ws1; rw [List.map_map]; rfl
theorem Rel.qt0 {nodes : List Node} {Ws : List Wk} {ws as_ : List Pw} (R : Rel nodes Ws ws as_) (hW : Wks Ws) {k : List Bs} (hk : qbn k = true) : ∃ l : List Wk, pun as_ k = l.map (·.adm 0) /\ l.Perm (qae Ws (joinB k)) := by
 obtain ⟨az, h1, h2, _⟩ := R.a
 refine ⟨az.filter fun x => k.isPrefixOf x.key, ?_, ?_⟩
 ·unfold pun
  rw [h1, List.filter_map]
  rfl
 ·refine (h2.filter _).trans ?_
  rw [List.filter_filter]
  unfold qae
  refine List.Perm.of_eq (List.filter_congr fun x hx => ?_)
  rw [qe0 (hW.ok x hx).1 hk, Bool.and_comm]
theorem Rel.use {nodes : List Node} {Ws : List Wk} {ws as_ : List Pw} (R : Rel nodes Ws ws as_) (hW : Wks Ws) {k : List Bs} (hk : qbn k = true) : ws0 (pun as_ k) = ws0 (qae Ws (joinB k)) /\ ws1 (pun as_ k) = ws1 (qae Ws (joinB k)) := by
 obtain ⟨l, h1, h2⟩ := R.qt0 hW hk
 rw [h1, qvz, qvl]
 exact ⟨qhn h2, qhl h2⟩
theorem qb1 {nodes : List Node} (T : Tree nodes) {k : List Bs} (hk : qbn k = true) : pn0 nodes k = es0 (qaf (nodes.map Node.ent) (joinB k)) /\ pn1 nodes k = es1 (qaf (nodes.map Node.ent) (joinB k)) := by
 obtain ⟨h0, h1⟩ := qi7 k hk nodes (fun m hm => ⟨(T.ok m hm).1, (T.num m hm).2.2.2.2⟩)
 exact ⟨h0.symm, h1.symm⟩
def ownP (nodes : List Node) (l : List Pw) (x : Wk) : Bool := (abv (ws0 (pun l x.key) + x.d0) (pn0 nodes x.key) == 0) && (abv (ws1 (pun l x.key) + x.d1) (pn1 nodes x.key) == 0)
theorem qf0 (a c : Int) : (abv a c == 0) = decide (a <= c) := by
 unfold abv
 by_cases h : a <= c
 ·rw [decide_eq_true h, beq_iff_eq]; omega
 ·rw [decide_eq_false h, beq_eq_false_iff_ne]; omega
theorem Rel.own {nodes : List Node} {Ws : List Wk} {ws as_ : List Pw} (R : Rel nodes Ws ws as_) (T : Tree nodes) (hW : Wks Ws) {x : Wk} (hx : qbn x.key = true) : ownP nodes as_ x = ownW (nodes.map Node.ent) Ws x := by
 unfold ownP ownW
 rw [qf0, qf0, (R.use hW hx).1, (R.use hW hx).2, (qb1 T hx).1, (qb1 T hx).2]
theorem Rel.short {nodes : List Node} {Ws : List Wk} {ws as_ : List Pw} (R : Rel nodes Ws ws as_) (T : Tree nodes) (hW : Wks Ws) {m : Node} (hm : m ∈ nodes) (d0 d1 : Int) :
  sh0 (nodes.map Node.ent) Ws m.ent d0 = !(shq0 nodes as_ m d0 == 0) /\ sh1 (nodes.map Node.ent) Ws m.ent d1 = !(shq1 nodes as_ m d1 == 0) := by
 have hk := (T.ok m hm).1
 have e1 : m.ent.key = m.key := rfl
 have e2 : m.ent.b0 = m.b0 := rfl
 have e3 : m.ent.b1 = m.b1 := rfl
 unfold sh0 sh1 shq0 shq1
 rw [qf0, qf0, (R.use hW hk).1, (R.use hW hk).2, (qb1 T hk).1, (qb1 T hk).2, e1, e2, e3]
 constructor
 ·rw [<- decide_not]; exact decide_eq_decide.2 (by omega)
 ·rw [<- decide_not]; exact decide_eq_decide.2 (by omega)
theorem Rel.fits {nodes : List Node} {Ws : List Wk} {ws as_ : List Pw} (R : Rel nodes Ws ws as_) (T : Tree nodes) (hW : Wks Ws) {x : Wk} {n : Node} (hn : n ∈ nodes) (hk : n.key = x.key) :
  (ups nodes 4 n).all (okAt nodes as_ x) = qbm (nodes.map Node.ent) Ws x := by
 have hmem := qhy T 4 n hn (T.ok n hn).2
 have hx := (T.ok n hn).1
 rw [hk] at hx
 rw [Bool.eq_iff_iff]
 unfold qbm
 rw [List.all_eq_true, List.all_eq_true]
 have key : ∀ m ∈ nodes, (tight (nodes.map Node.ent) Ws x m.ent = (m.key.isPrefixOf x.key && !okAt nodes as_ x m)) := fun m hm => by
  unfold tight okAt
  rw [(R.short T hW hm x.d0 x.d1).1, (R.short T hW hm x.d0 x.d1).2, show m.ent.key = m.key from rfl, qe0 hx (T.ok m hm).1, Bool.not_and]
 constructor
 ·intro h e he
  obtain ⟨m, hm, rfl⟩ := List.mem_map.1 he
  rw [key m hm]
  cases hp : m.key.isPrefixOf x.key with
  | false => rfl
  | true =>
   have := h m ((hmem m).2 ⟨hm, by rw [hk]; exact List.isPrefixOf_iff_prefix.1 hp⟩)
   simp [this]
 ·intro h m hm
  obtain ⟨h1, h2⟩ := (hmem m).1 hm
  have := h m.ent (List.mem_map.2 ⟨m, h1, rfl⟩)
  rw [key m h1, List.isPrefixOf_iff_prefix.2 (by rw [<- hk]; exact h2)] at this
  simpa using this
def qgt (nodes : List Node) (l : List Pw) (x v : Wk) (m : Node) : Bool :=
 m.key.isPrefixOf v.key && !((min (min (shq0 nodes l m x.d0) (abv (ws0 (pun l v.key)) (pn0 nodes v.key))) v.d0 == 0) && (min (min (shq1 nodes l m x.d1) (abv (ws1 (pun l v.key)) (pn1 nodes v.key))) v.d1 == 0))
theorem qla {a b c : Int} (ha : 0 <= a) (hb : 0 <= b) (hc : 0 <= c) : (!(min (min a b) c == 0)) = (!(a == 0) && (!(b == 0) && decide (c > 0))) := by
 rw [Bool.eq_iff_iff]
 simp only [Bool.not_eq_true', Bool.and_eq_true, beq_eq_false_iff_ne, decide_eq_true_eq]
 omega
theorem qn1 (a c : Int) : 0 <= abv a c := by unfold abv; omega
theorem quy (a c : Int) : (!(abv a c == 0)) = decide (a > c) := by
 rw [qf0, <- decide_not]; exact decide_eq_decide.2 (by omega)
theorem Rel.way {nodes : List Node} {Ws : List Wk} {ws as_ : List Pw} (R : Rel nodes Ws ws as_) (T : Tree nodes) (hW : Wks Ws) {x v : Wk} {n : Node} (hn : n ∈ nodes) (hk : n.key = x.key) (hv : qbn v.key = true) (hd : 0 <= v.d0 /\ 0 <= v.d1) :
  (ups nodes 4 n).any (qgt nodes as_ x v) = way (nodes.map Node.ent) Ws x v := by
 have hmem := qhy T 4 n hn (T.ok n hn).2
 have hx := (T.ok n hn).1
 rw [hk] at hx
 have key : ∀ m ∈ nodes, (way0 (nodes.map Node.ent) Ws x v m.ent || way1 (nodes.map Node.ent) Ws x v m.ent) = (m.key.isPrefixOf x.key && qgt nodes as_ x v m) := fun m hm => by
  unfold way0 way1 qgt
  rw [(R.short T hW hm x.d0 x.d1).1, (R.short T hW hm x.d0 x.d1).2, show m.ent.key = m.key from rfl, qe0 hx (T.ok m hm).1, qe0 hv (T.ok m hm).1]
  rw [Bool.not_and, qla (show 0 <= shq0 nodes as_ m x.d0 from qn1 _ _) (qn1 _ _) hd.1, qla (show 0 <= shq1 nodes as_ m x.d1 from qn1 _ _) (qn1 _ _) hd.2, quy, quy, (R.use hW hv).1, (R.use hW hv).2, (qb1 T hv).1, (qb1 T hv).2]
  cases m.key.isPrefixOf x.key <;> cases m.key.isPrefixOf v.key <;> simp
 rw [Bool.eq_iff_iff]
 unfold Proofs.YtphclnolomgjoaaGreatDoor.way
 rw [List.any_eq_true, List.any_eq_true]
 constructor
 ·rintro ⟨m, hm, h⟩
  obtain ⟨h1, h2⟩ := (hmem m).1 hm
  refine ⟨m.ent, List.mem_map.2 ⟨m, h1, rfl⟩, ?_⟩
  rw [key m h1, h, List.isPrefixOf_iff_prefix.2 (by rw [<- hk]; exact h2)]
  rfl
 ·rintro ⟨e, he, h⟩
  obtain ⟨m, hm, rfl⟩ := List.mem_map.1 he
  rw [key m hm, Bool.and_eq_true] at h
  exact ⟨m, (hmem m).2 ⟨hm, by rw [hk]; exact List.isPrefixOf_iff_prefix.1 h.1⟩, h.2⟩
theorem qqa (l : List Pw) (f : Wk -> Bool) : (l.find? fun p => f p.x).map (·.x) = (l.map (·.x)).find? f := by
 induction l with
 | nil => rfl
 | cons p l ih =>
  simp only [List.map_cons, List.find?_cons]
  cases f p.x <;> simp [ih]
theorem Rel.qwt {nodes : List Node} {Ws : List Wk} {ws as_ : List Pw} (R : Rel nodes Ws ws as_) (T : Tree nodes) (hB : qa7 nodes) {n : Node} (hn : n ∈ nodes) {p : Pw} (hp : p ∈ ws ++ as_) : (p.q == n.blk) = decide (p.x.key = n.key) := by
 obtain ⟨m, hm, h1, h2⟩ := R.leaf p hp
 rw [<- h1, <- h2]
 by_cases h : m.blk = n.blk
 ·have := hB m hm n hn h
  subst this
  simp
 ·rw [beq_eq_false_iff_ne.2 h, eq_comm, decide_eq_false_iff_not]
  exact fun e => h (by rw [T.inj m hm n hn e])
theorem find_congr {α : Type} {f g : α -> Bool} : ∀ {l : List α}, (∀ x ∈ l, f x = g x) -> l.find? f = l.find? g
 | [], _ => rfl
 | a :: l, h => by
  simp only [List.find?_cons]
  rw [h a (by simp), find_congr (fun x hx => h x (by simp [hx]))]
theorem Rel.head {nodes : List Node} {Ws : List Wk} {ws as_ : List Pw} (R : Rel nodes Ws ws as_) (T : Tree nodes) (hB : qa7 nodes) {n : Node} (hn : n ∈ nodes) : (ws.find? fun p => p.q == n.blk).map (·.x) = qa0 Ws n.key := by
 rw [find_congr (g := fun p => decide (p.x.key = n.key)) (fun p hp => R.qwt T hB hn (List.mem_append_left _ hp)), qqa ws (fun x => decide (x.key = n.key)), R.w, List.find?_filter]
 unfold qa0
 refine find_congr fun y _ => ?_
 cases hs : y.st == 0 <;> simp
set_option maxHeartbeats 1000000 in
theorem qqo (a b c d e f : Int) (w : World) {sb : Nat} (hs : Blk w sb 35 #[.int .i64 c, .int .i64 d, .int .i64 e, .int .i64 f]) (h1 : 0 <= a) (h2 : a <= 100000) (h3 : 0 <= b) (h4 : b <= 100000) (h5 : 0 <= c) (h6 : c <= 100000) (h7 : 0 <= d) (h8 : d <= 100000) (g1 : 0 <= e) (g2 : e <= 100000) (g3 : 0 <= f) (g4 : f <= 100000) :
  Calls Tryz.prog 240 #[.agg #[.int .i64 a, .int .i64 b], .slice (some ⟨sb, 0, none⟩) 2 2] w fun r w' => r = .returned (.agg #[.int .i64 (min (min a c) e), .int .i64 (min (min b d) f)]) /\ Below w.heap.size w w' := by
 have c0 := hs.cell 0
 have c1 := hs.cell 1
 have c2 := hs.cell 2
 have c3 := hs.cell 3
 simp only [List.getElem?_toArray, List.getElem?_cons_zero, List.getElem?_cons_succ] at c0 c1 c2 c3
 have hlt := hs.lt
 have n1 : ¬ (sb = w.heap.size) := by omega
 have n2 : ¬ (sb = w.heap.size + 1) := by omega
 have n3 : ¬ (sb = w.heap.size + 1 + 1) := by omega
 have m1 : ¬ (w.heap.size = sb) := by omega
 have m2 : ¬ (w.heap.size + 1 = sb) := by omega
 have m3 : ¬ (w.heap.size + 1 + 1 = sb) := by omega
 have hfar : ∀ (v1 v2 : Value), ((((w.alloc (.cells #[v1, v2] 35)).alloc (.cells #[.int .i64 0, .int .i64 0] 35)).alloc (.cells #[.int .i64 c, .int .i64 d] 35)).drew.drew).cell? ⟨sb, 2, none⟩ = some (.int .i64 e) /\ ((((w.alloc (.cells #[v1, v2] 35)).alloc (.cells #[.int .i64 0, .int .i64 0] 35)).alloc (.cells #[.int .i64 c, .int .i64 d] 35)).drew.drew).cell? ⟨sb, 3, none⟩ = some (.int .i64 f) := fun v1 v2 => by
  have hB : Below w.heap.size w ((((w.alloc (.cells #[v1, v2] 35)).alloc (.cells #[.int .i64 0, .int .i64 0] 35)).alloc (.cells #[.int .i64 c, .int .i64 d] 35)).drew.drew) := by exact bel2
  exact ⟨(hB.cell (p := ⟨sb, 2, none⟩) hlt).trans c2, (hB.cell (p := ⟨sb, 3, none⟩) hlt).trans c3⟩
 have hfar2 := fun v1 v2 => (hfar v1 v2).1
 have hfar3 := fun v1 v2 => (hfar v1 v2).2
 go_enter Tryz.func240, Tryz.ntmps240
 go_wp2
 refine wp_loop_rounds 3 ?_
 rw [rounds_succ]; go_wp2
 refine wp_loop_rounds 3 ?_
 rw [rounds_succ]; go_wp2
 go_region
 all_goals go_wp2
 all_goals rw [rounds_succ]
 all_goals go_wp2
 all_goals go_region
 all_goals go_wp2
 all_goals rw [rounds_succ]
 all_goals go_wp2
 all_goals rw [rounds_succ]
 all_goals go_wp2
 all_goals refine wp_loop_rounds 3 ?_
 all_goals rw [rounds_succ]
 all_goals go_wp2
 all_goals go_region
 all_goals go_wp2
 all_goals rw [rounds_succ]
 all_goals go_wp2
 all_goals go_region
 all_goals go_wp2
 all_goals rw [rounds_succ]
 all_goals go_wp2
 all_goals rw [rounds_succ]
 all_goals go_wp2
 all_goals refine bodyPost_ret (v := .agg #[.int .i64 (min (min a c) e), .int .i64 (min (min b d) f)]) ?_ rfl ⟨rfl, by exact bel1⟩
 all_goals simp [results, Tryz.results240, go_sem]
 all_goals omega
end Go.Proofs.YtphclnolomgjoaaGreatDoor
