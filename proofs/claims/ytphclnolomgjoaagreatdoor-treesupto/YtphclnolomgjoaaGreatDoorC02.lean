import Derived.RangeFuncNested
import Derived.RangeFuncBound
import Derived.RangeFuncCalls
import Derived.RangeFuncLeaves
import Derived.Shelf.Abstract
import Derived.Shelf.RegionOpen
import Derived.WalkKit
import Derived.OwnWalkIn
import Derived.TacticsInMore
import Derived.LoopNIn
import Derived.LoopIn
import Derived.Test.YtphclnolomgjoaaGreatDoorC01
import Derived.Lib.Bytealg
set_option linter.unusedVariables false
set_option linter.unusedSimpArgs false
namespace Go.Proofs.YtphclnolomgjoaaGreatDoor
open Go.RowKit Go.Shelf
structure Keep (T : Nat -> Prop) (w w' : World) : Prop where
 os : w'.os = w.os
 tape : w'.tape = w.tape
 output : w'.output = w.output
 size : w.heap.size <= w'.heap.size
 block : ∀ k, k < w.heap.size -> ¬ T k -> w'.heap[k]? = w.heap[k]?
namespace Keep
theorem refl (T : Nat -> Prop) (w : World) : Keep T w w := ⟨rfl, rfl, rfl, Nat.le_refl _, fun _ _ _ => rfl⟩
theorem trans {T : Nat -> Prop} {a b c : World} (h : Keep T a b) (k : Keep T b c) : Keep T a c :=
 ⟨k.os.trans h.os, k.tape.trans h.tape, k.output.trans h.output, Nat.le_trans h.size k.size, fun i hi ht => (k.block i (Nat.lt_of_lt_of_le hi h.size) ht).trans (h.block i hi ht)⟩
theorem mono {T T' : Nat -> Prop} {w w' : World} (h : Keep T w w') (ht : ∀ b, T b -> T' b) : Keep T' w w' :=
 ⟨h.os, h.tape, h.output, h.size, fun k hk hn => h.block k hk (fun e => hn (ht k e))⟩
theorem qlj {T T' : Nat -> Prop} {w w' : World} (h : Keep T w w') (ht : ∀ b, b < w.heap.size -> T b -> T' b) : Keep T' w w' :=
 ⟨h.os, h.tape, h.output, h.size, fun k hk hn => h.block k hk (fun e => hn (ht k hk e))⟩
theorem drew {T : Nat -> Prop} {a w : World} (h : Keep T a w) : Keep T a w.drew := ⟨h.os, h.tape, h.output, h.size, h.block⟩
theorem drewN {T : Nat -> Prop} {a w : World} (h : Keep T a w) (n : Nat) : Keep T a (w.drewN n) := h.trans ⟨rfl, rfl, rfl, Nat.le_refl _, fun _ _ _ => rfl⟩
theorem qvt {T : Nat -> Prop} {B : Nat} {w w' : World} (h : Below B w w') (ht : ∀ b, B <= b -> b < w.heap.size -> T b) : Keep T w w' :=
 ⟨h.os, h.tape, h.output, h.size, fun k hk hn => h.block k (by
  rcases Nat.lt_or_ge k B with h1 | h1
  ·exact h1
  ·exact absurd (ht k h1 hk) hn)⟩
theorem toBelow {T : Nat -> Prop} {B : Nat} {w w' : World} (h : Keep T w w') (hB : B <= w.heap.size) (ht : ∀ b, b < B -> ¬ T b) : Below B w w' :=
 ⟨h.os, h.tape, h.output, h.size, fun k hk => h.block k (by omega) (ht k hk)⟩
theorem new {T : Nat -> Prop} {w w' : World} (h : Below w.heap.size w w') : Keep T w w' := qvt h (fun b h1 h2 => by omega)
theorem alloc {T : Nat -> Prop} {a w : World} (h : Keep T a w) (o : Obj) : Keep T a (w.alloc o) :=
 h.trans (new ((Below.refl _ _).alloc (Nat.le_refl _) _))
theorem setCell {T : Nat -> Prop} {a w : World} (h : Keep T a w) {p : Addr} (hp : T p.block) (u : Value) : Keep T a (w.setCell p u) :=
 h.trans ⟨rfl, rfl, rfl, by simp [World.setCell], fun k hk hn => Below.heap_setCell _ _ _ _ (fun e => hn (e ▸ hp))⟩
theorem putObj {T : Nat -> Prop} {a w : World} (h : Keep T a w) {l : Nat} (hp : T l) (o : Obj) : Keep T a (w.putObj l o) :=
 h.trans ⟨rfl, rfl, rfl, by simp, fun k hk hn => World.putObj_heap_other (fun e => hn (e ▸ hp))⟩
theorem grown {T : Nat -> Prop} {a w w' : World} {row : Option Nat} (h : Keep T a w) (hg : w.grownBy w' row) (hr : ∀ k, row = some k -> T k) : Keep T a w' :=
 h.trans ⟨hg.os, hg.tape, hg.output, hg.size, fun k hk hn => hg.block k hk (fun e => hn (hr k e.symm))⟩
theorem cell {T : Nat -> Prop} {w w' : World} (h : Keep T w w') {p : Addr} (hp : p.block < w.heap.size) (ht : ¬ T p.block) : w'.cell? p = w.cell? p := World.cell?_of_block (w := w) (h.block p.block hp ht)
theorem frozen {T : Nat -> Prop} {w w' : World} (h : Keep T w w') {p : Addr} (hp : p.block < w.heap.size) (ht : ¬ T p.block) : w'.frozen? p = w.frozen? p := World.frozen?_of_block (w := w) (h.block p.block hp ht)
end Keep
def Box (W : World) (b : Nat) (t : TypeId) (v : Value) : Prop := W.heap[b]? = some (.cells #[v] t (0, 0))
namespace Box
variable {W W' : World} {b : Nat} {t : TypeId} {v u : Value}
theorem lt (h : Box W b t v) : b < W.heap.size := (Array.getElem?_eq_some_iff.1 h).1
theorem cell (h : Box W b t v) : W.cell? ⟨b, 0, none⟩ = some v := by unfold World.cell?; rw [show W.heap[(⟨b, 0, none⟩ : Addr).block]? = _ from h]; rfl
theorem frozen (h : Box W b t v) : W.frozen? ⟨b, 0, none⟩ = false := by unfold World.frozen?; rw [show W.heap[(⟨b, 0, none⟩ : Addr).block]? = _ from h]; rfl
theorem keep {T : Nat -> Prop} (h : Box W b t v) (k : Keep T W W') (hT : ¬ T b) : Box W' b t v := (k.block b h.lt hT).trans h
theorem below {B : Nat} (h : Box W b t v) (k : Below B W W') (hB : b < B) : Box W' b t v := (k.block b hB).trans h
theorem alloc (h : Box W b t v) (o : Obj) : Box (W.alloc o) b t v := (Below.heap_alloc W o b h.lt).trans h
theorem other (h : Box W b t v) (p : Addr) (u : Value) (hp : b ≠ p.block) : Box (W.setCell p u) b t v := (Below.heap_setCell W p u b hp).trans h
theorem set (h : Box W b t v) (u : Value) : Box (W.setCell ⟨b, 0, none⟩ u) b t u := by
 unfold Box at *
 have hl := (Array.getElem?_eq_some_iff.1 h).1
 simp only [World.setCell]
 rw [Array.getElem?_modify, if_pos rfl, h]
 rfl
theorem new (W : World) (t : TypeId) (v : Value) : Box (W.alloc (.cells #[v] t)) W.heap.size t v := World.alloc_heap_new W _
end Box
def Blk (W : World) (b : Nat) (t : TypeId) (vs : Array Value) : Prop := W.heap[b]? = some (.cells vs t (0, 0))
namespace Blk
variable {W W' : World} {b : Nat} {t : TypeId} {vs : Array Value}
theorem lt (h : Blk W b t vs) : b < W.heap.size := (Array.getElem?_eq_some_iff.1 h).1
theorem cell (h : Blk W b t vs) (i : Nat) : W.cell? ⟨b, i, none⟩ = vs[i]? := by unfold World.cell?; rw [show W.heap[(⟨b, i, none⟩ : Addr).block]? = _ from h]; rfl
theorem frozen (h : Blk W b t vs) (i : Nat) : W.frozen? ⟨b, i, none⟩ = false := by unfold World.frozen?; rw [show W.heap[(⟨b, i, none⟩ : Addr).block]? = _ from h]; simp
theorem keep {T : Nat -> Prop} (h : Blk W b t vs) (k : Keep T W W') (hT : ¬ T b) : Blk W' b t vs := (k.block b h.lt hT).trans h
theorem below {B : Nat} (h : Blk W b t vs) (k : Below B W W') (hB : b < B) : Blk W' b t vs := (k.block b hB).trans h
theorem alloc (h : Blk W b t vs) (o : Obj) : Blk (W.alloc o) b t vs := (Below.heap_alloc W o b h.lt).trans h
theorem other (h : Blk W b t vs) (p : Addr) (u : Value) (hp : b ≠ p.block) : Blk (W.setCell p u) b t vs := (Below.heap_setCell W p u b hp).trans h
theorem put (h : Blk W b t vs) (D : Nat) (o : Obj) (hD : b ≠ D) : Blk (W.putObj D o) b t vs := (World.putObj_heap_other hD).trans h
theorem set (h : Blk W b t vs) (i : Nat) (u : Value) : Blk (W.setCell ⟨b, i, none⟩ u) b t (vs.setIfInBounds i u) := by
 unfold Blk at *
 simp only [World.setCell]
 rw [Array.getElem?_modify, if_pos rfl, h]
 rfl
theorem new (W : World) (t : TypeId) (vs : Array Value) : Blk (W.alloc (.cells vs t)) W.heap.size t vs := World.alloc_heap_new W _
theorem drew (h : Blk W b t vs) : Blk W.drew b t vs := h
theorem drewN (h : Blk W b t vs) (n : Nat) : Blk (W.drewN n) b t vs := h
end Blk
def SeqK {α : Type} (P : Program) (g : Nat) (lb : Array Value) (enc : α -> Value) (S T : Nat -> Prop) (xs : List α) (w : World) : Prop :=
 ∀ (n l : Nat) (J Jx : List α -> World -> Prop) (W : World), Below w.heap.size w W -> w.heap.size <= l ->
  (∀ s A B, J s A -> Keep S A B -> J s B) -> (∀ s A B, Jx s A -> Keep S A B -> Jx s B) ->
  (∀ m pre x W1, J pre W1 -> pre ++ [x] <+: xs -> YieldAt Fence.wide m P l #[enc x] W1 fun e W' =>
   (e = .returned (.bool true) /\ J (pre ++ [x]) W' /\ Keep T W1 W') \/ (e = .returned (.bool false) /\ Jx (pre ++ [x]) W')) ->
  J [] W ->
  CallsIn Fence.wide n P g (#[.func (.yield l) #[] #[]] ++ lb) W fun e W' => (∃ v, e = .returned v) /\ (J xs W' \/ (∃ pre, pre <+: xs /\ Jx pre W'))
def qu3 {α : Type} (T : Nat -> Prop) (I : List α -> World -> Prop) (Ix : Code -> List α -> World -> Prop) (xs : List α) (W : World) : Exit -> Act -> World -> Prop
 | .normal, _, W' => Keep T W W' /\ I xs W'
 | .ret, _, W' => Keep T W W' /\ Ix .ret xs W'
 | .exit id, _, W' => Keep T W W' /\ Ix (.exit id) xs W'
 | .goto t, _, W' => Keep T W W' /\ Ix (.goto t) xs W'
 | .panic _, _, _ => False
 | .outgrown, _, _ => False
theorem qgy {P : Program} {α : Type} {g : Operand} {ps : Array Tmp} {assign body : Code} {Q : Exit -> Act -> World -> Prop} {a : Act} {w : World} {n : Nat}
  {gf : Nat} {lb : Array Value} (hg : a.eval g = .func (.func gf) #[] lb) (eg : ∀ args w, (callFunc gf args).run P w = .ok (.enter gf args) w)
  {enc : α -> Value} {S T : Nat -> Prop} {xs : List α} {w0 : World} (hseq : SeqK P gf lb enc S (fun b => T b \/ w.heap.size <= b) xs w0) (hb0 : Below w0.heap.size w0 w) (hps : ps.size = 1)
  (hS : ∀ b, S b -> b < w.heap.size) (hT : ∀ b, T b -> b < w.heap.size)
  (I : List α -> World -> Prop) (Ix : Code -> List α -> World -> Prop)
  (hI : ∀ s A B, I s A -> Keep (fun b => S b \/ w.heap.size <= b) A B -> I s B) (hIx : ∀ c s A B, Ix c s A -> Keep (fun b => S b \/ w.heap.size <= b) A B -> Ix c s B)
  (h0 : I [] w) (a₁ : α -> Act)
  (hassign : ∀ (l : Nat) (x : α) (W : World) (K : Act -> World -> Prop), K (a₁ x) W ->
   assign.wpIn (Fence.wide.inRound l) n P (Exit.then K (fun _ _ _ => False)) { tmps := (ps.zip #[enc x]).foldl (fun t (p, v) => t.setIfInBounds p v) a.tmps, defers := [] } W)
  (hbody : ∀ (l : Nat) (pre : List α) (x : α) (W : World), I pre W -> w.heap.size <= W.heap.size -> pre ++ [x] <+: xs -> body.wpIn (Fence.wide.inRound l) n P (qu3 T I Ix (pre ++ [x]) W) (a₁ x) W)
  (hdone : ∀ (W : World), I xs W -> W.heap[w.heap.size]? = some (.deferred (some [])) -> Q .normal { a with defers := { target := .collected w.heap.size, args := #[] } :: a.defers } W)
  (hstop : ∀ (c : Code) (pre : List α) (W : World), pre <+: xs -> Ix c pre W -> W.heap[w.heap.size]? = some (.deferred (some [])) -> c.wpIn Fence.wide n P Q { a with defers := { target := .collected w.heap.size, args := #[] } :: a.defers } W) :
  (Code.rangeFunc g ps assign body).wpIn Fence.wide n P Q a w := by
 have hn1 : ∀ m, Fence.wide.depth.isSome = true -> 1 <= m := fun m h => by simp [Fence.wide] at h
 refine wpIn_rangeFunc fun fn _ => ?_
 obtain ⟨rc, hrc⟩ : ∃ rc : LoopState -> Option Code -> Loop, rc = fun st pe => { state := st, pending := pe, fn, tmps := a.tmps, params := ps, assign, body, defers := w.heap.size } := ⟨_, rfl⟩
 obtain ⟨W1, hW1⟩ : ∃ W1, (w.alloc (.deferred (some []))).alloc (.loop (rc .ready none)) = W1 := ⟨_, rfl⟩
 have hL1 : W1.heap[w.heap.size + 1]? = some (.loop (rc .ready none)) := by
  rw [<- hW1]; have := World.alloc_heap_new (w.alloc (.deferred (some []))) (.loop (rc .ready none)); rwa [World.size_alloc] at this
 have hK1 : W1.heap[w.heap.size]? = some (.deferred (some [])) := by
  rw [<- hW1]; exact (Below.heap_alloc _ _ _ (by simp)).trans (World.alloc_heap_new w _)
 have hbw : Below w.heap.size w W1 := by rw [<- hW1]; exact ((Below.refl _ w).alloc (Nat.le_refl _) _).alloc (by simp) _
 have hI1 : I [] W1 := hI _ _ _ h0 (Keep.new hbw)
 have hb1 : Below w0.heap.size w0 W1 := hb0.trans (hbw.mono hb0.size)
 have keepS : ∀ {A B : World} {k : Nat} {o : Obj}, Keep S A B -> w.heap.size <= k -> A.heap[k]? = some o -> B.heap[k]? = some o := fun {A B k o} hk hle ho => by
  rw [hk.block k (Array.getElem?_eq_some_iff.1 ho).1 (fun hs => by have := hS k hs; omega)]; exact ho
 refine ⟨w.heap.size + 1, [{ target := .collected w.heap.size, args := #[] }], W1, { target := .fn (.func gf) lb, args := #[.func (.yield (w.heap.size + 1)) #[] #[]] }, W1, gf,
  #[.func (.yield (w.heap.size + 1)) #[] #[]] ++ lb, W1, ?_, ?_, ?_, ?_, hn1 _, ?_⟩
 ·rw [<- hW1, hrc]; exact run_enterLoop_outer _ _ _ _ _
 ·simp only [resolve, hg]; simp [go_sem]
 ·intro f' _; trivial
 ·simp [invoke, go_sem, eg]
 refine (hseq (n - 1) (w.heap.size + 1)
  (fun pre W => I pre W /\ W.heap[w.heap.size + 1]? = some (.loop (rc .ready none)) /\ W.heap[w.heap.size]? = some (.deferred (some [])))
  (fun pre W => ∃ c, Ix c pre W /\ W.heap[w.heap.size + 1]? = some (.loop (rc .done (some c))) /\ W.heap[w.heap.size]? = some (.deferred (some [])))
  W1 hb1 (by have := hb0.size; omega)
  (fun s A B hs hk => ⟨hI s A B hs.1 (hk.mono fun b h => .inl h), keepS hk (by omega) hs.2.1, keepS hk (by omega) hs.2.2⟩)
  (fun s A B hs hk => by
   obtain ⟨c, h1, h2, h3⟩ := hs
   exact ⟨c, hIx c s A B h1 (hk.mono fun b h => .inl h), keepS hk (by omega) h2, keepS hk (by omega) h3⟩)
  ?_ ⟨hI1, hL1, hK1⟩).mono ?_
 ·rintro m pre x W ⟨hi, hl, hk⟩ hpre
  have hlt : w.heap.size + 1 < W.heap.size := (Array.getElem?_eq_some_iff.1 hl).1
  have hy := run_yield (P := P) (args := #[enc x]) hl (by rw [hrc]; simp [hps])
  rw [hrc] at hy
  refine ⟨fn, _, assign, body, hy, ?_⟩
  obtain ⟨Wb, hWb⟩ : ∃ Wb, W.putObj (w.heap.size + 1) (.loop { rc .ready none with state := .busy }) = Wb := ⟨_, rfl⟩
  have hkb : Keep (fun b => T b \/ w.heap.size <= b) W Wb := by rw [<- hWb]; exact (Keep.refl _ _).putObj (.inr (by omega)) _
  have hkb' : Keep (fun b => S b \/ w.heap.size <= b) W Wb := by rw [<- hWb]; exact (Keep.refl _ _).putObj (.inr (by omega)) _
  have hl2 : Wb.heap[w.heap.size + 1]? = some (.loop { rc .ready none with state := .busy }) := by rw [<- hWb]; exact World.putObj_heap_same hlt
  have hk2 : Wb.heap[w.heap.size]? = some (.deferred (some [])) := by rw [<- hWb]; exact (World.putObj_heap_other (by omega)).trans hk
  have hround : RoundIn Fence.wide n P (w.heap.size + 1) fn ((ps.zip #[enc x]).foldl (fun t (p, v) => t.setIfInBounds p v) a.tmps) assign body W fun e W' =>
    (e = .returned (.bool true) /\ (I (pre ++ [x]) W' /\ W'.heap[w.heap.size + 1]? = some (.loop (rc .ready none)) /\ W'.heap[w.heap.size]? = some (.deferred (some []))) /\ Keep (fun b => T b \/ w.heap.size <= b) W W') \/
    (e = .returned (.bool false) /\ ∃ c, Ix c (pre ++ [x]) W' /\ W'.heap[w.heap.size + 1]? = some (.loop (rc .done (some c))) /\ W'.heap[w.heap.size]? = some (.deferred (some []))) := by
   refine roundIn_of_wpIn trivial (hassign _ x W _ ⟨Wb, by rw [<- hWb]; exact run_beginRound hl (by rw [hrc]), ?_⟩)
   have hsz : w.heap.size <= Wb.heap.size := by rw [<- hWb]; simp; omega
   refine wpIn_mono (hbody _ pre x Wb (hI _ _ _ hi hkb') hsz hpre) ?_
   have fin : ∀ (jump : Option Code) (W3 : World), Keep T Wb W3 ->
     ∃ W4, (Instr.endRound (w.heap.size + 1) jump).run P W3 = .ok (.bool jump.isNone) W4 /\ Keep (fun b => S b \/ w.heap.size <= b) W3 W4 /\ Keep (fun b => T b \/ w.heap.size <= b) W W4 /\
     W4.heap[w.heap.size + 1]? = some (.loop (rc (if jump.isNone then .ready else .done) jump)) /\ W4.heap[w.heap.size]? = some (.deferred (some [])) := fun jump W3 hk3 => by
    have hl3 : W3.heap[w.heap.size + 1]? = some (.loop { rc .ready none with state := .busy }) := by
     rw [hk3.block _ (Array.getElem?_eq_some_iff.1 hl2).1 (fun ht => by have := hT _ ht; omega)]; exact hl2
    have hd3 : W3.heap[w.heap.size]? = some (.deferred (some [])) := by
     rw [hk3.block _ (Array.getElem?_eq_some_iff.1 hk2).1 (fun ht => by have := hT _ ht; omega)]; exact hk2
    have hr := run_endRound (P := P) jump hl3
    refine ⟨_, hr, (Keep.refl _ _).putObj (.inr (by omega)) _, (hkb.trans (hk3.mono fun b h => .inl h)).putObj (.inr (by omega)) _, ?_, (World.putObj_heap_other (by omega)).trans hd3⟩
    rw [World.putObj_heap_same (Array.getElem?_eq_some_iff.1 hl3).1, hrc]
   rintro e a3 W3 hp
   cases e with
   | normal =>
    obtain ⟨hk3, hi3⟩ := hp
    obtain ⟨W4, hr, hs4, ht4, hl4, hd4⟩ := fin none W3 hk3
    exact ⟨_, _, hr, .inl ⟨rfl, ⟨hI _ _ _ hi3 hs4, hl4, hd4⟩, ht4⟩⟩
   | ret =>
    obtain ⟨hk3, hi3⟩ := hp
    obtain ⟨W4, hr, hs4, ht4, hl4, hd4⟩ := fin (some .ret) W3 hk3
    exact ⟨_, _, hr, .inr ⟨rfl, .ret, hIx _ _ _ _ hi3 hs4, hl4, hd4⟩⟩
   | exit id =>
    obtain ⟨hk3, hi3⟩ := hp
    obtain ⟨W4, hr, hs4, ht4, hl4, hd4⟩ := fin (some (.exit id)) W3 hk3
    exact ⟨_, _, hr, .inr ⟨rfl, .exit id, hIx _ _ _ _ hi3 hs4, hl4, hd4⟩⟩
   | goto t =>
    obtain ⟨hk3, hi3⟩ := hp
    obtain ⟨W4, hr, hs4, ht4, hl4, hd4⟩ := fin (some (.goto t)) W3 hk3
    exact ⟨_, _, hr, .inr ⟨rfl, .goto t, hIx _ _ _ _ hi3 hs4, hl4, hd4⟩⟩
   | panic ch => exact hp.elim
   | outgrown => exact hp.elim
  exact ⟨hround.1, fun c cs _ => hround.2 c cs (room_wide _)⟩
 ·rintro e W2 ⟨⟨v, rfl⟩, (⟨hi, hl, hk⟩ | ⟨pre, hpre, c, hi, hl, hk⟩)⟩
  ·exact ⟨none, _, by have := run_endLoop (P := P) hl (by rw [hrc]; simp); rw [hrc] at this; exact this,
    hdone _ (hI _ _ _ hi ((Keep.refl _ _).putObj (.inr (by omega)) _)) ((World.putObj_heap_other (by omega)).trans hk)⟩
  ·exact ⟨some c, _, by have := run_endLoop (P := P) hl (by rw [hrc]; simp); rw [hrc] at this; exact this,
    hstop c pre _ hpre (hIx _ _ _ _ hi ((Keep.refl _ _).putObj (.inr (by omega)) _)) ((World.putObj_heap_other (by omega)).trans hk)⟩
attribute [local go_sem] Oper.semAt_some
theorem qnd (l : Bs) : (qqi l = -1 /\ ¬ qhd l) \/ ∃ k : Nat, qqi l = k /\ k < l.length /\ l = l.take k ++ 47 :: l.drop (k + 1) /\ ¬ qhd (l.take k) := by
 unfold qqi qhd
 induction l with
 | nil => left; exact ⟨rfl, by simp⟩
 | cons b l ih =>
  by_cases hb : b = 47
  ·right; subst hb; exact ⟨0, by simp [Lib.indexByte], by simp, by simp, by simp⟩
  ·rcases ih with ⟨h1, h2⟩ | ⟨k, h1, h2, h3, h4⟩
   ·left
    refine ⟨by simp [Lib.indexByte, hb, h1], by simp [h2]; exact fun e => hb e.symm⟩
   ·right
    refine ⟨k + 1, by simp [Lib.indexByte, hb, h1] <;> omega, by simp <;> omega, ?_, ?_⟩
    ·simp only [List.take_succ_cons, List.drop_succ_cons, List.cons_append]; exact congrArg _ h3
    ·simp [h4]; exact fun e => hb e.symm
def qm3 (w : World) (b : Nat) : Nat := match w.cell? ⟨b, 0, none⟩ with | some (.string r) => r.size | _ => 0
theorem qi9 {w : World} {b : Nat} {r : ByteArray} (h : w.cell? ⟨b, 0, none⟩ = some (.string r)) : qm3 w b = r.size := by simp [qm3, h]
set_option maxRecDepth 100000 in
set_option maxHeartbeats 2000000 in
theorem qo1 (s : ByteArray) (hs : s.size <= 2000000) (bP bS bV : Nat) (T : Nat -> Prop) (w : World)
  (hd : bP ≠ bS /\ bV ≠ bS) (hT : ¬ T bP /\ ¬ T bS /\ ¬ T bV)
  (hp : w.cell? ⟨bP, 0, none⟩ = some (.string ⟨#[47]⟩)) (hc : w.cell? ⟨bS, 0, none⟩ = some (.string s)) (hf : w.frozen? ⟨bS, 0, none⟩ = false) (hv : w.cell? ⟨bV, 0, none⟩ = some (.int .i64 0)) :
  SeqK Tryz.prog 224 #[.pointer (some ⟨bP, 0, none⟩), .pointer (some ⟨bS, 0, none⟩), .pointer (some ⟨bV, 0, none⟩)] (fun l => Value.string (sb l)) (fun b => b = bS) T (splitB (bl s)) w := by
 intro n l J Jx W hW hl hJ hJx hY h0
 have lp := World.block_lt_of_cell? w _ hp
 have lc := World.block_lt_of_cell? w _ hc
 have lv := World.block_lt_of_cell? w _ hv
 replace hp := (hW.cell (p := ⟨bP, 0, none⟩) lp).trans hp
 replace hc := (hW.cell (p := ⟨bS, 0, none⟩) lc).trans hc
 replace hf := (hW.frozen (p := ⟨bS, 0, none⟩) lc).trans hf
 replace hv := (hW.cell (p := ⟨bV, 0, none⟩) lv).trans hv
 have hdd : ∀ k : Nat, Fence.wide.depth.isSome = true -> 1 <= k := fun k h => by simp [Fence.wide] at h
 have hzz : (⟨#[47]⟩ : ByteArray).size = 1 := rfl
 refine callsIn_of_wp Tryz.func224 rfl trivial ?_ rfl
 simp only [Tryz.ntmps224, List.size_toArray, List.length_cons, List.length_nil, Nat.reduceAdd, Nat.reduceSub, Array.replicate_succ, Array.replicate_zero, List.push_toArray, List.append_toArray, List.nil_append, List.cons_append]
 gi_wp2
 gi_loopw [7] (fun _ wr => ∃ (pre : List Bs) (r : ByteArray), splitB (bl s) = pre ++ splitB (bl r) /\ r.size <= 2000000 /\ J pre wr /\ wr.cell? ⟨bS, 0, none⟩ = some (.string r) /\ wr.frozen? ⟨bS, 0, none⟩ = false /\ wr.cell? ⟨bP, 0, none⟩ = some (.string ⟨#[47]⟩) /\ wr.cell? ⟨bV, 0, none⟩ = some (.int .i64 0))
  (fun _ wr => qm3 wr bS)
 case atStart => exact ⟨[], s, rfl, hs, h0, hc, hf, hp, hv⟩
 case round =>
  clear hp hc hf hv
  obtain ⟨pre, r, hx, hrs, hJs, hc, hf, hp, hv⟩ := hrel
  have HX : Hid (splitB (bl s) = pre ++ splitB (bl r)) := hx
  clear hx
  rcases qnd (bl r) with ⟨hi, hno⟩ | ⟨k, hi, hk, he, hno⟩
  ·have HI : Hid (splitB (bl r) = [bl r]) := qcp _ hno
   obtain ⟨fn, tmps, assign, body, hy, hR⟩ := hY (n - 1) pre (bl r) wr hJs (by rw [HX.out, HI.out]; exact List.prefix_refl _)
   rw [qp4] at hy
   gi_wp2_with (first
    | (refine ⟨trivial, hdd _, ?_⟩; gi_at_call 219; refine (callsIn_wide.2 (qlx _ _)).mono ?_; rw [hi]; rintro e w' ⟨rfl, rfl⟩)
    | (refine ⟨hdd _, ?_⟩; refine hR.mono ?_; clear hR; rintro e W2 (⟨rfl, hJ2, hb2⟩ | ⟨rfl, hx2⟩)))
   ·go_end0
    exact ⟨⟨_, rfl⟩, .inl (by rw [HX.out, HI.out]; exact hJ2)⟩
   ·go_end0
    exact ⟨⟨_, rfl⟩, .inr ⟨_, by rw [HX.out, HI.out]; exact List.prefix_refl _, hx2⟩⟩
  ·rw [qb4] at hk
   have HI : Hid (splitB (bl r) = (bl r).take k :: splitB ((bl r).drop (k + 1))) := by
    have h1 := qca ((bl r).take k) ((bl r).drop (k + 1))
    rw [qcp _ hno, <- he] at h1; exact h1
   obtain ⟨fn, tmps, assign, body, hy, hR⟩ := hY (n - 1) pre ((bl r).take k) wr hJs (by rw [HX.out, HI.out]; exact ⟨splitB ((bl r).drop (k + 1)), by simp⟩)
   have e1 : sb ((bl r).take k) = r.extract 0 k := qer (by rw [qbi, qcq]; simp)
   have e2 : bl (r.extract (k + 1) r.size) = (bl r).drop (k + 1) := by
    rw [qcq]; exact List.take_of_length_le (by rw [List.length_drop, qb4]; omega)
   have HE2 : Hid (bl (r.extract (k + 1) r.size) = (bl r).drop (k + 1)) := e2
   rw [e1] at hy
   clear e1 e2
   have HE : Hid (bl r = List.take k (bl r) ++ 47 :: List.drop (k + 1) (bl r)) := he
   clear he
   have hk1 : (k : Int) + 1 <= r.size := by omega
   have hR2 := hR.mono (R' := fun e W' => (e = .returned (.bool true) /\ J (pre ++ [(bl r).take k]) W' /\ W'.cell? ⟨bS, 0, none⟩ = some (.string r) /\ W'.frozen? ⟨bS, 0, none⟩ = false /\ W'.cell? ⟨bP, 0, none⟩ = some (.string ⟨#[47]⟩) /\ W'.cell? ⟨bV, 0, none⟩ = some (.int .i64 0)) \/ (e = .returned (.bool false) /\ Jx (pre ++ [(bl r).take k]) W'))
    (fun e W' h => h.elim (fun ⟨he, hj, hk⟩ => .inl ⟨he, hj, (hk.cell (p := ⟨bS, 0, none⟩) (World.block_lt_of_cell? _ _ hc) hT.2.1).trans hc, (hk.frozen (p := ⟨bS, 0, none⟩) (World.block_lt_of_cell? _ _ hc) hT.2.1).trans hf,
     (hk.cell (p := ⟨bP, 0, none⟩) (World.block_lt_of_cell? _ _ hp) hT.1).trans hp, (hk.cell (p := ⟨bV, 0, none⟩) (World.block_lt_of_cell? _ _ hv) hT.2.2).trans hv⟩) .inr)
   clear hR
   gi_wp2_with (first
    | (refine ⟨trivial, hdd _, ?_⟩; gi_at_call 219; refine (callsIn_wide.2 (qlx _ _)).mono ?_; rw [hi]; rintro e w' ⟨rfl, rfl⟩)
    | (refine ⟨hdd _, ?_⟩; refine hR2.mono ?_; clear hR2; rintro e W2 (⟨rfl, hJ2, hc2, hf2, hp2, hv2⟩ | ⟨rfl, hx2⟩)))
   ·go_roundw
    case rel =>
     refine ⟨pre ++ [(bl r).take k], r.extract (k + 1) r.size, by rw [HX.out, HI.out, HE2.out]; simp, by simp; omega, hJ _ _ _ hJ2 ((Keep.refl (fun b => b = bS) _).setCell (p := ⟨bS, 0, none⟩) rfl _), ?_, ?_, ?_, ?_⟩
     ·exact World.cell?_setCell_same' _ _ _ (by rw [hc2]; rfl)
     ·rw [World.frozen?_setCell]; exact hf2
     ·rw [World.cell?_setCell_other _ _ _ _ (by intro e; cases e; exact hd.1 rfl)]; exact hp2
     ·rw [World.cell?_setCell_other _ _ _ _ (by intro e; cases e; exact hd.2 rfl)]; exact hv2
    case measure =>
     rw [qi9 (World.cell?_setCell_same' _ _ _ (by rw [hc2]; rfl)), qi9 hc]
     simp; omega
   ·refine bodyPost_ret (results_none rfl _ _ _) rfl ?_
    exact ⟨⟨_, rfl⟩, .inr ⟨_, by rw [HX.out, HI.out]; exact ⟨splitB ((bl r).drop (k + 1)), by simp⟩, hx2⟩⟩
theorem qoy (T : Nat -> Prop) (w : World) : SeqK Tryz.prog 151 #[] (fun l : Bs => Value.string (sb l)) (fun _ => False) T [] w := by
 intro n l J Jx W hW hl hJ hJx hY h0
 refine callsIn_of_wp Tryz.func151 rfl trivial ?_ rfl
 simp only [Tryz.ntmps151, List.size_toArray, List.length_cons, List.length_nil, Nat.reduceAdd, Nat.reduceSub, Array.replicate_succ, Array.replicate_zero, List.push_toArray, List.append_toArray, List.nil_append, List.cons_append]
 gi_wp2
 go_end0
 exact ⟨⟨_, rfl⟩, .inl h0⟩
attribute [local go_sem] Oper.semAt_some
theorem qly (s : ByteArray) (hs : s.size <= 2000000) (w : World) :
  Calls Tryz.prog 102 #[.string s] w fun e w' => ∃ gf lb, e = .returned (.func (.func gf) #[] lb) /\ (∀ args w, (callFunc gf args).run Tryz.prog w = .ok (.enter gf args) w) /\
   Below w.heap.size w w' /\ ∀ T : Nat -> Prop, (∀ b, w.heap.size <= b -> b < w'.heap.size -> ¬ T b) ->
    ∃ S : Nat -> Prop, (∀ b, S b -> w.heap.size <= b /\ b < w'.heap.size) /\ SeqK Tryz.prog gf lb (fun l : Bs => Value.string (sb l)) S T (qaa (bl s)) w' := by
 refine (qq3 s w).mono ?_
 rintro e w' (⟨h0, rfl, rfl⟩ | ⟨h0, rfl, rfl⟩)
 ·refine ⟨151, #[], rfl, enters_of Tryz.func151 (by kernel_rfl) rfl, Below.refl _ _, fun T _ => ⟨fun _ => False, fun _ h => h.elim, ?_⟩⟩
  rw [show qaa (bl s) = [] by simp [qaa, h0]]
  exact qoy T _
 ·refine ⟨224, _, rfl, enters_of Tryz.func224 (by kernel_rfl) rfl, by (repeat (first | exact Below.refl _ _ | refine qac ?_ (by assumption) | refine Below.setCell ?_ (by first | omega | (simp <;> omega)) _ | refine Below.alloc ?_ (by first | omega | (simp <;> omega)) _ | refine Below.drew ?_ | refine below_drewN ?_ _)), fun T hT => ⟨fun b => b = w.heap.size, fun b h => by subst h; exact ⟨Nat.le_refl _, by simp; omega⟩, ?_⟩⟩
  rw [show qaa (bl s) = splitB (bl s) by simp [qaa, h0]]
  refine qo1 s hs _ _ _ T _ (by omega) ⟨hT _ (by omega) (by simp <;> omega), hT _ (by omega) (by simp <;> omega), hT _ (by omega) (by simp <;> omega)⟩ ?_ ?_ ?_ ?_
  all_goals simp [go_sem]
theorem Box.put {W : World} {b : Nat} {t : TypeId} {v : Value} (h : Box W b t v) (D : Nat) (o : Obj) (hD : b ≠ D) : Box (W.putObj D o) b t v := (World.putObj_heap_other hD).trans h
theorem qa8 {B : Nat} {w A : World} (h : Below B w A) (D : Nat) (o : Obj) (hD : B <= D) : Below B w (A.putObj D o) :=
 h.trans ⟨rfl, rfl, rfl, by simp, fun k hk => World.putObj_heap_other (by omega)⟩
set_option maxRecDepth 100000 in
set_option maxHeartbeats 2000000 in
theorem qh2 (s : ByteArray) (hs : s.size <= 2000000) (w : World) :
  Calls Tryz.prog 62 #[.string s] w fun e w' => e = .returned (.bool (qar (bl s))) /\ Below w.heap.size w w' := by
 have hdd : ∀ k : Nat, Fence.wide.depth.isSome = true -> 1 <= k := fun k h => by simp [Fence.wide] at h
 refine (callsIn_wide (n := 3)).1 ?_
 refine callsIn_of_wp_marks Tryz.func62 rfl trivial ?_ rfl
 simp only [Tryz.ntmps62, List.size_toArray, List.length_cons, List.length_nil, Nat.reduceAdd, Nat.reduceSub, Array.replicate_succ, Array.replicate_zero, List.push_toArray, List.append_toArray, List.nil_append, List.cons_append]
 gi_wp2_with ((first | refine ⟨trivial, hdd _, ?_⟩ | refine ⟨trivial, ?_⟩); gi_at_call 102; refine (callsIn_wide.2 (qly s hs _)).mono ?_; rintro e W ⟨gf, lb, rfl, eg, hb, hseq⟩)
 obtain ⟨S, hS, hq⟩ := hseq (fun b => b = w.heap.size \/ W.heap.size <= b) (fun b h1 h2 h => by simp at h1; omega)
 have hbx : Box W w.heap.size 4 (.bool false) := (Box.new w 4 _).below hb (by simp)
 have hbw : Below w.heap.size w W := qac ((Below.refl _ _).alloc (Nat.le_refl _) _) hb
 clear hseq
 have hnS : ∀ b, b <= w.heap.size -> ¬ (S b \/ W.heap.size <= b) := fun b hb' h => by
  have h2 := hbx.lt
  rcases h with h | h
  ·have h1 := (hS _ h).1; simp at h1; omega
  ·omega
 refine qgy (T := fun b => b = w.heap.size) rfl eg hq (Below.refl _ _) rfl (fun b h => (hS b h).2) (fun b h => h ▸ hbx.lt)
  (fun pre A => pre.all qbd = true /\ Box A w.heap.size 4 (.bool false) /\ Below w.heap.size w A)
  (fun c pre A => c = .ret /\ qar (bl s) = false /\ Box A w.heap.size 4 (.bool false) /\ Below w.heap.size w A)
  (fun pre A B hs hk => ⟨hs.1, hs.2.1.keep hk (hnS _ (Nat.le_refl _)), hs.2.2.trans (hk.toBelow hs.2.2.size (fun b hb' => hnS b (by omega)))⟩)
  (fun c pre A B hs hk => ⟨hs.1, hs.2.1, hs.2.2.1.keep hk (hnS _ (Nat.le_refl _)), hs.2.2.2.trans (hk.toBelow hs.2.2.2.size (fun b hb' => hnS b (by omega)))⟩)
  ⟨rfl, hbx, hbw⟩
  (fun x => { tmps := #[.string s, undef, .pointer (some ⟨w.heap.size, 0, none⟩), .string (sb x), .string s, .func (.func gf) #[] lb, .string (sb x), undef, undef, undef], defers := [] }) ?assign ?body ?done ?stop
 case assign =>
  intro l x W K hK
  gi_wp2
  exact hK
 case body =>
  rintro l pre x W2 ⟨hall, hbox, hbel⟩ hsz hpre
  have hmem : x ∈ qaa (bl s) := hpre.subset (by simp)
  have hxl : (sb x).size <= maxLen := by
   rw [qd3]; have := qix _ _ hmem; rw [qb4] at this; unfold maxLen; omega
  have hv := qkm (sb x)
  rw [qbi] at hv
  have hc := hbox.cell
  have hf := hbox.frozen
  cases hok : qbd x
  ·rw [hok] at hv
   gi_wp2_with ((first | refine ⟨trivial, hdd _, ?_⟩ | refine ⟨trivial, ?_⟩); gi_at_call 103; refine (CallsIn.inRound l (callsIn_wide.2 (hv _ hxl))).mono ?_; rintro e w' ⟨rfl, rfl⟩)
   refine ⟨(Keep.refl (fun b => b = w.heap.size) _).setCell (p := ⟨w.heap.size, 0, none⟩) rfl _, rfl, ?_, hbox.set _, hbel.setCell (Nat.le_refl _) _⟩
   rw [qar, List.all_eq_false]; exact ⟨x, hmem, by simp [hok]⟩
  ·rw [hok] at hv
   gi_wp2_with ((first | refine ⟨trivial, hdd _, ?_⟩ | refine ⟨trivial, ?_⟩); gi_at_call 103; refine (CallsIn.inRound l (callsIn_wide.2 (hv _ hxl))).mono ?_; rintro e w' ⟨rfl, rfl⟩)
   exact ⟨Keep.refl _ _, by simp [hall, hok], hbox, hbel⟩
 case done =>
  rintro A ⟨hall, hbox, hbel⟩ hD
  have hc := hbox.cell
  have hf := hbox.frozen
  gi_wp2
  have hlt := hbx.lt
  have hD' : (A.setCell ⟨w.heap.size, 0, none⟩ (.bool true)).heap[W.heap.size]? = some (.deferred (some [])) := (Below.heap_setCell _ _ _ _ (by simp; omega)).trans hD
  have hb2 := ((hbox.set (.bool true)).put W.heap.size (.deferred none) (by omega)).cell
  refine ⟨by simp, .inl ⟨_, _, rfl, run_takeDeferred hD', ?_⟩⟩
  refine ⟨.bool true, by simp [results, Tryz.results159, go_sem, hb2], qa9 (by rw [qar]; exact hall.symm), qa8 (hbel.setCell (Nat.le_refl _) _) _ _ (by omega)⟩
 case stop =>
  rintro c pre A hpre ⟨rfl, hv, hbox, hbel⟩ hD
  gi_wp2
  have hlt := hbx.lt
  have hb2 := (hbox.put W.heap.size (.deferred none) (by omega)).cell
  refine ⟨by simp, .inl ⟨_, _, rfl, run_takeDeferred hD, ?_⟩⟩
  refine ⟨.bool false, by simp [results, Tryz.results159, go_sem, hb2], qa9 hv.symm, qa8 hbel _ _ (by omega)⟩
end Go.Proofs.YtphclnolomgjoaaGreatDoor
namespace Go.Proofs.YtphclnolomgjoaaGreatDoor
open Go
theorem qf9 (a b : UInt8) (asq bs : Bs) : Lib.compareBytes (a :: asq) (b :: bs) = if a < b then -1 else if b < a then 1 else Lib.compareBytes asq bs := by
 simp [Lib.compareBytes]
theorem qei : ∀ a : Bs, Lib.compareBytes a a = 0
 | [] => rfl
 | a :: asq => by rw [qf9]; simp [qei asq]
theorem qkl : ∀ a b : Bs, Lib.compareBytes a b = 0 -> a = b
 | [], [], _ => rfl
 | [], _ :: _, h => by simp [Lib.compareBytes] at h
 | _ :: _, [], h => by simp [Lib.compareBytes] at h
 | a :: asq, b :: bs, h => by
  rw [qf9] at h
  by_cases h1 : a < b
  ·simp [h1] at h
  ·by_cases h2 : b < a
   ·simp [h1, h2] at h
   ·simp only [h1, h2, if_false] at h
    have : a = b := UInt8.le_antisymm (UInt8.not_lt.1 h2) (UInt8.not_lt.1 h1)
    rw [this, qkl asq bs h]
theorem qrv : ∀ a b : Bs, Lib.compareBytes a b = - Lib.compareBytes b a
 | [], [] => rfl
 | [], _ :: _ => rfl
 | _ :: _, [] => rfl
 | a :: asq, b :: bs => by
  rw [qf9, qf9]
  by_cases h1 : a < b
  ·have h2 : ¬ b < a := UInt8.not_lt.2 (UInt8.le_of_lt h1)
   simp [h1, h2]
  ·by_cases h2 : b < a
   ·simp [h1, h2]
   ·simp only [h1, h2, if_false]; exact qrv asq bs
theorem qim : ∀ a b c : Bs, Lib.compareBytes a b < 0 -> Lib.compareBytes b c < 0 -> Lib.compareBytes a c < 0
 | [], [], _, h, _ => by simp [Lib.compareBytes] at h
 | [], b :: bs, [], _, h => by simp [Lib.compareBytes] at h
 | [], b :: bs, c :: cs, _, _ => by simp [Lib.compareBytes]
 | a :: asq, [], _, h, _ => by simp [Lib.compareBytes] at h
 | a :: asq, b :: bs, [], _, h => by simp [Lib.compareBytes] at h
 | a :: asq, b :: bs, c :: cs, h1, h2 => by
  rw [qf9] at h1 h2 ⊢
  by_cases ab : a < b
  ·by_cases bc : b < c
   ·simp [UInt8.lt_trans ab bc]
   ·by_cases cb : c < b
    ·simp [bc, cb] at h2
    ·have : b = c := UInt8.le_antisymm (UInt8.not_lt.1 cb) (UInt8.not_lt.1 bc)
     subst this; simp [ab]
  ·by_cases ba : b < a
   ·simp [ab, ba] at h1
   ·have : a = b := UInt8.le_antisymm (UInt8.not_lt.1 ba) (UInt8.not_lt.1 ab)
    subst this
    simp only [ab, if_false] at h1
    by_cases bc : a < c
    ·simp [bc]
    ·by_cases cb : c < a
     ·simp [bc, cb] at h2
     ·simp only [bc, cb, if_false] at h2 ⊢
      exact qim asq bs cs h1 h2
end Go.Proofs.YtphclnolomgjoaaGreatDoor
namespace Go.Proofs.YtphclnolomgjoaaGreatDoor
open Go.RowKit
set_option maxHeartbeats 400000 in
theorem qjz (b : Nat) (nm x : ByteArray) (w : World) (h : w.cell? ⟨b, 0, none⟩ = some (.string nm)) :
  Calls Tryz.prog 154 #[.pointer (some ⟨b, 0, none⟩), .string x] w fun e w' => e = .returned (.int .i64 (cmpB (bl nm) (bl x))) /\ w' = w := by
 go_enter Tryz.func154, Tryz.ntmps154
 go_wp2_with (go_at_call 155; refine (qmw _ _ _).mono ?_; rintro e w1 ⟨rfl, rfl⟩)
 go_ret
 exact ⟨rfl, rfl⟩
def Found (ns : List Bs) (x : Bs) (at_ : Nat) (there : Bool) : Prop :=
 at_ <= ns.length /\ (∀ (j : Nat) (n : Bs), j < at_ -> ns[j]? = some n -> cmpB n x < 0) /\ (∀ (j : Nat) (n : Bs), at_ <= j -> ns[j]? = some n -> 0 <= cmpB n x) /\ (there = true ↔ ns[at_]? = some x)
theorem qrj (x : Bs) : Found [] x 0 false := ⟨Nat.le_refl _, by simp, by simp, by simp⟩
set_option maxHeartbeats 400000 in
theorem qmy (x : ByteArray) (w : World) :
  Calls Tryz.prog 153 #[.slice none 0 0, .string x, .func (.func 154) #[] #[]] w fun e w' => e = .returned (.tuple #[.int .i64 0, .bool false]) /\ w' = w := by
 go_enter Tryz.func153, Tryz.ntmps153
 go_wp2
 refine wp_loop_rounds 1 ?_
 rw [rounds_succ]
 go_wp2
 go_ret2
 exact ⟨rfl, rfl⟩
def qn0 (ns : List Bs) (x : Bs) (e : Ending) : Prop := ∃ (at_ : Nat) (th : Bool), e = .returned (.tuple #[.int .i64 at_, .bool th]) /\ Found ns x at_ th
set_option maxRecDepth 100000 in
set_option maxHeartbeats 1000000 in
theorem qni (a cap : Nat) (kb : List Nat) (ns : List Bs) (x : ByteArray) (w : World) (hl : kb.length = ns.length) (hlen : ns.length <= 1000)
  (hsort : ns.Pairwise fun a b => cmpB a b < 0)
  (hc : ∀ (j b : Nat), kb[j]? = some b -> w.cell? ⟨a, j, none⟩ = some (.pointer (some ⟨b, 0, none⟩)))
  (hn : ∀ (j b : Nat) (n : Bs), kb[j]? = some b -> ns[j]? = some n -> w.cell? ⟨b, 0, none⟩ = some (.string (sb n))) :
  Calls Tryz.prog 153 #[.slice (some ⟨a, 0, none⟩) ns.length cap, .string x, .func (.func 154) #[] #[]] w fun e w' =>
   qn0 ns (bl x) e /\ w' = w := by
 have hcall : ∀ j, j < ns.length -> ∃ b n, ns[j]? = some n /\ w.cell? ⟨a, j, none⟩ = some (.pointer (some ⟨b, 0, none⟩)) /\ w.cell? ⟨b, 0, none⟩ = some (.string (sb n)) := fun j hj => by
  have h1 : kb[j]? = some (kb[j]'(by omega)) := List.getElem?_eq_getElem _
  have h2 : ns[j]? = some (ns[j]'hj) := List.getElem?_eq_getElem _
  exact ⟨_, _, h2, hc _ _ h1, hn _ _ _ h1 h2⟩
 have mono : ∀ (i j : Nat) (n m : Bs), i < j -> ns[i]? = some n -> ns[j]? = some m -> cmpB n m < 0 := fun i j n m hij h1 h2 => by
  obtain ⟨hi, rfl⟩ := List.getElem?_eq_some_iff.1 h1
  obtain ⟨hj, rfl⟩ := List.getElem?_eq_some_iff.1 h2
  exact List.pairwise_iff_getElem.1 hsort i j hi hj hij
 clear hc hn
 obtain ⟨L, hL⟩ : ∃ L, L = ns.length := ⟨_, rfl⟩
 rw [<- hL]
 rw [<- hL] at hcall hlen
 have HL : Hid (L = ns.length) := hL
 clear hL hsort hl
 go_enter Tryz.func153, Tryz.ntmps153
 go_wp2
 go_loop [9, 10] (fun i j => ∃ p q : Nat, i = .int .i64 p /\ j = .int .i64 q /\ p <= q /\ q <= L /\ (∀ (k : Nat) (n : Bs), k < p -> ns[k]? = some n -> cmpB n (bl x) < 0) /\ (∀ (k : Nat) (n : Bs), q <= k -> ns[k]? = some n -> 0 <= cmpB n (bl x)))
  (fun i j => (intOf j - intOf i).toNat)
 case atStart => exact ⟨0, L, rfl, rfl, Nat.zero_le _, Nat.le_refl _, fun k n h => by omega, fun k n h h' => by rw [List.getElem?_eq_none (by have := HL.out; omega)] at h'; cases h'⟩
 case round =>
  obtain ⟨p, q, rfl, rfl, hpq, hqL, hlo, hhi⟩ := hrel
  have HLO : Hid (∀ (k : Nat) (n : Bs), k < p -> ns[k]? = some n -> cmpB n (bl x) < 0) := hlo
  have HHI : Hid (∀ (k : Nat) (n : Bs), q <= k -> ns[k]? = some n -> 0 <= cmpB n (bl x)) := hhi
  have HMO : Hid (∀ (i j : Nat) (n m : Bs), i < j -> ns[i]? = some n -> ns[j]? = some m -> cmpB n m < 0) := mono
  clear hlo hhi mono
  by_cases hlt : p < q
  ·have hmid : (p + q) / 2 < L := by omega
   obtain ⟨b, n, hnn, hcell, hname⟩ := hcall ((p + q) / 2) hmid
   have HB : Hid (ns[(p + q) / 2]? = some n) := hnn
   clear hnn hcall
   have hc1 := qjz b (sb n) x w hname
   rw [qbi] at hc1
   by_cases hcmp : cmpB n (bl x) < 0
   ·go_wp2_with (go_at_call 154; refine hc1.mono ?_; rintro e w1 ⟨rfl, rfl⟩)
    go_round
    case rel =>
     refine ⟨(p + q) / 2 + 1, q, by go_num, rfl, by omega, hqL, fun k m hk hm => ?_, HHI.out⟩
     rcases Nat.lt_or_ge k ((p + q) / 2) with h | h
     ·exact qim _ _ _ (HMO.out _ _ _ _ h hm HB.out) hcmp
     ·obtain rfl : k = (p + q) / 2 := by omega
      have := HB.out; rw [hm] at this; cases this; exact hcmp
    case measure => simp [intOf]; omega
   ·go_wp2_with (go_at_call 154; refine hc1.mono ?_; rintro e w1 ⟨rfl, rfl⟩)
    go_round
    case rel =>
     refine ⟨p, (p + q) / 2, rfl, by go_num, by omega, by omega, HLO.out, fun k m hk hm => ?_⟩
     rcases Nat.lt_or_ge ((p + q) / 2) k with h | h
     ·have h1 := HMO.out _ _ _ _ h HB.out hm
      rcases Int.lt_or_le (cmpB m (bl x)) 0 with h2 | h2
      ·exact absurd (qim _ _ _ h1 h2) (Int.not_lt.2 hcmp)
      ·exact h2
     ·obtain rfl : k = (p + q) / 2 := by omega
      have := HB.out; rw [hm] at this; cases this; omega
    case measure => simp [intOf]; omega
  ·obtain rfl : p = q := by omega
   by_cases hpL : p < L
   ·obtain ⟨b, n, hnn, hcell, hname⟩ := hcall p hpL
    have HB : Hid (ns[p]? = some n) := hnn
    clear hnn hcall
    have hc1 := qjz b (sb n) x w hname
    rw [qbi] at hc1
    go_wp2_with (go_at_call 154; refine hc1.mono ?_; rintro e w1 ⟨rfl, rfl⟩)
    go_ret2
    refine ⟨⟨p, _, rfl, by have := HL.out; omega, HLO.out, HHI.out, ?_⟩, rfl⟩
    rw [HB.out]
    simp only [Option.some.injEq, beq_iff_eq]
    exact ⟨fun h => qkl _ _ h, fun h => by rw [h]; exact qei _⟩
   ·go_wp2
    go_ret2
    refine ⟨⟨p, false, rfl, by have := HL.out; omega, HLO.out, HHI.out, ?_⟩, rfl⟩
    rw [List.getElem?_eq_none (by have := HL.out; omega)]
    simp
set_option maxHeartbeats 400000 in
theorem qsv (bq : Nat) (a cap : Nat) (kb : List Nat) (ns : List Bs) (x : ByteArray) (w : World) (hl : kb.length = ns.length) (hlen : ns.length <= 1000)
  (hsort : ns.Pairwise fun a b => cmpB a b < 0)
  (hs : w.cell? ⟨bq, 7, none⟩ = some (.slice (some ⟨a, 0, none⟩) ns.length cap))
  (hc : ∀ (j b : Nat), kb[j]? = some b -> w.cell? ⟨a, j, none⟩ = some (.pointer (some ⟨b, 0, none⟩)))
  (hn : ∀ (j b : Nat) (n : Bs), kb[j]? = some b -> ns[j]? = some n -> w.cell? ⟨b, 0, none⟩ = some (.string (sb n))) :
  Calls Tryz.prog 104 #[.pointer (some ⟨bq, 0, none⟩), .string x] w fun e w' => qn0 ns (bl x) e /\ w' = w := by
 have h := qni a cap kb ns x w hl hlen hsort hc hn
 clear hc hn hsort
 go_enter Tryz.func104, Tryz.ntmps104
 go_wp2_with (go_at_call 153; refine h.mono ?_; rintro e w1 ⟨⟨p, th, rfl, hF⟩, rfl⟩)
 go_ret2
 exact ⟨⟨p, th, rfl, hF⟩, rfl⟩
set_option maxHeartbeats 400000 in
theorem qr6 (bq : Nat) (x : ByteArray) (w : World) (hs : w.cell? ⟨bq, 7, none⟩ = some (.slice none 0 0)) :
  Calls Tryz.prog 104 #[.pointer (some ⟨bq, 0, none⟩), .string x] w fun e w' => qn0 [] (bl x) e /\ w' = w := by
 go_enter Tryz.func104, Tryz.ntmps104
 go_wp2_with (go_at_call 153; refine (qmy x w).mono ?_; rintro e w1 ⟨rfl, rfl⟩)
 go_ret2
 exact ⟨⟨0, false, rfl, qrj _⟩, rfl⟩
end Go.Proofs.YtphclnolomgjoaaGreatDoor
