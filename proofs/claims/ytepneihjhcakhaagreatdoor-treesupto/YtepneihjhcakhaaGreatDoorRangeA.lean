import Derived.RangeFuncNested
import Derived.RangeFuncBound
import Derived.RangeFuncCalls
import Derived.RangeFuncLeaves
import Derived.Shelf.Abstract
import Derived.Shelf.RegionOpen
import Derived.WalkKit
import Derived.OwnWalkIn
import Derived.TacticsInMore
import Derived.LoopNIn
import Derived.LoopIn
set_option linter.unusedVariables false
namespace Go.Proofs.YtepneihjhcakhaaGreatDoor
open Go.RowKit Go.Shelf

/-- All blocks but those of T lie as they lay. -/
structure Keep (T : Nat → Prop) (w w' : World) : Prop where
  os : w'.os = w.os
  tape : w'.tape = w.tape
  output : w'.output = w.output
  size : w.heap.size ≤ w'.heap.size
  block : ∀ k, k < w.heap.size → ¬ T k → w'.heap[k]? = w.heap[k]?

namespace Keep
theorem refl (T : Nat → Prop) (w : World) : Keep T w w := ⟨rfl, rfl, rfl, Nat.le_refl _, fun _ _ _ => rfl⟩
theorem trans {T : Nat → Prop} {a b c : World} (h : Keep T a b) (k : Keep T b c) : Keep T a c :=
  ⟨k.os.trans h.os, k.tape.trans h.tape, k.output.trans h.output, Nat.le_trans h.size k.size, fun i hi ht => (k.block i (Nat.lt_of_lt_of_le hi h.size) ht).trans (h.block i hi ht)⟩
theorem mono {T T' : Nat → Prop} {w w' : World} (h : Keep T w w') (ht : ∀ b, T b → T' b) : Keep T' w w' :=
  ⟨h.os, h.tape, h.output, h.size, fun k hk hn => h.block k hk (fun e => hn (ht k e))⟩
theorem monoLt {T T' : Nat → Prop} {w w' : World} (h : Keep T w w') (ht : ∀ b, b < w.heap.size → T b → T' b) : Keep T' w w' :=
  ⟨h.os, h.tape, h.output, h.size, fun k hk hn => h.block k hk (fun e => hn (ht k hk e))⟩
theorem drew {T : Nat → Prop} {a w : World} (h : Keep T a w) : Keep T a w.drew := ⟨h.os, h.tape, h.output, h.size, h.block⟩
theorem drewN {T : Nat → Prop} {a w : World} (h : Keep T a w) (n : Nat) : Keep T a (w.drewN n) := h.trans ⟨rfl, rfl, rfl, Nat.le_refl _, fun _ _ _ => rfl⟩
theorem ofBelow {T : Nat → Prop} {B : Nat} {w w' : World} (h : Below B w w') (ht : ∀ b, B ≤ b → b < w.heap.size → T b) : Keep T w w' :=
  ⟨h.os, h.tape, h.output, h.size, fun k hk hn => h.block k (by
    rcases Nat.lt_or_ge k B with h1 | h1
    · exact h1
    · exact absurd (ht k h1 hk) hn)⟩
theorem toBelow {T : Nat → Prop} {B : Nat} {w w' : World} (h : Keep T w w') (hB : B ≤ w.heap.size) (ht : ∀ b, b < B → ¬ T b) : Below B w w' :=
  ⟨h.os, h.tape, h.output, h.size, fun k hk => h.block k (by omega) (ht k hk)⟩
theorem new {T : Nat → Prop} {w w' : World} (h : Below w.heap.size w w') : Keep T w w' := ofBelow h (fun b h1 h2 => by omega)
theorem alloc {T : Nat → Prop} {a w : World} (h : Keep T a w) (o : Obj) : Keep T a (w.alloc o) :=
  h.trans (new ((Below.refl _ _).alloc (Nat.le_refl _) _))
theorem setCell {T : Nat → Prop} {a w : World} (h : Keep T a w) {p : Addr} (hp : T p.block) (u : Value) : Keep T a (w.setCell p u) :=
  h.trans ⟨rfl, rfl, rfl, by simp [World.setCell], fun k hk hn => Below.heap_setCell _ _ _ _ (fun e => hn (e ▸ hp))⟩
theorem putObj {T : Nat → Prop} {a w : World} (h : Keep T a w) {l : Nat} (hp : T l) (o : Obj) : Keep T a (w.putObj l o) :=
  h.trans ⟨rfl, rfl, rfl, by simp, fun k hk hn => World.putObj_heap_other (fun e => hn (e ▸ hp))⟩
theorem grown {T : Nat → Prop} {a w w' : World} {row : Option Nat} (h : Keep T a w) (hg : w.grownBy w' row) (hr : ∀ k, row = some k → T k) : Keep T a w' :=
  h.trans ⟨hg.os, hg.tape, hg.output, hg.size, fun k hk hn => hg.block k hk (fun e => hn (hr k e.symm))⟩
theorem cell {T : Nat → Prop} {w w' : World} (h : Keep T w w') {p : Addr} (hp : p.block < w.heap.size) (ht : ¬ T p.block) : w'.cell? p = w.cell? p := World.cell?_of_block (w := w) (h.block p.block hp ht)
theorem frozen {T : Nat → Prop} {w w' : World} (h : Keep T w w') {p : Addr} (hp : p.block < w.heap.size) (ht : ¬ T p.block) : w'.frozen? p = w.frozen? p := World.frozen?_of_block (w := w) (h.block p.block hp ht)
end Keep

/-- A variable in a block of its own. -/
def Box (W : World) (b : Nat) (t : TypeId) (v : Value) : Prop := W.heap[b]? = some (.cells #[v] t (0, 0))
namespace Box
variable {W W' : World} {b : Nat} {t : TypeId} {v u : Value}
theorem lt (h : Box W b t v) : b < W.heap.size := (Array.getElem?_eq_some_iff.1 h).1
theorem cell (h : Box W b t v) : W.cell? ⟨b, 0, none⟩ = some v := by unfold World.cell?; rw [show W.heap[(⟨b, 0, none⟩ : Addr).block]? = _ from h]; rfl
theorem frozen (h : Box W b t v) : W.frozen? ⟨b, 0, none⟩ = false := by unfold World.frozen?; rw [show W.heap[(⟨b, 0, none⟩ : Addr).block]? = _ from h]; rfl
theorem keep {T : Nat → Prop} (h : Box W b t v) (k : Keep T W W') (hT : ¬ T b) : Box W' b t v := (k.block b h.lt hT).trans h
theorem below {B : Nat} (h : Box W b t v) (k : Below B W W') (hB : b < B) : Box W' b t v := (k.block b hB).trans h
theorem alloc (h : Box W b t v) (o : Obj) : Box (W.alloc o) b t v := (Below.heap_alloc W o b h.lt).trans h
theorem other (h : Box W b t v) (p : Addr) (u : Value) (hp : b ≠ p.block) : Box (W.setCell p u) b t v := (Below.heap_setCell W p u b hp).trans h
theorem set (h : Box W b t v) (u : Value) : Box (W.setCell ⟨b, 0, none⟩ u) b t u := by
  unfold Box at *
  have hl := (Array.getElem?_eq_some_iff.1 h).1
  simp only [World.setCell]
  rw [Array.getElem?_modify, if_pos rfl, h]
  rfl
theorem new (W : World) (t : TypeId) (v : Value) : Box (W.alloc (.cells #[v] t)) W.heap.size t v := World.alloc_heap_new W _
theorem drew (h : Box W b t v) : Box W.drew b t v := h
end Box

/-- A block of cells. -/
def Blk (W : World) (b : Nat) (t : TypeId) (vs : Array Value) : Prop := W.heap[b]? = some (.cells vs t (0, 0))
namespace Blk
variable {W W' : World} {b : Nat} {t : TypeId} {vs : Array Value}
theorem lt (h : Blk W b t vs) : b < W.heap.size := (Array.getElem?_eq_some_iff.1 h).1
theorem cell (h : Blk W b t vs) (i : Nat) : W.cell? ⟨b, i, none⟩ = vs[i]? := by unfold World.cell?; rw [show W.heap[(⟨b, i, none⟩ : Addr).block]? = _ from h]; rfl
theorem frozen (h : Blk W b t vs) (i : Nat) : W.frozen? ⟨b, i, none⟩ = false := by unfold World.frozen?; rw [show W.heap[(⟨b, i, none⟩ : Addr).block]? = _ from h]; simp
theorem keep {T : Nat → Prop} (h : Blk W b t vs) (k : Keep T W W') (hT : ¬ T b) : Blk W' b t vs := (k.block b h.lt hT).trans h
theorem below {B : Nat} (h : Blk W b t vs) (k : Below B W W') (hB : b < B) : Blk W' b t vs := (k.block b hB).trans h
theorem alloc (h : Blk W b t vs) (o : Obj) : Blk (W.alloc o) b t vs := (Below.heap_alloc W o b h.lt).trans h
theorem other (h : Blk W b t vs) (p : Addr) (u : Value) (hp : b ≠ p.block) : Blk (W.setCell p u) b t vs := (Below.heap_setCell W p u b hp).trans h
theorem put (h : Blk W b t vs) (D : Nat) (o : Obj) (hD : b ≠ D) : Blk (W.putObj D o) b t vs := (World.putObj_heap_other hD).trans h
theorem set (h : Blk W b t vs) (i : Nat) (u : Value) : Blk (W.setCell ⟨b, i, none⟩ u) b t (vs.setIfInBounds i u) := by
  unfold Blk at *
  simp only [World.setCell]
  rw [Array.getElem?_modify, if_pos rfl, h]
  rfl
theorem new (W : World) (t : TypeId) (vs : Array Value) : Blk (W.alloc (.cells vs t)) W.heap.size t vs := World.alloc_heap_new W _
theorem drew (h : Blk W b t vs) : Blk W.drew b t vs := h
theorem drewN (h : Blk W b t vs) (n : Nat) : Blk (W.drewN n) b t vs := h
end Blk

/-- What an iterator value does: it hands the members of xs to yield, one by one, till one round says no; it writes blocks of S alone; a round may write blocks of T alone. -/
def SeqK {α : Type} (P : Program) (g : Nat) (lb : Array Value) (enc : α → Value) (S T : Nat → Prop) (xs : List α) (w : World) : Prop :=
  ∀ (n l : Nat) (J Jx : List α → World → Prop) (W : World), Below w.heap.size w W → w.heap.size ≤ l →
    (∀ s A B, J s A → Keep S A B → J s B) → (∀ s A B, Jx s A → Keep S A B → Jx s B) →
    (∀ m pre x W1, J pre W1 → pre ++ [x] <+: xs → YieldAt Fence.wide m P l #[enc x] W1 fun e W' =>
      (e = .returned (.bool true) ∧ J (pre ++ [x]) W' ∧ Keep T W1 W') ∨ (e = .returned (.bool false) ∧ Jx (pre ++ [x]) W')) →
    J [] W →
    CallsIn Fence.wide n P g (#[.func (.yield l) #[] #[]] ++ lb) W fun e W' => (∃ v, e = .returned v) ∧ (J xs W' ∨ (∃ pre, pre <+: xs ∧ Jx pre W'))

/-- How a round of mine ends. -/
def rfPost {α : Type} (T : Nat → Prop) (I : List α → World → Prop) (Ix : Code → List α → World → Prop) (xs : List α) (W : World) : Exit → Act → World → Prop
  | .normal, _, W' => Keep T W W' ∧ I xs W'
  | .ret, _, W' => Keep T W W' ∧ Ix .ret xs W'
  | .exit id, _, W' => Keep T W W' ∧ Ix (.exit id) xs W'
  | .goto t, _, W' => Keep T W W' ∧ Ix (.goto t) xs W'
  | .panic _, _, _ => False
  | .outgrown, _, _ => False

theorem rf_law {P : Program} {α : Type} {g : Operand} {ps : Array Tmp} {assign body : Code} {Q : Exit → Act → World → Prop} {a : Act} {w : World} {n : Nat}
    {gf : Nat} {lb : Array Value} (hg : a.eval g = .func (.func gf) #[] lb) (eg : ∀ args w, (callFunc gf args).run P w = .ok (.enter gf args) w)
    {enc : α → Value} {S T : Nat → Prop} {xs : List α} {w0 : World} (hseq : SeqK P gf lb enc S (fun b => T b ∨ w.heap.size ≤ b) xs w0) (hb0 : Below w0.heap.size w0 w) (hps : ps.size = 1)
    (hS : ∀ b, S b → b < w.heap.size) (hT : ∀ b, T b → b < w.heap.size)
    (I : List α → World → Prop) (Ix : Code → List α → World → Prop)
    (hI : ∀ s A B, I s A → Keep (fun b => S b ∨ w.heap.size ≤ b) A B → I s B) (hIx : ∀ c s A B, Ix c s A → Keep (fun b => S b ∨ w.heap.size ≤ b) A B → Ix c s B)
    (h0 : I [] w) (a₁ : α → Act)
    (hassign : ∀ (l : Nat) (x : α) (W : World) (K : Act → World → Prop), K (a₁ x) W →
      assign.wpIn (Fence.wide.inRound l) n P (Exit.then K (fun _ _ _ => False)) { tmps := (ps.zip #[enc x]).foldl (fun t (p, v) => t.setIfInBounds p v) a.tmps, defers := [] } W)
    (hbody : ∀ (l : Nat) (pre : List α) (x : α) (W : World), I pre W → w.heap.size ≤ W.heap.size → pre ++ [x] <+: xs → body.wpIn (Fence.wide.inRound l) n P (rfPost T I Ix (pre ++ [x]) W) (a₁ x) W)
    (hdone : ∀ (W : World), I xs W → W.heap[w.heap.size]? = some (.deferred (some [])) → Q .normal { a with defers := { target := .collected w.heap.size, args := #[] } :: a.defers } W)
    (hstop : ∀ (c : Code) (pre : List α) (W : World), pre <+: xs → Ix c pre W → W.heap[w.heap.size]? = some (.deferred (some [])) → c.wpIn Fence.wide n P Q { a with defers := { target := .collected w.heap.size, args := #[] } :: a.defers } W) :
    (Code.rangeFunc g ps assign body).wpIn Fence.wide n P Q a w := by
  have hn1 : ∀ m, Fence.wide.depth.isSome = true → 1 ≤ m := fun m h => by simp [Fence.wide] at h
  refine wpIn_rangeFunc fun fn _ => ?_
  obtain ⟨rc, hrc⟩ : ∃ rc : LoopState → Option Code → Loop, rc = fun st pe => { state := st, pending := pe, fn, tmps := a.tmps, params := ps, assign, body, defers := w.heap.size } := ⟨_, rfl⟩
  obtain ⟨W1, hW1⟩ : ∃ W1, (w.alloc (.deferred (some []))).alloc (.loop (rc .ready none)) = W1 := ⟨_, rfl⟩
  have hL1 : W1.heap[w.heap.size + 1]? = some (.loop (rc .ready none)) := by
    rw [← hW1]; have := World.alloc_heap_new (w.alloc (.deferred (some []))) (.loop (rc .ready none)); rwa [World.size_alloc] at this
  have hK1 : W1.heap[w.heap.size]? = some (.deferred (some [])) := by
    rw [← hW1]; exact (Below.heap_alloc _ _ _ (by simp)).trans (World.alloc_heap_new w _)
  have hbw : Below w.heap.size w W1 := by rw [← hW1]; exact ((Below.refl _ w).alloc (Nat.le_refl _) _).alloc (by simp) _
  have hI1 : I [] W1 := hI _ _ _ h0 (Keep.new hbw)
  have hb1 : Below w0.heap.size w0 W1 := hb0.trans (hbw.mono hb0.size)
  have keepS : ∀ {A B : World} {k : Nat} {o : Obj}, Keep S A B → w.heap.size ≤ k → A.heap[k]? = some o → B.heap[k]? = some o := fun {A B k o} hk hle ho => by
    rw [hk.block k (Array.getElem?_eq_some_iff.1 ho).1 (fun hs => by have := hS k hs; omega)]; exact ho
  refine ⟨w.heap.size + 1, [{ target := .collected w.heap.size, args := #[] }], W1, { target := .fn (.func gf) lb, args := #[.func (.yield (w.heap.size + 1)) #[] #[]] }, W1, gf,
    #[.func (.yield (w.heap.size + 1)) #[] #[]] ++ lb, W1, ?_, ?_, ?_, ?_, hn1 _, ?_⟩
  · rw [← hW1, hrc]; exact run_enterLoop_outer _ _ _ _ _
  · simp only [resolve, hg]; simp [go_sem]
  · intro f' _; trivial
  · simp [invoke, go_sem, eg]
  refine (hseq (n - 1) (w.heap.size + 1)
    (fun pre W => I pre W ∧ W.heap[w.heap.size + 1]? = some (.loop (rc .ready none)) ∧ W.heap[w.heap.size]? = some (.deferred (some [])))
    (fun pre W => ∃ c, Ix c pre W ∧ W.heap[w.heap.size + 1]? = some (.loop (rc .done (some c))) ∧ W.heap[w.heap.size]? = some (.deferred (some [])))
    W1 hb1 (by have := hb0.size; omega)
    (fun s A B hs hk => ⟨hI s A B hs.1 (hk.mono fun b h => .inl h), keepS hk (by omega) hs.2.1, keepS hk (by omega) hs.2.2⟩)
    (fun s A B hs hk => by
      obtain ⟨c, h1, h2, h3⟩ := hs
      exact ⟨c, hIx c s A B h1 (hk.mono fun b h => .inl h), keepS hk (by omega) h2, keepS hk (by omega) h3⟩)
    ?_ ⟨hI1, hL1, hK1⟩).mono ?_
  · rintro m pre x W ⟨hi, hl, hk⟩ hpre
    have hlt : w.heap.size + 1 < W.heap.size := (Array.getElem?_eq_some_iff.1 hl).1
    have hy := run_yield (P := P) (args := #[enc x]) hl (by rw [hrc]; simp [hps])
    rw [hrc] at hy
    refine ⟨fn, _, assign, body, hy, ?_⟩
    obtain ⟨Wb, hWb⟩ : ∃ Wb, W.putObj (w.heap.size + 1) (.loop { rc .ready none with state := .busy }) = Wb := ⟨_, rfl⟩
    have hkb : Keep (fun b => T b ∨ w.heap.size ≤ b) W Wb := by rw [← hWb]; exact (Keep.refl _ _).putObj (.inr (by omega)) _
    have hkb' : Keep (fun b => S b ∨ w.heap.size ≤ b) W Wb := by rw [← hWb]; exact (Keep.refl _ _).putObj (.inr (by omega)) _
    have hl2 : Wb.heap[w.heap.size + 1]? = some (.loop { rc .ready none with state := .busy }) := by rw [← hWb]; exact World.putObj_heap_same hlt
    have hk2 : Wb.heap[w.heap.size]? = some (.deferred (some [])) := by rw [← hWb]; exact (World.putObj_heap_other (by omega)).trans hk
    have hround : RoundIn Fence.wide n P (w.heap.size + 1) fn ((ps.zip #[enc x]).foldl (fun t (p, v) => t.setIfInBounds p v) a.tmps) assign body W fun e W' =>
        (e = .returned (.bool true) ∧ (I (pre ++ [x]) W' ∧ W'.heap[w.heap.size + 1]? = some (.loop (rc .ready none)) ∧ W'.heap[w.heap.size]? = some (.deferred (some []))) ∧ Keep (fun b => T b ∨ w.heap.size ≤ b) W W') ∨
        (e = .returned (.bool false) ∧ ∃ c, Ix c (pre ++ [x]) W' ∧ W'.heap[w.heap.size + 1]? = some (.loop (rc .done (some c))) ∧ W'.heap[w.heap.size]? = some (.deferred (some []))) := by
      refine roundIn_of_wpIn trivial (hassign _ x W _ ⟨Wb, by rw [← hWb]; exact run_beginRound hl (by rw [hrc]), ?_⟩)
      have hsz : w.heap.size ≤ Wb.heap.size := by rw [← hWb]; simp; omega
      refine wpIn_mono (hbody _ pre x Wb (hI _ _ _ hi hkb') hsz hpre) ?_
      have fin : ∀ (jump : Option Code) (W3 : World), Keep T Wb W3 →
          ∃ W4, (Instr.endRound (w.heap.size + 1) jump).run P W3 = .ok (.bool jump.isNone) W4 ∧ Keep (fun b => S b ∨ w.heap.size ≤ b) W3 W4 ∧ Keep (fun b => T b ∨ w.heap.size ≤ b) W W4 ∧
          W4.heap[w.heap.size + 1]? = some (.loop (rc (if jump.isNone then .ready else .done) jump)) ∧ W4.heap[w.heap.size]? = some (.deferred (some [])) := fun jump W3 hk3 => by
        have hl3 : W3.heap[w.heap.size + 1]? = some (.loop { rc .ready none with state := .busy }) := by
          rw [hk3.block _ (Array.getElem?_eq_some_iff.1 hl2).1 (fun ht => by have := hT _ ht; omega)]; exact hl2
        have hd3 : W3.heap[w.heap.size]? = some (.deferred (some [])) := by
          rw [hk3.block _ (Array.getElem?_eq_some_iff.1 hk2).1 (fun ht => by have := hT _ ht; omega)]; exact hk2
        have hr := run_endRound (P := P) jump hl3
        refine ⟨_, hr, (Keep.refl _ _).putObj (.inr (by omega)) _, (hkb.trans (hk3.mono fun b h => .inl h)).putObj (.inr (by omega)) _, ?_, (World.putObj_heap_other (by omega)).trans hd3⟩
        rw [World.putObj_heap_same (Array.getElem?_eq_some_iff.1 hl3).1, hrc]
      rintro e a3 W3 hp
      cases e with
      | normal =>
        obtain ⟨hk3, hi3⟩ := hp
        obtain ⟨W4, hr, hs4, ht4, hl4, hd4⟩ := fin none W3 hk3
        exact ⟨_, _, hr, .inl ⟨rfl, ⟨hI _ _ _ hi3 hs4, hl4, hd4⟩, ht4⟩⟩
      | ret =>
        obtain ⟨hk3, hi3⟩ := hp
        obtain ⟨W4, hr, hs4, ht4, hl4, hd4⟩ := fin (some .ret) W3 hk3
        exact ⟨_, _, hr, .inr ⟨rfl, .ret, hIx _ _ _ _ hi3 hs4, hl4, hd4⟩⟩
      | exit id =>
        obtain ⟨hk3, hi3⟩ := hp
        obtain ⟨W4, hr, hs4, ht4, hl4, hd4⟩ := fin (some (.exit id)) W3 hk3
        exact ⟨_, _, hr, .inr ⟨rfl, .exit id, hIx _ _ _ _ hi3 hs4, hl4, hd4⟩⟩
      | goto t =>
        obtain ⟨hk3, hi3⟩ := hp
        obtain ⟨W4, hr, hs4, ht4, hl4, hd4⟩ := fin (some (.goto t)) W3 hk3
        exact ⟨_, _, hr, .inr ⟨rfl, .goto t, hIx _ _ _ _ hi3 hs4, hl4, hd4⟩⟩
      | panic ch => exact hp.elim
      | outgrown => exact hp.elim
    exact ⟨hround.1, fun c cs _ => hround.2 c cs (room_wide _)⟩
  · rintro e W2 ⟨⟨v, rfl⟩, (⟨hi, hl, hk⟩ | ⟨pre, hpre, c, hi, hl, hk⟩)⟩
    · exact ⟨none, _, by have := run_endLoop (P := P) hl (by rw [hrc]; simp); rw [hrc] at this; exact this,
        hdone _ (hI _ _ _ hi ((Keep.refl _ _).putObj (.inr (by omega)) _)) ((World.putObj_heap_other (by omega)).trans hk)⟩
    · exact ⟨some c, _, by have := run_endLoop (P := P) hl (by rw [hrc]; simp); rw [hrc] at this; exact this,
        hstop c pre _ hpre (hIx _ _ _ _ hi ((Keep.refl _ _).putObj (.inr (by omega)) _)) ((World.putObj_heap_other (by omega)).trans hk)⟩
end Go.Proofs.YtepneihjhcakhaaGreatDoor
