import Derived.Test.YtphclnolomgjoaaGreatDoorC18
import Derived.BigQuiet
import Derived.Test.YtphclnolomgjoaaGreatDoorC02
import Derived.Test.YtphclnolomgjoaaGreatDoorC06
import Derived.Sort.LoopGhostIn
import Derived.Sort.CutIn
import Derived.Stop.RegionWithIn
set_option linter.unusedVariables false
set_option linter.unusedSimpArgs false
namespace Go.Proofs.YtphclnolomgjoaaGreatDoor
open Go.RowKit
theorem qgv {W : World} {x : Pw} : (binOp .neq 95 (.pointer (some ⟨x.blk, 0, none⟩)) (.pointer none)).run Tryz.prog W = .ok (.bool true) W := by
 kernel_rfl
theorem qd8 {W : World} : (binOp .neq 95 (.pointer none) (.pointer none)).run Tryz.prog W = .ok (.bool false) W := by
 kernel_rfl
def findBk (ws as_ : List Pw) (num : Int) : Value × Bool :=
 match qc3 as_ num with
 | some p => (nptr p.blk, true)
 | none => (optP (qc3 ws num), false)
set_option maxRecDepth 100000 in
set_option maxHeartbeats 1000000 in
theorem qf5 {w : World} {bt : Nat} {r lst vw va : Value} {ws as_ : List Pw} (h : BkAt w bt r lst vw va ws as_) (num : Int) :
  Calls Tryz.prog 46 #[.pointer (some ⟨bt, 1, none⟩), .int .i64 num] w fun e w' => e = .returned (.tuple #[(findBk ws as_ num).1, .bool (findBk ws as_ num).2]) /\ w' = w := by
 have hlen := h.len
 have ha := qjq ⟨h.arow, fun q hq => h.works q (List.mem_append_right _ hq)⟩ (by omega) num
 have hw := qjq ⟨h.wrow, fun q hq => h.works q (List.mem_append_left _ hq)⟩ (by omega) num
 have c2 := h.at_.cell 2
 have c3 := h.at_.cell 3
 simp only [List.getElem?_toArray, List.getElem?_cons_zero, List.getElem?_cons_succ] at c2 c3
 have hn1 := fun W x => qgv (W := W) (x := x)
 have hn0 := fun W => qd8 (W := W)
 unfold findBk
 go_enter Tryz.func46, Tryz.ntmps46
 cases hf : qc3 as_ num with
 | some p =>
  rw [hf] at ha
  simp only [optP, nptr] at ha ⊢
  clear hf hw
  go_wp2_with fail
  refine ha.mono ?_
  rintro e w1 ⟨rfl, rfl⟩
  go_wp2_with fail
  exact bodyPost_ret (v := .tuple #[.pointer (some ⟨p.blk, 0, none⟩), .bool true]) (by simp [results, Tryz.results46, go_sem]) rfl ⟨rfl, rfl⟩
 | none =>
  rw [hf] at ha
  simp only [optP] at ha
  simp only
  generalize optP (qc3 ws num) = o at hw ⊢
  clear hf
  go_wp2_with fail
  refine ha.mono ?_
  rintro e w1 ⟨rfl, rfl⟩
  go_wp2_with fail
  refine hw.mono ?_
  rintro e w2 ⟨rfl, rfl⟩
  go_wp2_with fail
  exact bodyPost_ret (v := .tuple #[o, .bool false]) (by simp [results, Tryz.results46, go_sem]) rfl ⟨rfl, rfl⟩
set_option maxRecDepth 100000 in
set_option maxHeartbeats 1000000 in
theorem qpp {w : World} {bt : Nat} {r lst vw va : Value} {ws as_ : List Pw} (h : BkAt w bt r lst vw va ws as_) :
  Calls Tryz.prog 148 #[.pointer (some ⟨bt, 1, none⟩)] w fun e w' => e = .returned (.int .i64 (ws.length + as_.length : Nat)) /\ ∃ m, w' = w.drewN m := by
 have hlen := h.len
 obtain ⟨a1, q1, h1, l1, x1⟩ := qbe h.wrow
 obtain ⟨a2, q2, h2, l2, x2⟩ := qbe h.arow
 have c2 := h.at_.cell 2
 have c3 := h.at_.cell 3
 simp only [List.getElem?_toArray, List.getElem?_cons_zero, List.getElem?_cons_succ] at c2 c3
 rw [h1] at c2
 rw [h2] at c3
 clear h1 h2 h
 generalize ws.length = n1 at *
 generalize as_.length = n2 at *
 go_enter Tryz.func148, Tryz.ntmps148
 go_wp2_with fail
 go_quiet (fail)
 go_wp2_with fail
 go_ret
 exact ⟨by simp, _, rfl⟩
end Go.Proofs.YtphclnolomgjoaaGreatDoor
namespace Go.Proofs.YtphclnolomgjoaaGreatDoor
open Go.RowKit Go.Shelf
def SeqM {α : Type} (P : Program) (g : Nat) (lb : Array Value) (encs : α -> Array Value) (S : Nat -> Prop) (c : Nat) (T : Nat -> Prop) (xs : List α) (w : World) : Prop :=
 ∀ (n l : Nat) (J Jx : List α -> World -> Prop) (W : World), Below w.heap.size w W -> w.heap.size <= l -> l < W.heap.size ->
  (∀ s A B, J s A -> Keep (fun b => S b \/ (W.heap.size <= b /\ b < W.heap.size + c)) A B -> J s B) -> (∀ s A B, Jx s A -> Keep (fun b => S b \/ (W.heap.size <= b /\ b < W.heap.size + c)) A B -> Jx s B) ->
  (∀ m pre x W1, J pre W1 -> W.heap.size + c <= W1.heap.size -> pre ++ [x] <+: xs -> YieldAt Fence.wide m P l (encs x) W1 fun e W' =>
   (e = .returned (.bool true) /\ J (pre ++ [x]) W' /\ Keep (fun b => T b \/ b = l \/ W.heap.size + c <= b) W1 W') \/ (e = .returned (.bool false) /\ Jx (pre ++ [x]) W' /\ Keep (fun b => T b \/ b = l \/ W.heap.size + c <= b) W1 W')) ->
  J [] W ->
  CallsIn Fence.wide n P g (#[.func (.yield l) #[] #[]] ++ lb) W fun e W' => (∃ v, e = .returned v) /\ (J xs W' \/ (∃ pre, pre <+: xs /\ Jx pre W'))
theorem qss {α : Type} {P : Program} {g : Nat} {lb : Array Value} {enc : α -> Value} {S T : Nat -> Prop} {xs : List α} {w : World}
  (hk : ∀ B l, w.heap.size <= B -> w.heap.size <= l -> SeqK P g lb enc S (fun b => T b \/ b = l \/ B <= b) xs w) : SeqM P g lb (fun x => #[enc x]) S 0 T xs w := by
 intro n l J Jx W hW hl hlt hJ hJx hY h0
 refine (hk W.heap.size l hW.size hl n l (fun s A => J s A /\ W.heap.size <= A.heap.size) Jx W hW hl (fun s A B h k => ⟨hJ s A B h.1 (k.mono fun b h => .inl h), Nat.le_trans h.2 k.size⟩) (fun s A B h k => hJx s A B h (k.mono fun b h => .inl h)) ?_ ⟨h0, Nat.le_refl _⟩).mono ?_
 ·intro m pre x W1 hj hp
  refine (hY m pre x W1 hj.1 hj.2 hp).mono ?_
  rintro e W' (⟨h1, h2, h3⟩ | ⟨h1, h2, h3⟩)
  ·exact .inl ⟨h1, ⟨h2, Nat.le_trans hj.2 h3.size⟩, h3⟩
  ·exact .inr ⟨h1, h2⟩
 ·rintro e W' ⟨h1, h2⟩
  exact ⟨h1, h2.imp (fun h => h.1) id⟩
theorem qgs {P : Program} {α : Type} {g : Operand} {ps : Array Tmp} {assign body : Code} {Q : Exit -> Act -> World -> Prop} {a : Act} {w : World} {n : Nat}
  {gf : Nat} {lb : Array Value} (hg : a.eval g = .func (.func gf) #[] lb) (eg : ∀ args w, (callFunc gf args).run P w = .ok (.enter gf args) w)
  {encs : α -> Array Value} {S T : Nat -> Prop} {c : Nat} {xs : List α} {w0 : World} (hseq : SeqM P gf lb encs S c T xs w0) (hb0 : Below w0.heap.size w0 w) (hps : ∀ x, (encs x).size = ps.size)
  (hS : ∀ b, S b -> b < w.heap.size) (hT : ∀ b, T b -> b < w.heap.size)
  (I : List α -> World -> Prop) (Ix : Code -> List α -> World -> Prop)
  (hI : ∀ s A B, I s A -> Keep (fun b => S b \/ (w.heap.size <= b /\ b < w.heap.size + 2 + c)) A B -> I s B) (hIx : ∀ c' s A B, Ix c' s A -> Keep (fun b => S b \/ (w.heap.size <= b /\ b < w.heap.size + 2 + c)) A B -> Ix c' s B)
  (h0 : I [] w) (a₁ : α -> Act)
  (hassign : ∀ (l : Nat) (x : α) (W : World) (K : Act -> World -> Prop), K (a₁ x) W ->
   assign.wpIn (Fence.wide.inRound l) n P (Exit.then K (fun _ _ _ => False)) { tmps := (ps.zip (encs x)).foldl (fun t (p, v) => t.setIfInBounds p v) a.tmps, defers := [] } W)
  (hbody : ∀ (l : Nat) (pre : List α) (x : α) (W : World), I pre W -> w.heap.size + 2 + c <= W.heap.size -> pre ++ [x] <+: xs -> body.wpIn (Fence.wide.inRound l) n P (qu3 (fun b => T b \/ w.heap.size + 2 + c <= b) I Ix (pre ++ [x]) W) (a₁ x) W)
  (hdone : ∀ (W : World), I xs W -> W.heap[w.heap.size]? = some (.deferred (some [])) -> Q .normal { a with defers := { target := .collected w.heap.size, args := #[] } :: a.defers } W)
  (hstop : ∀ (c : Code) (pre : List α) (W : World), pre <+: xs -> Ix c pre W -> W.heap[w.heap.size]? = some (.deferred (some [])) -> c.wpIn Fence.wide n P Q { a with defers := { target := .collected w.heap.size, args := #[] } :: a.defers } W) :
  (Code.rangeFunc g ps assign body).wpIn Fence.wide n P Q a w := by
 have hn1 : ∀ m, Fence.wide.depth.isSome = true -> 1 <= m := fun m h => by simp [Fence.wide] at h
 refine wpIn_rangeFunc fun fn _ => ?_
 obtain ⟨rc, hrc⟩ : ∃ rc : LoopState -> Option Code -> Loop, rc = fun st pe => { state := st, pending := pe, fn, tmps := a.tmps, params := ps, assign, body, defers := w.heap.size } := ⟨_, rfl⟩
 obtain ⟨W1, hW1⟩ : ∃ W1, (w.alloc (.deferred (some []))).alloc (.loop (rc .ready none)) = W1 := ⟨_, rfl⟩
 have hL1 : W1.heap[w.heap.size + 1]? = some (.loop (rc .ready none)) := by
  rw [<- hW1]; have := World.alloc_heap_new (w.alloc (.deferred (some []))) (.loop (rc .ready none)); rwa [World.size_alloc] at this
 have hK1 : W1.heap[w.heap.size]? = some (.deferred (some [])) := by
  rw [<- hW1]; exact (Below.heap_alloc _ _ _ (by simp)).trans (World.alloc_heap_new w _)
 have hz1 : W1.heap.size = w.heap.size + 2 := by rw [<- hW1]; simp
 have hbw : Below w.heap.size w W1 := by rw [<- hW1]; exact ((Below.refl _ w).alloc (Nat.le_refl _) _).alloc (by simp) _
 have hI1 : I [] W1 := hI _ _ _ h0 (Keep.new hbw)
 have hb1 : Below w0.heap.size w0 W1 := hb0.trans (hbw.mono hb0.size)
 have keepS : ∀ {A B : World} {k : Nat} {o : Obj}, Keep (fun b => S b \/ (W1.heap.size <= b /\ b < W1.heap.size + c)) A B -> w.heap.size <= k -> k < w.heap.size + 2 -> A.heap[k]? = some o -> B.heap[k]? = some o := fun {A B k o} hk hle hlt ho => by
  rw [hk.block k (Array.getElem?_eq_some_iff.1 ho).1 (fun hs => by
   rcases hs with hs | hs
   ·have := hS k hs; omega
   ·omega)]; exact ho
 have hmS : ∀ b, S b \/ (W1.heap.size <= b /\ b < W1.heap.size + c) -> S b \/ (w.heap.size <= b /\ b < w.heap.size + 2 + c) := fun b h => h.imp id (fun h => by omega)
 refine ⟨w.heap.size + 1, [{ target := .collected w.heap.size, args := #[] }], W1, { target := .fn (.func gf) lb, args := #[.func (.yield (w.heap.size + 1)) #[] #[]] }, W1, gf,
  #[.func (.yield (w.heap.size + 1)) #[] #[]] ++ lb, W1, ?_, ?_, ?_, ?_, hn1 _, ?_⟩
 ·rw [<- hW1, hrc]; exact run_enterLoop_outer _ _ _ _ _
 ·simp only [resolve, hg]; simp [go_sem]
 ·intro f' _; trivial
 ·simp [invoke, go_sem, eg]
 refine (hseq (n - 1) (w.heap.size + 1)
  (fun pre W => I pre W /\ W.heap[w.heap.size + 1]? = some (.loop (rc .ready none)) /\ W.heap[w.heap.size]? = some (.deferred (some [])))
  (fun pre W => ∃ c, Ix c pre W /\ W.heap[w.heap.size + 1]? = some (.loop (rc .done (some c))) /\ W.heap[w.heap.size]? = some (.deferred (some [])))
  W1 hb1 (by have := hb0.size; omega) (by omega)
  (fun s A B hs hk => ⟨hI s A B hs.1 (hk.mono hmS), keepS hk (by omega) (by omega) hs.2.1, keepS hk (by omega) (by omega) hs.2.2⟩)
  (fun s A B hs hk => by
   obtain ⟨c, h1, h2, h3⟩ := hs
   exact ⟨c, hIx c s A B h1 (hk.mono hmS), keepS hk (by omega) (by omega) h2, keepS hk (by omega) (by omega) h3⟩)
  ?_ ⟨hI1, hL1, hK1⟩).mono ?_
 ·rintro m pre x W ⟨hi, hl, hk⟩ hWsz hpre
  rw [hz1] at hWsz
  have hlt : w.heap.size + 1 < W.heap.size := (Array.getElem?_eq_some_iff.1 hl).1
  have hy := run_yield (P := P) (args := (encs x)) hl (by rw [hrc]; exact hps x)
  rw [hrc] at hy
  refine ⟨fn, _, assign, body, hy, ?_⟩
  obtain ⟨Wb, hWb⟩ : ∃ Wb, W.putObj (w.heap.size + 1) (.loop { rc .ready none with state := .busy }) = Wb := ⟨_, rfl⟩
  have hkb : Keep (fun b => T b \/ b = w.heap.size + 1 \/ W1.heap.size + c <= b) W Wb := by rw [<- hWb]; exact (Keep.refl _ _).putObj (.inr (.inl rfl)) _
  have hkb' : Keep (fun b => S b \/ (w.heap.size <= b /\ b < w.heap.size + 2 + c)) W Wb := by rw [<- hWb]; exact (Keep.refl _ _).putObj (.inr (by omega)) _
  have hl2 : Wb.heap[w.heap.size + 1]? = some (.loop { rc .ready none with state := .busy }) := by rw [<- hWb]; exact World.putObj_heap_same hlt
  have hk2 : Wb.heap[w.heap.size]? = some (.deferred (some [])) := by rw [<- hWb]; exact (World.putObj_heap_other (by omega)).trans hk
  have hround : RoundIn Fence.wide n P (w.heap.size + 1) fn ((ps.zip (encs x)).foldl (fun t (p, v) => t.setIfInBounds p v) a.tmps) assign body W fun e W' =>
    (e = .returned (.bool true) /\ (I (pre ++ [x]) W' /\ W'.heap[w.heap.size + 1]? = some (.loop (rc .ready none)) /\ W'.heap[w.heap.size]? = some (.deferred (some []))) /\ Keep (fun b => T b \/ b = w.heap.size + 1 \/ W1.heap.size + c <= b) W W') \/
    (e = .returned (.bool false) /\ (∃ c, Ix c (pre ++ [x]) W' /\ W'.heap[w.heap.size + 1]? = some (.loop (rc .done (some c))) /\ W'.heap[w.heap.size]? = some (.deferred (some []))) /\ Keep (fun b => T b \/ b = w.heap.size + 1 \/ W1.heap.size + c <= b) W W') := by
   refine roundIn_of_wpIn trivial (hassign _ x W _ ⟨Wb, by rw [<- hWb]; exact run_beginRound hl (by rw [hrc]), ?_⟩)
   have hsz : w.heap.size + 2 + c <= Wb.heap.size := by rw [<- hWb]; simp; omega
   refine wpIn_mono (hbody _ pre x Wb (hI _ _ _ hi hkb') hsz hpre) ?_
   have fin : ∀ (jump : Option Code) (W3 : World), Keep (fun b => T b \/ w.heap.size + 2 + c <= b) Wb W3 ->
     ∃ W4, (Instr.endRound (w.heap.size + 1) jump).run P W3 = .ok (.bool jump.isNone) W4 /\ Keep (fun b => S b \/ (w.heap.size <= b /\ b < w.heap.size + 2 + c)) W3 W4 /\ Keep (fun b => T b \/ b = w.heap.size + 1 \/ W1.heap.size + c <= b) W W4 /\
     W4.heap[w.heap.size + 1]? = some (.loop (rc (if jump.isNone then .ready else .done) jump)) /\ W4.heap[w.heap.size]? = some (.deferred (some [])) := fun jump W3 hk3 => by
    have hl3 : W3.heap[w.heap.size + 1]? = some (.loop { rc .ready none with state := .busy }) := by
     rw [hk3.block _ (Array.getElem?_eq_some_iff.1 hl2).1 (fun ht => by
      rcases ht with ht | ht
      ·have := hT _ ht; omega
      ·omega)]; exact hl2
    have hd3 : W3.heap[w.heap.size]? = some (.deferred (some [])) := by
     rw [hk3.block _ (Array.getElem?_eq_some_iff.1 hk2).1 (fun ht => by
      rcases ht with ht | ht
      ·have := hT _ ht; omega
      ·omega)]; exact hk2
    have hr := run_endRound (P := P) jump hl3
    refine ⟨_, hr, (Keep.refl _ _).putObj (.inr (by omega)) _, (hkb.trans (hk3.mono fun b h => h.imp id (fun h => .inr (by omega)))).putObj (.inr (.inl rfl)) _, ?_, (World.putObj_heap_other (by omega)).trans hd3⟩
    rw [World.putObj_heap_same (Array.getElem?_eq_some_iff.1 hl3).1, hrc]
   rintro e a3 W3 hp
   cases e with
   | normal =>
    obtain ⟨hk3, hi3⟩ := hp
    obtain ⟨W4, hr, hs4, ht4, hl4, hd4⟩ := fin none W3 hk3
    exact ⟨_, _, hr, .inl ⟨rfl, ⟨hI _ _ _ hi3 hs4, hl4, hd4⟩, ht4⟩⟩
   | ret =>
    obtain ⟨hk3, hi3⟩ := hp
    obtain ⟨W4, hr, hs4, ht4, hl4, hd4⟩ := fin (some .ret) W3 hk3
    exact ⟨_, _, hr, .inr ⟨rfl, ⟨.ret, hIx _ _ _ _ hi3 hs4, hl4, hd4⟩, ht4⟩⟩
   | exit id =>
    obtain ⟨hk3, hi3⟩ := hp
    obtain ⟨W4, hr, hs4, ht4, hl4, hd4⟩ := fin (some (.exit id)) W3 hk3
    exact ⟨_, _, hr, .inr ⟨rfl, ⟨.exit id, hIx _ _ _ _ hi3 hs4, hl4, hd4⟩, ht4⟩⟩
   | goto t =>
    obtain ⟨hk3, hi3⟩ := hp
    obtain ⟨W4, hr, hs4, ht4, hl4, hd4⟩ := fin (some (.goto t)) W3 hk3
    exact ⟨_, _, hr, .inr ⟨rfl, ⟨.goto t, hIx _ _ _ _ hi3 hs4, hl4, hd4⟩, ht4⟩⟩
   | panic ch => exact hp.elim
   | outgrown => exact hp.elim
  exact ⟨hround.1, fun c cs _ => hround.2 c cs (room_wide _)⟩
 ·rintro e W2 ⟨⟨v, rfl⟩, (⟨hi, hl, hk⟩ | ⟨pre, hpre, c, hi, hl, hk⟩)⟩
  ·exact ⟨none, _, by have := run_endLoop (P := P) hl (by rw [hrc]; simp); rw [hrc] at this; exact this,
    hdone _ (hI _ _ _ hi ((Keep.refl _ _).putObj (.inr (by omega)) _)) ((World.putObj_heap_other (by omega)).trans hk)⟩
  ·exact ⟨some c, _, by have := run_endLoop (P := P) hl (by rw [hrc]; simp); rw [hrc] at this; exact this,
    hstop c pre _ hpre (hIx _ _ _ _ hi ((Keep.refl _ _).putObj (.inr (by omega)) _)) ((World.putObj_heap_other (by omega)).trans hk)⟩
attribute [local go_sem] Oper.semAt_some
def qa4 (l : List Pw) (b : Nat) : List Pw := l.filter fun p => p.q == b
theorem qia {l : List Pw} {b j : Nat} {p : Pw} (hj : l[j]? = some p) : qa4 (l.take (j + 1)) b = qa4 (l.take j) b ++ (if p.q == b then [p] else []) := by
 obtain ⟨hl, rfl⟩ := List.getElem?_eq_some_iff.1 hj
 unfold qa4
 rw [List.take_succ_eq_append_getElem hl, List.filter_append]
 simp [List.filter_cons]
theorem qpy {l : List Pw} {b j : Nat} {p : Pw} (hj : l[j]? = some p) (hb : (p.q == b) = true) : qa4 (l.take j) b ++ [p] <+: qa4 l b := by
 have h := qia (b := b) hj
 rw [if_pos hb] at h
 rw [<- h]
 unfold qa4
 exact List.IsPrefix.filter _ (List.take_prefix _ _)
set_option maxRecDepth 100000 in
set_option maxHeartbeats 2000000 in
theorem qn4 {nodes : List Node} {w : World} (hN : ∀ n ∈ nodes, qan w n) {bt : Nat} {vw : Value} {ws : List Pw} (hc : w.cell? ⟨bt, 2, none⟩ = some vw) (hW : WRow w vw ws) (hlen : ws.length <= 100) (hlf : ∀ p ∈ ws, ∃ n ∈ nodes, n.blk = p.q) {m : Node} (hm : m ∈ nodes) :
  Calls Tryz.prog 156 #[.pointer (some ⟨bt, 1, none⟩), nptr m.blk] w fun e w' => e = .returned (.func (.func 198) #[] #[.pointer (some ⟨w.heap.size, 0, none⟩), .pointer (some ⟨w.heap.size + 1, 0, none⟩)]) /\ w' = (w.alloc (.cells #[.pointer (some ⟨bt, 1, none⟩)] 132)).alloc (.cells #[nptr m.blk] 97) /\
   ∀ Tm : Nat -> Prop, (∀ n ∈ nodes, ¬ Tm n.blk /\ ∀ g, n.sl.ownBlock = some g -> ¬ Tm g) -> ¬ Tm bt -> (∀ b, vw.ownBlock = some b -> ¬ Tm b) -> (∀ p ∈ ws, ¬ Tm p.blk) -> ¬ Tm w.heap.size -> ¬ Tm (w.heap.size + 1) ->
    SeqK Tryz.prog 198 #[.pointer (some ⟨w.heap.size, 0, none⟩), .pointer (some ⟨w.heap.size + 1, 0, none⟩)] (fun p : Pw => nptr p.blk) (fun _ => False) Tm (qa4 ws m.blk) w' := by
 have hmf : ∀ (fn : Fn) (first cap : Array Value) (w : World), (Instr.makeFunc fn first cap).run Tryz.prog w = .ok (.func fn first cap) w := fun _ _ _ _ => rfl
 have key : ∀ Tm : Nat -> Prop, (∀ n ∈ nodes, ¬ Tm n.blk /\ ∀ g, n.sl.ownBlock = some g -> ¬ Tm g) -> ¬ Tm bt -> (∀ b, vw.ownBlock = some b -> ¬ Tm b) -> (∀ p ∈ ws, ¬ Tm p.blk) -> ¬ Tm w.heap.size -> ¬ Tm (w.heap.size + 1) ->
   SeqK Tryz.prog 198 #[.pointer (some ⟨w.heap.size, 0, none⟩), .pointer (some ⟨w.heap.size + 1, 0, none⟩)] (fun p : Pw => nptr p.blk) (fun _ => False) Tm (qa4 ws m.blk) ((w.alloc (.cells #[.pointer (some ⟨bt, 1, none⟩)] 132)).alloc (.cells #[nptr m.blk] 97)) := by
  intro Tm hT hTb hTv hTp hT1 hT2 k l J Jx W hW2 hl hJ hJx hY h0
  have hdd : ∀ k : Nat, Fence.wide.depth.isSome = true -> 1 <= k := fun k h => by simp [Fence.wide] at h
  have hb0 : Below w.heap.size w W := qac (show Below w.heap.size w ((w.alloc (.cells #[.pointer (some ⟨bt, 1, none⟩)] 132)).alloc (.cells #[nptr m.blk] 97)) by exact bel2) hW2
  have hNW : ∀ n ∈ nodes, qan W n := fun n hn => (hN n hn).below hb0
  have x1 : Box W w.heap.size 132 (.pointer (some ⟨bt, 1, none⟩)) := ((Box.new w 132 _).alloc _).below hW2 (by simp; omega)
  have x2 : Box W (w.heap.size + 1) 97 (nptr m.blk) := by
   have := (Box.new (w.alloc (.cells #[.pointer (some ⟨bt, 1, none⟩)] 132)) 97 (nptr m.blk)).below hW2 (by simp)
   rwa [World.size_alloc] at this
  have hbt : bt < w.heap.size := by have := World.block_lt_of_cell? w _ hc; simpa using this
  have c2 : W.cell? ⟨bt, 2, none⟩ = some vw := (hb0.cell (p := ⟨bt, 2, none⟩) hbt).trans hc
  have hWW : WRow W vw ws := ⟨qab (T := fun _ => False) hW.row (Keep.new hb0) (fun _ _ e => e), fun p hp => (hW.works p hp).below hb0 (hW.works p hp).lt⟩
  have c1 := x1.cell
  obtain ⟨a0, cap, hv, _, _⟩ := qbe hW.row
  obtain ⟨n, hn⟩ : ∃ n, n = ws.length := ⟨_, rfl⟩
  rw [<- hn] at hlen hv
  rw [hv] at c2
  have HN : Hid (n = ws.length) := hn
  have HV : Hid (vw = .slice a0 n cap) := hv
  clear hn hv
  refine callsIn_of_wp Tryz.func198 rfl trivial ?_ rfl
  simp only [Tryz.ntmps198, List.size_toArray, List.length_cons, List.length_nil, Nat.reduceAdd, Nat.reduceSub, Array.replicate_succ, Array.replicate_zero, List.push_toArray, List.append_toArray, List.nil_append, List.cons_append]
  gi_wp2
  gi_loopw [11] (fun i wr => ∃ j : Nat, i = .int .i64 j /\ j <= n /\ J (qa4 (ws.take j) m.blk) wr /\ Keep Tm W wr) (fun i _ => n - (intOf i).toNat)
  case atStart => exact ⟨0, rfl, Nat.zero_le _, by simpa [qa4] using h0, Keep.refl _ _⟩
  case round =>
   obtain ⟨j, rfl, hj, hJj, hkj⟩ := hrel
   have hNr := qel hT hNW hkj
   by_cases hlt : j < n
   ·obtain ⟨p, hp⟩ : ∃ p, ws[j]? = some p := ⟨_, List.getElem?_eq_getElem (by rw [<- HN.out]; exact hlt)⟩
    have hpm : p ∈ ws := List.mem_of_getElem? hp
    obtain ⟨nn, hnn, hnq⟩ := hlf p hpm
    have hrow : WRow wr vw ws := ⟨qab hWW.row hkj (fun b hb => hTv b hb), fun q hq => (hWW.works q hq).keep hkj (hTp q hq)⟩
    obtain ⟨g, hg⟩ : ∃ g, a0 = some ⟨g, 0, none⟩ := by
     obtain ⟨g, cap2, hv2, _⟩ := qat hrow.row (Nat.lt_of_le_of_lt (Nat.zero_le _) (List.getElem?_eq_some_iff.1 hp).1)
     have := HV.out; rw [hv2] at this; injection this with e1; exact ⟨g, e1.symm⟩
    subst hg
    have hcell : wr.cell? ⟨g, j, none⟩ = some (.pointer (some ⟨p.blk, 0, none⟩)) := by
     have := hrow.row.cells (g := g) (by rw [HV.out]; rfl) j (nptr p.blk) (by unfold qay; rw [List.getElem?_map, hp]; rfl)
     rwa [Addr.add_lit, Nat.zero_add] at this
    have hq1 : wr.cell? ⟨p.blk, 1, none⟩ = some (.pointer (some ⟨p.q, 0, none⟩)) := (hrow.works p hpm).cell 1
    have k2 : wr.cell? ⟨w.heap.size + 1, 0, none⟩ = some (.pointer (some ⟨m.blk, 0, none⟩)) := (x2.keep hkj hT2).cell
    have heq : ∀ W', Below wr.heap.size wr W' -> (binOp .eql 97 (.pointer (some ⟨p.q, 0, none⟩)) (.pointer (some ⟨m.blk, 0, none⟩))).run Tryz.prog W' = .ok (.bool (p.q == m.blk)) W' := fun W' hW' => by
     rw [<- hnq]; exact qut ((hNr nn hnn).below hW') ((hNr m hm).below hW')
    have heq1 := heq wr (Below.refl _ _)
    have heq2 := heq wr.drew (by exact bel2)
    have heqN := fun nq => heq (wr.drewN nq) (below_drewN (Below.refl _ _) nq)
    have HTK : Hid (qa4 (ws.take (j + 1)) m.blk = qa4 (ws.take j) m.blk ++ (if p.q == m.blk then [p] else [])) := qia hp
    have HPR : Hid ((p.q == m.blk) = true -> qa4 (ws.take j) m.blk ++ [p] <+: qa4 ws m.blk) := fun e => qpy hp e
    have hi1 : (j : Int) < n := by omega
    have hi2 : (0 : Int) <= j := by omega
    generalize hbe : (p.q == m.blk) = be at heq heq1 heq2 heqN HTK HPR
    clear hp h0 hbe heq
    cases be
    ·have HJ : Hid (J (qa4 (ws.take (j + 1)) m.blk) wr) := by rw [HTK.out]; simp only [Bool.false_eq_true, if_false, List.append_nil]; exact hJj
     clear hJj hY
     gi_upto_region 3 with fail
     refine wpIn_wide.2 ?_
     go_quiet (fail)
     gi_wp2_with fail
     go_roundw
     case rel => exact ⟨j + 1, by go_num, by omega, hJ _ _ _ HJ.out ((Keep.refl _ _).drewN nq), hkj.drewN nq⟩
     case measure => simp [intOf]; omega
    ·have hX1 := HPR.out rfl
     obtain ⟨fn, tmps, assign, body, hy, hR⟩ := hY (k - 1) _ p wr.drew (hJ _ _ _ hJj (Keep.refl _ _).drew) hX1
     have hR2 := hR.mono (R' := fun e W' => ∃ t : Bool, e = .returned (.bool t) /\ ((t = true /\ J (qa4 (ws.take j) m.blk ++ [p]) W' /\ Keep Tm wr W') \/ (t = false /\ Jx (qa4 (ws.take j) m.blk ++ [p]) W')))
      (fun e W' h => h.elim (fun ⟨he, hj, hk⟩ => ⟨true, he, .inl ⟨rfl, hj, (Keep.refl _ _).drew.trans hk⟩⟩) (fun ⟨he, hj⟩ => ⟨false, he, .inr ⟨rfl, hj⟩⟩))
     clear hR hY hJj HPR heqN
     unfold nptr at hy
     gi_upto_region 3 with fail
     gi_region_with (refine ⟨hdd _, ?_⟩; refine hR2.mono ?_; clear hR2; rintro e W2 ⟨t, rfl, hP⟩)
     all_goals gi_wp2_with fail
     all_goals rename_i ht
     ·have : t = false := by simpa using ht
      subst this
      refine bodyPost_ret (results_none rfl _ _ _) rfl ?_
      exact ⟨⟨_, rfl⟩, .inr ⟨_, hX1, (hP.resolve_left (by simp)).2⟩⟩
     ·have : t = true := by simpa using ht
      subst this
      obtain ⟨_, hJ2, hk2⟩ := hP.resolve_right (by simp)
      refine ⟨⟨j + 1, by go_num, by omega, ?_, hkj.trans hk2⟩, by simp [intOf]; omega⟩
      rw [HTK.out, if_pos trivial]; exact hJ2
     ·have : t = false := by simpa using ht
      subst this
      refine bodyPost_ret (results_none rfl _ _ _) rfl ?_
      exact ⟨⟨_, rfl⟩, .inr ⟨_, hX1, (hP.resolve_left (by simp)).2⟩⟩
     ·have : t = true := by simpa using ht
      subst this
      obtain ⟨_, hJ2, hk2⟩ := hP.resolve_right (by simp)
      refine ⟨⟨j + 1, by go_num, by omega, ?_, hkj.trans hk2⟩, by simp [intOf]; omega⟩
      rw [HTK.out, if_pos trivial]; exact hJ2
   ·gi_wp2
    go_end0
    have hjl : ws.take j = ws := List.take_of_length_le (by rw [<- HN.out]; omega)
    rw [hjl] at hJj
    exact ⟨⟨_, rfl⟩, .inl hJj⟩
 unfold nptr at key ⊢
 go_enter Tryz.func156, Tryz.ntmps156
 go_wp2
 go_ret
 exact ⟨rfl, rfl, key⟩
attribute [local go_sem] Oper.semAt_some
def qbl (ws : List Pw) (b : Nat) : Option Pw := ws.find? fun p => p.q == b
theorem qtl (ws : List Pw) (b : Nat) : qbl ws b = (qa4 ws b).head? := by
 unfold qbl qa4; rw [List.head?_filter]
set_option maxRecDepth 100000 in
set_option maxHeartbeats 2000000 in
theorem qrb {nodes : List Node} {w : World} (hN : ∀ n ∈ nodes, qan w n) {bt : Nat} {vw : Value} {ws : List Pw} (hc : w.cell? ⟨bt, 2, none⟩ = some vw) (hW : WRow w vw ws) (hlen : ws.length <= 100) (hlf : ∀ p ∈ ws, ∃ n ∈ nodes, n.blk = p.q) {m : Node} (hm : m ∈ nodes) :
  Calls Tryz.prog 174 #[.pointer (some ⟨bt, 1, none⟩), nptr m.blk] w fun e w' => e = .returned (optP (qbl ws m.blk)) /\ Below w.heap.size w w' := by
 have hdd : ∀ k : Nat, Fence.wide.depth.isSome = true -> 1 <= k := fun k h => by simp [Fence.wide] at h
 have hbt : bt < w.heap.size := by have := World.block_lt_of_cell? w _ hc; simpa using this
 have hline : ∀ W, Below w.heap.size w W -> _ := fun W hB => qn4 (w := W) (fun n hn => (hN n hn).below hB) ((hB.cell (p := ⟨bt, 2, none⟩) hbt).trans hc) ⟨qab (T := fun _ => False) hW.row (Keep.new hB) (fun _ _ e => e), fun p hp => (hW.works p hp).below hB (hW.works p hp).lt⟩ hlen hlf hm
 have hvl := fun b (hb : vw.ownBlock = some b) => qal hW.row hb
 have hpl := fun p (hp : p ∈ ws) => (hW.works p hp).lt
 rw [qtl]
 generalize hX : qa4 ws m.blk = X at hline ⊢
 clear hX
 refine (callsIn_wide (n := 3)).1 ?_
 refine callsIn_of_wp_marks Tryz.func174 rfl trivial ?_ rfl
 unfold nptr at hline ⊢
 simp only [Tryz.ntmps174, List.size_toArray, List.length_cons, List.length_nil, Nat.reduceAdd, Nat.reduceSub, Array.replicate_succ, Array.replicate_zero, List.push_toArray, List.append_toArray, List.nil_append, List.cons_append]
 gi_wp2_with ((first | refine ⟨trivial, hdd _, ?_⟩ | refine ⟨trivial, ?_⟩); gi_at_call 156; refine (callsIn_wide.2 (hline _ (by exact bel1))).mono ?_; rintro e W ⟨rfl, rfl, hseq⟩)
 obtain ⟨W, hW0⟩ : ∃ W, W = (((w.alloc (.cells #[.pointer none] 95)).alloc (.cells #[.pointer (some ⟨bt, 1, none⟩)] 132)).alloc (.cells #[.pointer (some ⟨m.blk, 0, none⟩)] 97)) := ⟨_, rfl⟩
 have hsz : W.heap.size = w.heap.size + 3 := by rw [hW0]; simp
 have e2 : (w.alloc (.cells #[.pointer none] 95)).heap.size = w.heap.size + 1 := by simp
 have hb0 : Box W w.heap.size 95 (.pointer none) := by rw [hW0]; exact ((Box.new w 95 _).alloc _).alloc _
 have hbw : Below w.heap.size w W := by rw [hW0]; exact bel1
 rw [e2] at hseq
 simp only [<- hW0] at hseq ⊢
 have hq := hseq (fun b => b = w.heap.size \/ W.heap.size <= b) (fun k hk => ⟨fun h => by have := (hN k hk).lt; omega, fun g hg h => by have := ((hN k hk).row.lt g hg).2; omega⟩) (by omega) (fun b hb h => by have := hvl b hb; omega) (fun p hp h => by have := hpl p hp; omega) (by omega) (by omega)
 clear hseq hline e2 hW0
 have hno : ∀ b, b < W.heap.size -> ¬ (False \/ W.heap.size <= b) := fun b hb h => by rcases h with h | h; exact h; omega
 refine qgy (T := fun b => b = w.heap.size) (S := fun _ => False) rfl (enters_of Tryz.func198 (by kernel_rfl) rfl) hq (Below.refl _ _) rfl (fun b h => h.elim) (fun b h => by omega)
  (fun pre A => pre = [] /\ Box A w.heap.size 95 (.pointer none) /\ Below w.heap.size w A)
  (fun c pre A => c = .ret /\ ∃ p, pre = [p] /\ Box A w.heap.size 95 (.pointer (some ⟨p.blk, 0, none⟩)) /\ Below w.heap.size w A)
  (fun pre A B hs hk => ⟨hs.1, hs.2.1.keep hk (hno _ (by omega)), hs.2.2.trans (hk.toBelow hs.2.2.size (fun b hb' => hno b (by omega)))⟩)
  (fun c pre A B hs hk => by
   obtain ⟨h1, p, h2, h3, h4⟩ := hs
   exact ⟨h1, p, h2, h3.keep hk (hno _ (by omega)), h4.trans (hk.toBelow h4.size (fun b hb' => hno b (by omega)))⟩)
  ⟨rfl, hb0, hbw⟩
  (fun x => { tmps := #[.pointer (some ⟨bt, 1, none⟩), .pointer (some ⟨m.blk, 0, none⟩), undef, undef, .pointer (some ⟨w.heap.size, 0, none⟩), .pointer (some ⟨x.blk, 0, none⟩), .pointer (some ⟨bt, 1, none⟩), .pointer (some ⟨m.blk, 0, none⟩),
   .func (.func 198) #[] #[.pointer (some ⟨w.heap.size + 1, 0, none⟩), .pointer (some ⟨w.heap.size + 1 + 1, 0, none⟩)], .pointer (some ⟨x.blk, 0, none⟩), undef], defers := [] }) ?assign ?body ?done ?stop
 case assign =>
  intro l x W K hK
  gi_wp2
  exact hK
 case body =>
  rintro l pre x W2 ⟨hall, hbox, hbel⟩ hszW hpre
  have hc := hbox.cell
  have hf := hbox.frozen
  have HALL : Hid (pre = []) := hall
  clear hall
  gi_wp2
  exact ⟨(Keep.refl (fun b => b = w.heap.size) _).setCell (p := ⟨w.heap.size, 0, none⟩) rfl _, rfl, x, by rw [HALL.out]; rfl, hbox.set _, hbel.setCell (by simp) _⟩
 case done =>
  rintro A ⟨hall, hbox, hbel⟩ hD
  have hc := hbox.cell
  have hf := hbox.frozen
  have HALL : Hid (X = []) := hall
  clear hall
  gi_wp2
  have hD' : (A.setCell ⟨w.heap.size, 0, none⟩ (.pointer none)).heap[W.heap.size]? = some (.deferred (some [])) := (Below.heap_setCell _ _ _ _ (by simp; omega)).trans hD
  have hb2 := ((hbox.set (.pointer none)).put W.heap.size (.deferred none) (by omega)).cell
  refine ⟨by simp, .inl ⟨_, _, rfl, run_takeDeferred hD', ?_⟩⟩
  refine ⟨.pointer none, by simp [results, Tryz.results174, go_sem, hb2], ?_, qa8 (hbel.setCell (by simp) _) _ _ (by omega)⟩
  rw [HALL.out]; rfl
 case stop =>
  rintro c pre A hpre ⟨rfl, p, hv, hbox, hbel⟩ hD
  gi_wp2
  have hb2 := (hbox.put W.heap.size (.deferred none) (by omega)).cell
  refine ⟨by simp, .inl ⟨_, _, rfl, run_takeDeferred hD, ?_⟩⟩
  refine ⟨.pointer (some ⟨p.blk, 0, none⟩), by simp [results, Tryz.results174, go_sem, hb2], ?_, qa8 hbel _ _ (by omega)⟩
  subst hv
  obtain ⟨t, rfl⟩ := hpre
  rfl
end Go.Proofs.YtphclnolomgjoaaGreatDoor
