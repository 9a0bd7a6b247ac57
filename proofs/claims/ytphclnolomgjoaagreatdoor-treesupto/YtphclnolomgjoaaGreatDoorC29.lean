import Derived.Test.YtphclnolomgjoaaGreatDoorC06
import Derived.Test.YtphclnolomgjoaaGreatDoorC28
set_option linter.unusedVariables false
set_option linter.unusedSimpArgs false
namespace Go.Proofs.YtphclnolomgjoaaGreatDoor
open Go.RowKit Go.Shelf
attribute [local go_sem] Oper.semAt_some
def qfz (l : List Pw) : List Value := l.map fun p => .int .i64 p.x.num
set_option maxRecDepth 100000 in
set_option maxHeartbeats 2000000 in
theorem qlu {nodes : List Node} {w : World} {bt : Nat} {r : Node} {lst vw va : Value} {ws as_ : List Pw} (h : TwAt w nodes bt r lst vw va ws as_) {m : Node} (hm : m ∈ nodes) :
  Calls Tryz.prog 107 #[.pointer (some ⟨bt, 0, none⟩), nptr m.blk] w fun e w' => ∃ v', e = .returned v' /\ w'.ownsRow 0 3 1 v' (qa4 ws m.blk).length (qfz (qa4 ws m.blk)) /\ Below w.heap.size w w' /\ (∀ b, v'.ownBlock = some b -> w.heap.size <= b) := by
 have hdd : ∀ k : Nat, Fence.wide.depth.isSome = true -> 1 <= k := fun k h => by simp [Fence.wide] at h
 have hbt := h.bk.at_.lt
 have hwl := h.bk.len
 have hline := fun W (hW : Below w.heap.size w W) => qn4 (w := W) (h.below hW).ins ((h.below hW).bk.at_.cell 2) ⟨(h.below hW).bk.wrow, fun p hp => (h.below hW).bk.works p (List.mem_append_left _ hp)⟩ (by omega) (fun p hp => by obtain ⟨n, h1, h2, _⟩ := h.lf p (List.mem_append_left _ hp); exact ⟨n, h1, h2⟩) hm
 have hout := fun (T : Nat -> Prop) (hT : ∀ b, T b -> w.heap.size <= b) => (⟨fun n hn => ⟨fun e => by have := (h.ins n hn).lt; have := hT _ e; omega, fun g hg e => by have := ((h.ins n hn).row.lt g hg).2; have := hT _ e; omega⟩, fun e => by have := hT _ e; omega, fun b hb e => by have := qal h.bk.wrow hb; have := hT _ e; omega, fun p hp e => by have := (h.bk.works p (List.mem_append_left _ hp)).lt; have := hT _ e; omega⟩ : (∀ n ∈ nodes, ¬ T n.blk /\ ∀ g, n.sl.ownBlock = some g -> ¬ T g) /\ ¬ T bt /\ (∀ b, vw.ownBlock = some b -> ¬ T b) /\ (∀ p ∈ ws, ¬ T p.blk))
 have hpm : ∀ p ∈ qa4 ws m.blk, p ∈ ws := fun p hp => (List.mem_filter.1 hp).1
 have hol : (qa4 ws m.blk).length <= 24 := Nat.le_trans (List.length_filter_le _ _) (by omega)
 have hnum : ∀ W, Below w.heap.size w W -> ∀ p ∈ ws, W.cell? ⟨p.blk, 0, none⟩ = some (.int .i64 p.x.num) := fun W hW p hp => ((h.below hW).bk.works p (List.mem_append_left _ hp)).cell 0
 generalize qa4 ws m.blk = X at hline hpm hol ⊢
 refine (callsIn_wide (n := 3)).1 ?_
 refine callsIn_of_wp_marks Tryz.func107 rfl trivial ?_ rfl
 unfold nptr at hline ⊢
 simp only [Tryz.ntmps107, List.size_toArray, List.length_cons, List.length_nil, Nat.reduceAdd, Nat.reduceSub, Array.replicate_succ, Array.replicate_zero, List.push_toArray, List.append_toArray, List.nil_append, List.cons_append]
 gi_wp2_with ((first | refine ⟨trivial, hdd _, ?_⟩ | refine ⟨trivial, ?_⟩); gi_at_call 156; refine (callsIn_wide.2 (hline _ (by exact bel1))).mono ?_; rintro e W3 ⟨rfl, rfl, hseq⟩)
 obtain ⟨W, hW⟩ : ∃ W, W = (((w.alloc (.cells #[.slice none 0 0] 25)).alloc (.cells #[.pointer (some ⟨bt, 1, none⟩)] 132)).alloc (.cells #[.pointer (some ⟨m.blk, 0, none⟩)] 97)) := ⟨_, rfl⟩
 have hsz : W.heap.size = w.heap.size + 3 := by rw [hW]; simp
 have hbw : Below w.heap.size w W := by rw [hW]; exact bel2
 have z1 : Box W w.heap.size 25 (.slice none 0 0) := by rw [hW]; exact ((Box.new w 25 _).alloc _).alloc _
 simp only [World.size_alloc] at hseq
 simp only [<- hW] at hseq ⊢
 have hq : SeqM Tryz.prog 198 #[.pointer (some ⟨w.heap.size + 1, 0, none⟩), .pointer (some ⟨w.heap.size + 1 + 1, 0, none⟩)] (fun p : Pw => #[.pointer (some ⟨p.blk, 0, none⟩)]) (fun _ => False) 0 (fun b => b = w.heap.size) X W := qss (fun B l0 h1 h2 => by
  obtain ⟨o1, o2, o3, o4⟩ := hout (fun b => b = w.heap.size \/ b = l0 \/ B <= b) (fun b e => by omega)
  exact hseq _ o1 o2 o3 o4 (by omega) (by omega))
 clear hseq hline hW hout
 have hno : ∀ b, b < W.heap.size -> ¬ (False \/ (W.heap.size <= b /\ b < W.heap.size + 2 + 0)) := fun b hb e => by rcases e with e | e; exact e; omega
 refine qgs (T := fun b => b = w.heap.size) (S := fun _ => False) rfl (enters_of Tryz.func198 (by kernel_rfl) rfl) hq (Below.refl _ _) (fun _ => rfl) (fun b e => e.elim) (fun b e => by omega)
  (fun (pre : List Pw) A => (∃ v, A.ownsRow 0 3 1 v pre.length (qfz pre) /\ Box A w.heap.size 25 v /\ (∀ b, v.ownBlock = some b -> W.heap.size + 2 + 0 <= b)) /\ Below w.heap.size w A)
  (fun c (pre : List Pw) A => False)
  (fun pre A B hs hk => by
   obtain ⟨⟨v, g1, g2, g3⟩, g4⟩ := hs
   exact ⟨⟨v, qab g1 hk (fun b hb e => by have := g3 b hb; rcases e with e | e; exact e; omega), g2.keep hk (hno _ (by omega)), g3⟩, g4.trans (hk.toBelow g4.size (fun b hb' => hno b (by omega)))⟩)
  (fun c pre A B hs hk => hs)
  ⟨⟨_, ⟨rfl, .inl ⟨rfl, rfl⟩⟩, z1, by simp [Value.ownBlock]⟩, hbw⟩
  (fun x => { tmps := #[.pointer (some ⟨bt, 0, none⟩), .pointer (some ⟨m.blk, 0, none⟩), undef, undef, .slice none 0 0, .pointer (some ⟨w.heap.size, 0, none⟩), .pointer (some ⟨x.blk, 0, none⟩), .pointer (some ⟨bt, 0, none⟩), .pointer (some ⟨bt, 0, none⟩), .pointer (some ⟨bt, 1, none⟩), .pointer (some ⟨m.blk, 0, none⟩), .func (.func 198) #[] #[.pointer (some ⟨w.heap.size + 1, 0, none⟩), .pointer (some ⟨w.heap.size + 1 + 1, 0, none⟩)], .pointer (some ⟨x.blk, 0, none⟩), undef, undef, undef, undef, undef, undef, undef, undef], defers := [] }) ?assign ?body ?done ?stop
 case assign =>
  intro l x W K hK
  gi_wp2
  exact hK
 case stop =>
  rintro c pre A hpre hx hD
  exact hx.elim
 case body =>
  rintro l2 pre x W2 ⟨⟨v, g1, g2, g3⟩, g4⟩ hszW hpre
  have hxm : x ∈ ws := hpm x (hpre.subset (by simp))
  have hpl : pre.length <= 24 := by have := hpre.length_le; simp at this; omega
  have c0 := g2.cell
  have n0 := hnum W2 g4 x hxm
  have hS4 : ∀ W', Below W2.heap.size W2 W' -> W'.cell? ⟨x.blk, 0, none⟩ = some (.int .i64 x.x.num) := fun W' hW' => hnum W' (qac g4 hW') x hxm
  obtain ⟨WA, hWA⟩ : ∃ WA, WA = (W2.alloc (.cells #[.int .i64 x.x.num] 3)).drew := ⟨_, rfl⟩
  have hBA : Below W2.heap.size W2 WA := by rw [hWA]; exact bel2
  have hnb : Blk WA W2.heap.size 3 #[.int .i64 x.x.num] := by rw [hWA]; exact Blk.new W2 3 _
  have cA := (g2.below hBA g2.lt).cell
  obtain ⟨v1, w1, hr, g, cap, rfl, RA⟩ := qby un29 inf3 (by omega) WA v pre.length (qfz pre) (qab (T := fun _ => False) g1 (Keep.new hBA) (fun _ _ e => e)) W2.heap.size 1 1 (by omega) [.int .i64 x.x.num] rfl hnb (fun u hu => by simp at hu; subst hu; rfl) (by unfold maxLen; omega) (by omega)
  have b1 : Box w1 w.heap.size 25 v := (g2.below hBA g2.lt).keep RA.keep (fun e => by have := g3 _ e; omega)
  have k1 := b1.cell
  have f1 := b1.frozen
  have n1 : w1.cell? ⟨x.blk, 0, none⟩ = some (.int .i64 x.x.num) := by
   have hx1 : x.blk < WA.heap.size := World.block_lt_of_cell? _ _ (hS4 WA hBA)
   refine (RA.keep.cell (p := ⟨x.blk, 0, none⟩) hx1 (fun e => ?_)).trans (hS4 WA hBA)
   have hxw : x.blk < w.heap.size := (h.bk.works x (List.mem_append_left _ hxm)).lt
   have := g3 x.blk e
   omega
  have hfin : Keep (fun b => b = w.heap.size \/ W.heap.size + 2 + 0 <= b) W2 (w1.setCell ⟨w.heap.size, 0, none⟩ (.slice (some ⟨g, 0, none⟩) (pre.length + 1) cap)) /\ ((∃ v', (w1.setCell ⟨w.heap.size, 0, none⟩ (.slice (some ⟨g, 0, none⟩) (pre.length + 1) cap)).ownsRow 0 3 1 v' (pre ++ [x]).length (qfz (pre ++ [x])) /\ Box (w1.setCell ⟨w.heap.size, 0, none⟩ (.slice (some ⟨g, 0, none⟩) (pre.length + 1) cap)) w.heap.size 25 v' /\ (∀ b, v'.ownBlock = some b -> W.heap.size + 2 + 0 <= b)) /\ Below w.heap.size w (w1.setCell ⟨w.heap.size, 0, none⟩ (.slice (some ⟨g, 0, none⟩) (pre.length + 1) cap))) := by
   have hz := hBA.size
   have hgl : W.heap.size + 2 + 0 <= g := by
    rcases RA.new with e | e
    ·exact g3 _ e
    ·omega
   have hK : Keep (fun b => b = w.heap.size \/ W.heap.size + 2 + 0 <= b) W2 w1 := (Keep.new hBA).qbo RA.keep (fun b hb e => .inr (g3 b e))
   have hK2 := hK.setCell (p := ⟨w.heap.size, 0, none⟩) (.inl rfl) (.slice (some ⟨g, 0, none⟩) (pre.length + 1) cap)
   refine ⟨hK2, ⟨.slice (some ⟨g, 0, none⟩) (pre.length + 1) cap, ?_, b1.set _, fun b hb => ?_⟩, g4.trans (hK2.toBelow g4.size (fun b hb e => by omega))⟩
   ·have e : qfz (pre ++ [x]) = qfz pre ++ [.int .i64 x.x.num] := by simp [qfz]
    rw [e, show (pre ++ [x]).length = pre.length + 1 by simp]
    exact ownsRow_setCell_other RA.own (by simp [Value.ownBlock]; omega) _
   ·simp [Value.ownBlock] at hb; omega
  have hn2 : (w1.setCell ⟨w.heap.size, 0, none⟩ (.slice (some ⟨g, 0, none⟩) (pre.length + 1) cap)).cell? ⟨x.blk, 0, none⟩ = some (.int .i64 x.x.num) := by
   have hxw : x.blk < w.heap.size := (h.bk.works x (List.mem_append_left _ hxm)).lt
   exact (World.cell?_setCell_other _ _ _ _ (by intro e; injection e with e1; omega)).trans n1
  rw [hWA] at hr cA
  have HF : Hid (Keep (fun b => b = w.heap.size \/ W.heap.size + 2 + 0 <= b) W2 (w1.setCell ⟨w.heap.size, 0, none⟩ (.slice (some ⟨g, 0, none⟩) (pre.length + 1) cap)) /\ ((∃ v', (w1.setCell ⟨w.heap.size, 0, none⟩ (.slice (some ⟨g, 0, none⟩) (pre.length + 1) cap)).ownsRow 0 3 1 v' (pre ++ [x]).length (qfz (pre ++ [x])) /\ Box (w1.setCell ⟨w.heap.size, 0, none⟩ (.slice (some ⟨g, 0, none⟩) (pre.length + 1) cap)) w.heap.size 25 v' /\ (∀ b, v'.ownBlock = some b -> W.heap.size + 2 + 0 <= b)) /\ Below w.heap.size w (w1.setCell ⟨w.heap.size, 0, none⟩ (.slice (some ⟨g, 0, none⟩) (pre.length + 1) cap)))) := hfin
  obtain ⟨a0, cap0, hv, _, _⟩ := qbe g1
  generalize hn : pre.length = n at hr hv hn2 HF
  clear hn hfin RA hnb hBA hq g1 g3 b1
  subst hv
  gi_upto_region 4 with fail
  refine qfl ?_
  refine qdk (fun W' => W'.cell? ⟨x.blk, 0, none⟩ = some (.int .i64 x.x.num)) (by kernel_rfl) (by kernel_rfl) (hS4 W2.drew (Below.refl _ _).drew) (fun hS => ?_)
  refine wpAnyH_take (i := 1) (v := .pointer (some ⟨x.blk, 0, none⟩)) rfl (by kernel_rfl) (by kernel_rfl) (by kernel_rfl) (fun _ _ _ h => absurd h.1 (by intro e; cases e)) (Or.inl ⟨by rfl, ?_⟩) hS ?_
  ·intro w' hS'
   go_simp
  try simp only [List.getElem_toArray, List.getElem_cons_zero, List.getElem_cons_succ, Act.put, List.setIfInBounds_toArray, List.set_cons_zero, List.set_cons_succ]
  refine wpAnyH_take (i := 2) (v := .pointer (some ⟨x.blk, 0, none⟩)) rfl (by kernel_rfl) (by kernel_rfl) (by kernel_rfl) (fun _ _ _ h => absurd h.1 (by intro e; cases e)) (Or.inl ⟨by rfl, ?_⟩) hS ?_
  ·intro w' hS'
   go_simp
  try simp only [List.getElem_toArray, List.getElem_cons_zero, List.getElem_cons_succ, Act.put, List.setIfInBounds_toArray, List.set_cons_zero, List.set_cons_succ]
  refine wpAnyH_take (i := 3) (v := .pointer (some ⟨x.blk, 0, none⟩)) rfl (by kernel_rfl) (by kernel_rfl) (by kernel_rfl) (fun _ _ _ h => absurd h.1 (by intro e; cases e)) (Or.inl ⟨by rfl, ?_⟩) hS ?_
  ·intro w' hS'
   go_simp
  try simp only [List.getElem_toArray, List.getElem_cons_zero, List.getElem_cons_succ, Act.put, List.setIfInBounds_toArray, List.set_cons_zero, List.set_cons_succ]
  refine wpAnyH_take (i := 4) (v := .int .i64 x.x.num) rfl (by kernel_rfl) (by kernel_rfl) (by kernel_rfl) (fun _ _ _ h => absurd h.1 (by intro e; cases e)) (Or.inl ⟨by rfl, ?_⟩) hS ?_
  ·intro w' hS'
   go_simp
  try simp only [List.getElem_toArray, List.getElem_cons_zero, List.getElem_cons_succ, Act.put, List.setIfInBounds_toArray, List.set_cons_zero, List.set_cons_succ]
  refine wpAnyH_ready (rs := [0, 5]) (by kernel_rfl) (by simp) ?_
  refine AllReadyH.cons rfl (fun K' hK => ?_) (AllReadyH.cons rfl (fun K' hK => ?_) AllReadyH.nil)
  ·rw [if_pos (by rfl)]
   try simp only [List.getElem_toArray, List.getElem_cons_zero, List.getElem_cons_succ]
   go_simp
   refine hK.out _ _ (hS4 W2.drew (Below.refl _ _).drew) (fun hS => ?_)
   clear hK
   try simp only [List.getElem_toArray, List.getElem_cons_zero, List.getElem_cons_succ, Act.put, List.setIfInBounds_toArray, List.set_cons_zero, List.set_cons_succ]
   refine wpAnyH_ready (rs := [5]) (by kernel_rfl) (by simp) ?_
   refine AllReadyH.cons rfl (fun K' hK => ?_) AllReadyH.nil
   rw [if_pos (by rfl)]
   try simp only [List.getElem_toArray, List.getElem_cons_zero, List.getElem_cons_succ]
   go_simp
   refine hK.out _ _ (hS4 _ (by exact bel2)) (fun hS => ?_)
   clear hK
   try simp only [List.getElem_toArray, List.getElem_cons_zero, List.getElem_cons_succ, Act.put, List.setIfInBounds_toArray, List.set_cons_zero, List.set_cons_succ]
   refine wpAnyH_ready (rs := [6]) (by kernel_rfl) (by simp) ?_
   refine AllReadyH.cons rfl (fun K' hK => ?_) AllReadyH.nil
   refine qau (R := fun v' w' => v' = .slice (some ⟨g, 0, none⟩) (n + 1) cap /\ w' = w1) rfl (.tmp 13) (.tmp 18) 25 25 rfl (.slice a0 n cap0) (.slice (some ⟨W2.heap.size, 0, none⟩) 1 1) rfl rfl ⟨_, _, hr, rfl, rfl⟩ ?_
   rintro v' w' ⟨rfl, rfl⟩
   refine hK.out _ _ n1 (fun hS => ?_)
   clear hK
   try simp only [List.getElem_toArray, List.getElem_cons_zero, List.getElem_cons_succ, Act.put, List.setIfInBounds_toArray, List.set_cons_zero, List.set_cons_succ]
   refine wpAnyH_ready (rs := [7]) (by kernel_rfl) (by simp) ?_
   refine AllReadyH.cons rfl (fun K' hK => ?_) AllReadyH.nil
   rw [if_pos (by rfl)]
   try simp only [List.getElem_toArray, List.getElem_cons_zero, List.getElem_cons_succ]
   go_simp
   refine hK.out _ _ hn2 (fun hS => ?_)
   clear hK
   refine wpAnyH_done (by kernel_rfl) ⟨rfl, ?_⟩ _
   exact HF.out
  ·rw [if_pos (by rfl)]
   try simp only [List.getElem_toArray, List.getElem_cons_zero, List.getElem_cons_succ]
   go_simp
   refine hK.out _ _ (hS4 _ (by exact bel2)) (fun hS => ?_)
   clear hK
   try simp only [List.getElem_toArray, List.getElem_cons_zero, List.getElem_cons_succ, Act.put, List.setIfInBounds_toArray, List.set_cons_zero, List.set_cons_succ]
   refine wpAnyH_ready (rs := [0]) (by kernel_rfl) (by simp) ?_
   refine AllReadyH.cons rfl (fun K' hK => ?_) AllReadyH.nil
   rw [if_pos (by rfl)]
   try simp only [List.getElem_toArray, List.getElem_cons_zero, List.getElem_cons_succ]
   go_simp
   refine hK.out _ _ (hS4 _ (by exact bel2)) (fun hS => ?_)
   clear hK
   try simp only [List.getElem_toArray, List.getElem_cons_zero, List.getElem_cons_succ, Act.put, List.setIfInBounds_toArray, List.set_cons_zero, List.set_cons_succ]
   refine wpAnyH_ready (rs := [6]) (by kernel_rfl) (by simp) ?_
   refine AllReadyH.cons rfl (fun K' hK => ?_) AllReadyH.nil
   refine qau (R := fun v' w' => v' = .slice (some ⟨g, 0, none⟩) (n + 1) cap /\ w' = w1) rfl (.tmp 13) (.tmp 18) 25 25 rfl (.slice a0 n cap0) (.slice (some ⟨W2.heap.size, 0, none⟩) 1 1) rfl rfl ⟨_, _, hr, rfl, rfl⟩ ?_
   rintro v' w' ⟨rfl, rfl⟩
   refine hK.out _ _ n1 (fun hS => ?_)
   clear hK
   try simp only [List.getElem_toArray, List.getElem_cons_zero, List.getElem_cons_succ, Act.put, List.setIfInBounds_toArray, List.set_cons_zero, List.set_cons_succ]
   refine wpAnyH_ready (rs := [7]) (by kernel_rfl) (by simp) ?_
   refine AllReadyH.cons rfl (fun K' hK => ?_) AllReadyH.nil
   rw [if_pos (by rfl)]
   try simp only [List.getElem_toArray, List.getElem_cons_zero, List.getElem_cons_succ]
   go_simp
   refine hK.out _ _ hn2 (fun hS => ?_)
   clear hK
   refine wpAnyH_done (by kernel_rfl) ⟨rfl, ?_⟩ _
   exact HF.out
 case done =>
  rintro A ⟨⟨v, g1, g2, g3⟩, g4⟩ hD
  have c0 := g2.cell
  gi_wp2_with fail
  refine ⟨by simp, .inl ⟨_, _, rfl, run_takeDeferred hD, ?_⟩⟩
  have hk : Keep (fun b => b = W.heap.size) A (A.putObj W.heap.size (.deferred none)) := (Keep.refl (fun b => b = W.heap.size) _).putObj rfl _
  exact ⟨v, by simp [results, Tryz.results107, go_sem], v, rfl, qab g1 hk (fun b hb e => by have := g3 b hb; omega), g4.trans (hk.toBelow g4.size (fun b hb e => by omega)), fun b hb => by have := g3 b hb; omega⟩
end Go.Proofs.YtphclnolomgjoaaGreatDoor
namespace Go.Proofs.YtphclnolomgjoaaGreatDoor
open Go.RowKit
def qo6 (p : Bs) (leaf : Bool) (a b c d e f : Int) (v : Value) : Array Value := #[.string (sb p), .bool leaf, .int .i64 a, .int .i64 b, .int .i64 c, .int .i64 d, .int .i64 e, .int .i64 f, v]
theorem TwAt.pws {W : World} {nodes : List Node} {bt : Nat} {r : Node} {lst vw va : Value} {ws as_ : List Pw} (h : TwAt W nodes bt r lst vw va ws as_) : qhe W nodes va as_ :=
 ⟨h.bk.arow, fun p hp => h.bk.works p (List.mem_append_right _ hp), fun p hp => h.lf p (List.mem_append_right _ hp), fun p hp => h.nm p (List.mem_append_right _ hp), by have := h.bk.len; omega⟩
set_option maxRecDepth 100000 in
set_option maxHeartbeats 2000000 in
theorem qop {nodes : List Node} (T0 : Tree nodes) (hB : qa7 nodes) {w : World} {bt : Nat} {r : Node} {lst vw va : Value} {ws as_ : List Pw} (h : TwAt w nodes bt r lst vw va ws as_) {n : Node} (hn : n ∈ nodes) :
  Calls Tryz.prog 64 #[.pointer (some ⟨bt, 0, none⟩), nptr n.blk] w fun e w' => ∃ v', e = .returned (.agg (qo6 (joinB n.key) n.leaf (pn0 nodes n.key) (pn1 nodes n.key) n.b0 n.b1 (ws0 (pun as_ n.key)) (ws1 (pun as_ n.key)) v')) /\ w'.ownsRow 0 3 1 v' (qa4 ws n.blk).length (qfz (qa4 ws n.blk)) /\ Below w.heap.size w w' /\ (∀ b, v'.ownBlock = some b -> w.heap.size < b) := by
 have hbt := h.bk.at_.lt
 have h47 := fun W (hW : Below w.heap.size w W) => qhh T0 n.key.length n hn rfl W (h.below hW).ins
 have h105 := fun W (hW : Below w.heap.size w W) => qko n.blk n.leaf W (((h.below hW).ins n hn).cell rfl)
 have h85 := fun W (hW : Below w.heap.size w W) => qcz T0 hn W (h.below hW).ins
 have h86 := fun W (hW : Below w.heap.size w W) => qpw n.blk n.b0 n.b1 W (((h.below hW).ins n hn).cell rfl) (((h.below hW).ins n hn).cell rfl)
 have h106 := fun W (hW : Below w.heap.size w W) => qjo T0 hB W (h.below hW).ins bt ((h.below hW).bk.at_.cell 3) (h.below hW).pws hn
 have h107 := fun W (hW : Below w.heap.size w W) => qlu (h.below hW) hn
 unfold qo6
 generalize pn0 nodes n.key = s0 at *
 generalize pn1 nodes n.key = s1 at *
 generalize ws0 (pun as_ n.key) = u0 at *
 generalize ws1 (pun as_ n.key) = u1 at *
 generalize sb (joinB n.key) = pth at *
 generalize (qa4 ws n.blk).length = wl at *
 generalize qfz (qa4 ws n.blk) = wn at *
 unfold nptr at *
 go_enter Tryz.func64, Tryz.ntmps64
 have b00 : Blk (w.alloc (.cells #[.string ⟨#[]⟩, .bool false, .int .i64 0, .int .i64 0, .int .i64 0, .int .i64 0, .int .i64 0, .int .i64 0, .slice none 0 0] 37)).drew w.heap.size 37 #[.string ⟨#[]⟩, .bool false, .int .i64 0, .int .i64 0, .int .i64 0, .int .i64 0, .int .i64 0, .int .i64 0, .slice none 0 0] := Blk.new w 37 _
 go_upto_region 1 with fail
 go_region_held3 (fun _ => True) (exact trivial)
  (first
   | (go_at_call 47; refine (h47 _ ?_).mono ?_; (focus exact bel2); rintro e w1 ⟨rfl, hb1⟩; have hB1 : Below w.heap.size w w1 := qac (by exact bel2) hb1)
   | (go_at_call 105; refine (h105 _ hB1).mono ?_; rintro e w2 ⟨rfl, hw2⟩; subst hw2)
   | (go_at_call 85; refine (h85 _ hB1).mono ?_; rintro e w3 ⟨rfl, hb3⟩; have hB3 : Below w.heap.size w w3 := qac hB1 hb3)
   | (go_at_call 86; refine (h86 _ hB3).mono ?_; rintro e w4 ⟨rfl, hb4⟩; have hB4 : Below w.heap.size w w4 := qac hB3 hb4)
   | (go_at_call 106; refine (h106 _ hB4).mono ?_; rintro e w5 ⟨rfl, hb5⟩; have hB5 : Below w.heap.size w w5 := qac hB4 hb5)
   | (go_at_call 107; refine (h107 _ hB5).mono ?_; rintro e w6 ⟨v6, rfl, hr6, hb6, hv6⟩; have hB6 : Below w.heap.size w w6 := qac hB5 hb6; obtain ⟨a6, c6, hvv, _, _⟩ := qbe hr6; subst hvv; have hblk : Blk w6 w.heap.size 37 #[.string ⟨#[]⟩, .bool false, .int .i64 0, .int .i64 0, .int .i64 0, .int .i64 0, .int .i64 0, .int .i64 0, .slice none 0 0] := ((((b00.below hb1 (by simp)).below hb3 (by have := hb1.size; simp at this; omega)).below hb4 (by have := hb1.size; have := hb3.size; simp at *; omega)).below hb5 (by have := hb1.size; have := hb3.size; have := hb4.size; simp at *; omega)).below hb6 (by have := hb1.size; have := hb3.size; have := hb4.size; have := hb5.size; simp at *; omega); have hcl := hblk.cell; have hfr := hblk.frozen; clear h47 h105 h85 h86 h106 h107))
 go_wp2_with fail
 have hfin := (((((((((hblk.set 0 (.string pth)).set 1 (.bool n.leaf)).set 2 (.int .i64 s0)).set 3 (.int .i64 s1)).set 4 (.int .i64 n.b0)).set 5 (.int .i64 n.b1)).set 6 (.int .i64 u0)).set 7 (.int .i64 u1)).set 8 (.slice a6 wl c6))
 have hc := hfin.cell
 have hk := (((((((((Keep.refl (fun b => b = w.heap.size) w6).setCell (p := ⟨w.heap.size, 0, none⟩) rfl (.string pth)).setCell (p := ⟨w.heap.size, 1, none⟩) rfl (.bool n.leaf)).setCell (p := ⟨w.heap.size, 2, none⟩) rfl (.int .i64 s0)).setCell (p := ⟨w.heap.size, 3, none⟩) rfl (.int .i64 s1)).setCell (p := ⟨w.heap.size, 4, none⟩) rfl (.int .i64 n.b0)).setCell (p := ⟨w.heap.size, 5, none⟩) rfl (.int .i64 n.b1)).setCell (p := ⟨w.heap.size, 6, none⟩) rfl (.int .i64 u0)).setCell (p := ⟨w.heap.size, 7, none⟩) rfl (.int .i64 u1)).setCell (p := ⟨w.heap.size, 8, none⟩) rfl (.slice a6 wl c6)
 have hlt : w.heap.size < w5.heap.size := by have := hb1.size; have := hb3.size; have := hb4.size; have := hb5.size; simp at *; omega
 clear hcl hfr
 exact bodyPost_ret (v := .agg #[.string pth, .bool n.leaf, .int .i64 s0, .int .i64 s1, .int .i64 n.b0, .int .i64 n.b1, .int .i64 u0, .int .i64 u1, .slice a6 wl c6]) (by simp [results, Tryz.results64, go_sem, hc]) rfl ⟨_, rfl, qab hr6 hk (fun b hb e => by have := hv6 b hb; omega), hB6.trans (hk.toBelow hB6.size (fun b hb e => by omega)), fun b hb => by have := hv6 b hb; omega⟩
def qh3 : Array Value := #[.string ⟨#[]⟩, .bool false, .int .i64 0, .int .i64 0, .int .i64 0, .int .i64 0, .int .i64 0, .int .i64 0, .slice none 0 0]
def QueR (nodes : List Node) (ws as_ : List Pw) (s : Bs) (w : World) (e : Ending) (w' : World) : Prop :=
 if qar s = false then e = .returned (.tuple #[.agg qh3, .int .i64 1]) /\ Below w.heap.size w w' else match findKey nodes (qaa s) with
  | none => e = .returned (.tuple #[.agg qh3, .int .i64 3]) /\ Below w.heap.size w w'
  | some n => ∃ v', e = .returned (.tuple #[.agg (qo6 (joinB n.key) n.leaf (pn0 nodes n.key) (pn1 nodes n.key) n.b0 n.b1 (ws0 (pun as_ n.key)) (ws1 (pun as_ n.key)) v'), .int .i64 0]) /\ w'.ownsRow 0 3 1 v' (qa4 ws n.blk).length (qfz (qa4 ws n.blk)) /\ Below w.heap.size w w' /\ (∀ b, v'.ownBlock = some b -> w.heap.size <= b)
set_option maxRecDepth 100000 in
set_option maxHeartbeats 2000000 in
theorem qmn {nodes : List Node} (T0 : Tree nodes) (hB : qa7 nodes) {w : World} {bt : Nat} {r : Node} {lst vw va : Value} {ws as_ : List Pw} (h : TwAt w nodes bt r lst vw va ws as_) (hr : r ∈ nodes) (hrk : r.key = []) (s : ByteArray) (hs : s.size <= 2000000) :
  Calls Tryz.prog 34 #[.pointer (some ⟨bt, 0, none⟩), .string s] w (QueR nodes ws as_ (bl s) w) := by
 have hval := fun W => qh2 s hs W
 have hbt := h.bk.at_.lt
 have htW : ∀ W, Below w.heap.size w W -> W.cell? ⟨bt, 0, none⟩ = some (nptr r.blk) := fun W (hW : Below w.heap.size w W) => (h.below hW).bk.at_.cell 0
 have hfind := fun W (hW : Below w.heap.size w W) v hv => qfh T0 hr hrk s hs W (h.below hW).ins v hv
 have hq : Calls Tryz.prog 34 #[.pointer (some ⟨bt, 0, none⟩), .string s] w (fun e w' => QueR nodes ws as_ (bl s) w e w') = Calls Tryz.prog 34 #[.pointer (some ⟨bt, 0, none⟩), .string s] w (QueR nodes ws as_ (bl s) w) := rfl
 rw [<- hq]
 clear hq
 unfold QueR
 have b0 : Blk (w.alloc (.cells qh3 37)) w.heap.size 37 qh3 := Blk.new w 37 _
 unfold qh3 at b0
 cases hv : qar (bl s)
 ·rw [hv] at hval
  simp only [if_true]
  clear hfind htW
  unfold qh3
  go_enter Tryz.func34, Tryz.ntmps34
  go_wp2_with (go_at_call 62; refine (hval _).mono ?_; rintro e w1 ⟨rfl, hb1⟩; have b1 := b0.below hb1 (by simp); have hcl := b1.cell; have hfr := b1.frozen)
  have hfin := (((((((((b1.set 0 (.string ⟨#[]⟩)).set 1 (.bool false)).set 2 (.int .i64 0)).set 3 (.int .i64 0)).set 4 (.int .i64 0)).set 5 (.int .i64 0)).set 6 (.int .i64 0)).set 7 (.int .i64 0)).set 8 (.slice none 0 0))
  have hc := hfin.cell
  clear hcl hfr
  have hB1 : Below w.heap.size w w1 := qac (by exact bel2) hb1
  exact bodyPost_ret (v := .tuple #[.agg #[.string ⟨#[]⟩, .bool false, .int .i64 0, .int .i64 0, .int .i64 0, .int .i64 0, .int .i64 0, .int .i64 0, .slice none 0 0], .int .i64 1]) (by simp [results, Tryz.results34, go_sem, hc]) rfl ⟨rfl, by exact bel2⟩
 ·rw [hv] at hval
  simp only [Bool.true_eq_false, if_false]
  cases hf : findKey nodes (qaa (bl s)) with
  | none =>
   rw [hf] at hfind
   clear hf
   unfold nptr at hfind htW
   unfold qh3
   go_enter Tryz.func34, Tryz.ntmps34
   go_wp2_with (first
    | (go_at_call 62; refine (hval _).mono ?_; rintro e w1 ⟨rfl, hb1⟩; have hB1 : Below w.heap.size w w1 := qac (by exact bel2) hb1; have b1 := b0.below hb1 (by simp); have ht1 := htW w1 hB1)
    | (go_at_call 63; refine (hfind _ hB1 (.pointer none) rfl).mono ?_; rintro e w2 ⟨rfl, hb2⟩; have hB2 : Below w.heap.size w w2 := qac hB1 hb2; have b2 := b1.below hb2 (by have := hb1.size; simp at this; omega); have hcl := b2.cell; have hfr := b2.frozen; clear hfind htW))
   have hfin := (((((((((b2.set 0 (.string ⟨#[]⟩)).set 1 (.bool false)).set 2 (.int .i64 0)).set 3 (.int .i64 0)).set 4 (.int .i64 0)).set 5 (.int .i64 0)).set 6 (.int .i64 0)).set 7 (.int .i64 0)).set 8 (.slice none 0 0))
   have hc := hfin.cell
   clear hcl hfr
   exact bodyPost_ret (v := .tuple #[.agg #[.string ⟨#[]⟩, .bool false, .int .i64 0, .int .i64 0, .int .i64 0, .int .i64 0, .int .i64 0, .int .i64 0, .slice none 0 0], .int .i64 3]) (by simp [results, Tryz.results34, go_sem, hc]) rfl ⟨rfl, by exact bel2⟩
  | some n =>
   obtain ⟨hn, hnk⟩ := qbw hf
   rw [hf] at hfind
   clear hf
   have htell := fun W (hW : Below w.heap.size w W) => qop T0 hB (h.below hW) hn
   simp only [nptr] at hfind
   unfold nptr at htW htell
   dsimp only
   unfold qo6 at htell ⊢
   generalize pn0 nodes n.key = s0 at *
   generalize pn1 nodes n.key = s1 at *
   generalize ws0 (pun as_ n.key) = u0 at *
   generalize ws1 (pun as_ n.key) = u1 at *
   generalize sb (joinB n.key) = pth at *
   generalize (qa4 ws n.blk).length = wl at *
   generalize qfz (qa4 ws n.blk) = wn at *
   go_enter Tryz.func34, Tryz.ntmps34
   go_wp2_with (first
    | (go_at_call 62; refine (hval _).mono ?_; rintro e w1 ⟨rfl, hb1⟩; have hB1 : Below w.heap.size w w1 := qac (by exact bel2) hb1; have b1 := b0.below hb1 (by simp); have ht1 := htW w1 hB1)
    | (go_at_call 63; refine (hfind _ hB1 (.pointer (some ⟨n.blk, 0, none⟩)) rfl).mono ?_; rintro e w2 ⟨rfl, hb2⟩; have hB2 : Below w.heap.size w w2 := qac hB1 hb2; have b2 := b1.below hb2 (by have := hb1.size; simp at this; omega))
    | (go_at_call 64; refine (htell _ hB2).mono ?_; rintro e w3 ⟨v3, rfl, hr3, hb3, hv3⟩; have hB3 : Below w.heap.size w w3 := qac hB2 hb3; obtain ⟨a3, c3, hvv, _, _⟩ := qbe hr3; subst hvv; have b3 := b2.below hb3 (by have := hb1.size; have := hb2.size; simp at *; omega); have hcl := b3.cell; have hfr := b3.frozen; clear hfind htW htell))
   have hfin := (((((((((b3.set 0 (.string pth)).set 1 (.bool n.leaf)).set 2 (.int .i64 s0)).set 3 (.int .i64 s1)).set 4 (.int .i64 n.b0)).set 5 (.int .i64 n.b1)).set 6 (.int .i64 u0)).set 7 (.int .i64 u1)).set 8 (.slice a3 wl c3))
   have hc := hfin.cell
   have hk := (((((((((Keep.refl (fun b => b = w.heap.size) w3).setCell (p := ⟨w.heap.size, 0, none⟩) rfl (.string pth)).setCell (p := ⟨w.heap.size, 1, none⟩) rfl (.bool n.leaf)).setCell (p := ⟨w.heap.size, 2, none⟩) rfl (.int .i64 s0)).setCell (p := ⟨w.heap.size, 3, none⟩) rfl (.int .i64 s1)).setCell (p := ⟨w.heap.size, 4, none⟩) rfl (.int .i64 n.b0)).setCell (p := ⟨w.heap.size, 5, none⟩) rfl (.int .i64 n.b1)).setCell (p := ⟨w.heap.size, 6, none⟩) rfl (.int .i64 u0)).setCell (p := ⟨w.heap.size, 7, none⟩) rfl (.int .i64 u1)).setCell (p := ⟨w.heap.size, 8, none⟩) rfl (.slice a3 wl c3)
   have hlt : w.heap.size < w2.heap.size := by have := hb1.size; have := hb2.size; simp at *; omega
   clear hcl hfr
   exact bodyPost_ret (v := .tuple #[.agg #[.string pth, .bool n.leaf, .int .i64 s0, .int .i64 s1, .int .i64 n.b0, .int .i64 n.b1, .int .i64 u0, .int .i64 u1, .slice a3 wl c3], .int .i64 0]) (by simp [results, Tryz.results34, go_sem, hc]) rfl ⟨_, rfl, qab hr3 hk (fun b hb e => by have := hv3 b hb; omega), hB3.trans (hk.toBelow hB3.size (fun b hb e => by omega)), fun b hb => by have := hv3 b hb; omega⟩
def qg5 : Array Value := #[.string ⟨#[]⟩, .int .i64 0, .int .i64 0, .bool false]
def WrkR (ws as_ : List Pw) (num : Int) (w : World) (e : Ending) (w' : World) : Prop :=
 match qc3 as_ num with
 | some p => e = .returned (.tuple #[.agg #[.string (sb (joinB p.x.key)), .int .i64 p.x.d0, .int .i64 p.x.d1, .bool true], .int .i64 0]) /\ Below w.heap.size w w'
 | none => match qc3 ws num with
  | some p => e = .returned (.tuple #[.agg #[.string (sb (joinB p.x.key)), .int .i64 p.x.d0, .int .i64 p.x.d1, .bool false], .int .i64 0]) /\ Below w.heap.size w w'
  | none => e = .returned (.tuple #[.agg qg5, .int .i64 12]) /\ Below w.heap.size w w'
set_option maxRecDepth 100000 in
set_option maxHeartbeats 2000000 in
theorem qi8 {nodes : List Node} (T0 : Tree nodes) {w : World} {bt : Nat} {r : Node} {lst vw va : Value} {ws as_ : List Pw} (h : TwAt w nodes bt r lst vw va ws as_) (num : Int) {p : Pw} (hp : p ∈ ws ++ as_) {b : Bool} (hb : findBk ws as_ num = (nptr p.blk, b)) :
  Calls Tryz.prog 22 #[.pointer (some ⟨bt, 0, none⟩), .int .i64 num] w fun e w' => e = .returned (.tuple #[.agg #[.string (sb (joinB p.x.key)), .int .i64 p.x.d0, .int .i64 p.x.d1, .bool b], .int .i64 0]) /\ Below w.heap.size w w' := by
 have hfind := fun W (hW : Below w.heap.size w W) => qf5 (h.below hW).bk num
 obtain ⟨n, hn, hnq, hnk⟩ := h.lf p hp
 have hpath := fun W (hW : Below w.heap.size w W) => qhh T0 n.key.length n hn rfl W (h.below hW).ins
 have hwk : ∀ W, Below w.heap.size w W -> Blk W p.blk 105 p.cells := fun W hW => (h.below hW).bk.works p hp
 rw [hb] at hfind
 rw [hnk, hnq] at hpath
 unfold nptr at hfind hpath
 have b0 : Blk (w.alloc (.cells qg5 52)) w.heap.size 52 qg5 := Blk.new w 52 _
 unfold qg5 at b0
 have hbt := h.bk.at_.lt
 generalize sb (joinB p.x.key) = pth at *
 unfold Pw.cells nptr at hwk
 have hpl := (h.bk.works p hp).lt
 have b00 : Blk (w.alloc (.cells #[.string ⟨#[]⟩, .int .i64 0, .int .i64 0, .bool false] 52)).drew w.heap.size 52 #[.string ⟨#[]⟩, .int .i64 0, .int .i64 0, .bool false] := Blk.new w 52 _
 have c1 := (hwk w (Below.refl _ _)).cell 1
 have c2 := (hwk w (Below.refl _ _)).cell 2
 have c3 := (hwk w (Below.refl _ _)).cell 3
 simp only [List.getElem?_toArray, List.getElem?_cons_zero, List.getElem?_cons_succ] at c1 c2 c3
 have n1 := World.new_ne w _ c1
 have n2 := World.new_ne w _ c2
 have n3 := World.new_ne w _ c3
 go_enter Tryz.func22, Tryz.ntmps22
 go_upto_region 4 with (first
  | (go_at_call 46; refine (hfind _ ?_).mono ?_; (focus exact bel2); rintro e w1 ⟨rfl, hw1⟩; subst hw1))
 go_region_held3 (fun w' => w'.cell? ⟨p.blk, 1, none⟩ = some (.pointer (some ⟨p.q, 0, none⟩)) /\ w'.cell? ⟨p.blk, 2, none⟩ = some (.int .i64 p.x.d0) /\ w'.cell? ⟨p.blk, 3, none⟩ = some (.int .i64 p.x.d1)) (go_keep)
  (first
   | (go_at_call 47; refine (hpath _ ?_).mono ?_; (focus exact bel2); rintro e w2 ⟨rfl, hb2⟩; have hB2 : Below w.heap.size w w2 := qac (by exact bel2) hb2; have hblk := b00.below hb2 (by simp); have hcl := hblk.cell; have hfr := hblk.frozen; have d1 := (hwk w2 hB2).cell 1; have d2 := (hwk w2 hB2).cell 2; have d3 := (hwk w2 hB2).cell 3; simp only [List.getElem?_toArray, List.getElem?_cons_zero, List.getElem?_cons_succ] at d1 d2 d3))
 go_wp2_with fail
 have hfin := (((hblk.set 0 (.string pth)).set 1 (.int .i64 p.x.d0)).set 2 (.int .i64 p.x.d1)).set 3 (.bool b)
 have hc := hfin.cell
 clear hcl hfr
 exact bodyPost_ret (v := .tuple #[.agg #[.string pth, .int .i64 p.x.d0, .int .i64 p.x.d1, .bool b], .int .i64 0]) (by simp [results, Tryz.results22, go_sem, hc]) rfl ⟨rfl, by exact bel2⟩
set_option maxRecDepth 100000 in
set_option maxHeartbeats 2000000 in
theorem qot {nodes : List Node} {w : World} {bt : Nat} {r : Node} {lst vw va : Value} {ws as_ : List Pw} (h : TwAt w nodes bt r lst vw va ws as_) (num : Int) (hb : findBk ws as_ num = (.pointer none, false)) :
  Calls Tryz.prog 22 #[.pointer (some ⟨bt, 0, none⟩), .int .i64 num] w fun e w' => e = .returned (.tuple #[.agg qg5, .int .i64 12]) /\ Below w.heap.size w w' := by
 have hfind := fun W (hW : Below w.heap.size w W) => qf5 (h.below hW).bk num
 rw [hb] at hfind
 have b0 : Blk (w.alloc (.cells qg5 52)) w.heap.size 52 qg5 := Blk.new w 52 _
 unfold qg5 at b0 ⊢
 have hbt := h.bk.at_.lt
 have hcl := b0.cell
 have hfr := b0.frozen
 go_enter Tryz.func22, Tryz.ntmps22
 go_wp2_with (first
  | (go_at_call 46; refine (hfind _ ?_).mono ?_; (focus exact bel2); rintro e w1 ⟨rfl, hw1⟩; subst hw1))
 have hfin := (((b0.set 0 (.string ⟨#[]⟩)).set 1 (.int .i64 0)).set 2 (.int .i64 0)).set 3 (.bool false)
 have hc := hfin.cell
 clear hcl hfr
 exact bodyPost_ret (v := .tuple #[.agg #[.string ⟨#[]⟩, .int .i64 0, .int .i64 0, .bool false], .int .i64 12]) (by simp [results, Tryz.results22, go_sem, hc]) rfl ⟨rfl, by exact bel2⟩
theorem qpc {nodes : List Node} (T0 : Tree nodes) {w : World} {bt : Nat} {r : Node} {lst vw va : Value} {ws as_ : List Pw} (h : TwAt w nodes bt r lst vw va ws as_) (num : Int) :
  Calls Tryz.prog 22 #[.pointer (some ⟨bt, 0, none⟩), .int .i64 num] w (WrkR ws as_ num w) := by
 cases ha : qc3 as_ num with
 | some p =>
  refine (qi8 T0 h num (p := p) (List.mem_append_right _ (List.mem_of_find?_eq_some ha)) (b := true) (by simp [findBk, ha])).mono ?_
  intro e w' h1
  simp only [WrkR, ha]
  exact h1
 | none =>
  cases hw : qc3 ws num with
  | some p =>
   refine (qi8 T0 h num (p := p) (List.mem_append_left _ (List.mem_of_find?_eq_some hw)) (b := false) (by simp [findBk, ha, hw, optP])).mono ?_
   intro e w' h1
   simp only [WrkR, ha, hw]
   exact h1
  | none =>
   refine (qot h num (by simp [findBk, ha, hw, optP])).mono ?_
   intro e w' h1
   simp only [WrkR, ha, hw]
   exact h1
def errWk (nodes : List Node) (cnt : Nat) (s : Bs) (ok : Bool) : Int :=
 if qar s = false then 1 else match findKey nodes (qaa s) with
 | none => 3
 | some n => if n.leaf = false then 5 else if ok = false then 6 else if 24 <= cnt then 7 else 0
set_option maxRecDepth 100000 in
set_option maxHeartbeats 2000000 in
theorem qez {nodes : List Node} (T0 : Tree nodes) {w : World} {bt : Nat} {r : Node} {lst vw va : Value} {ws as_ : List Pw} (h : TwAt w nodes bt r lst vw va ws as_) (hr : r ∈ nodes) (hrk : r.key = []) (s : ByteArray) (hs : s.size <= 2000000) (a b : Int) :
  Calls Tryz.prog 99 #[.pointer (some ⟨bt, 0, none⟩), .string s, .agg #[.int .i64 a, .int .i64 b]] w fun e w' => e = .returned (.int .i64 (errWk nodes (ws.length + as_.length) (bl s) (qao a b))) /\ Below w.heap.size w w' := by
 have hval := fun W => qh2 s hs W
 have hbt := h.bk.at_.lt
 have hlen := h.bk.len
 have htW : ∀ W, Below w.heap.size w W -> W.cell? ⟨bt, 0, none⟩ = some (nptr r.blk) := fun W (hW : Below w.heap.size w W) => (h.below hW).bk.at_.cell 0
 have hfind := fun W (hW : Below w.heap.size w W) v hv => qfh T0 hr hrk s hs W (h.below hW).ins v hv
 have hfair := fun W => qin a b W
 have hcnt := fun W (hW : Below w.heap.size w W) => qpp (h.below hW).bk
 have hleaf := fun n (hn : n ∈ nodes) W (hW : Below w.heap.size w W) => qko n.blk n.leaf W (((h.below hW).ins n hn).cell rfl)
 have b0 : Blk (w.alloc (.cells #[.int .i64 a, .int .i64 b] 35)) w.heap.size 35 #[.int .i64 a, .int .i64 b] := Blk.new w 35 _
 generalize ws.length + as_.length = cnt at hcnt hlen ⊢
 unfold errWk
 unfold nptr at htW
 cases hv : qar (bl s)
 ·rw [hv] at hval
  simp only [if_true]
  clear hfind htW hcnt hfair hleaf
  go_enter Tryz.func99, Tryz.ntmps99
  go_wp2_with (go_at_call 62; refine (hval _).mono ?_; rintro e w1 ⟨rfl, hb1⟩)
  refine bodyPost_ret (v := .int .i64 1) (by simp [results, Tryz.results99, go_sem]) rfl ⟨rfl, ?_⟩
  exact qac (by exact bel2) hb1
 ·rw [hv] at hval
  simp only [Bool.true_eq_false, if_false]
  cases hf : findKey nodes (qaa (bl s)) with
  | none =>
   rw [hf] at hfind
   clear hf hcnt hfair hleaf
   unfold nptr at hfind
   go_enter Tryz.func99, Tryz.ntmps99
   go_wp2_with (first
    | (go_at_call 62; refine (hval _).mono ?_; rintro e w1 ⟨rfl, hb1⟩; have hB1 : Below w.heap.size w w1 := qac (by exact bel2) hb1; have ht1 := htW w1 hB1)
    | (go_at_call 63; refine (hfind _ hB1 (.pointer none) rfl).mono ?_; rintro e w2 ⟨rfl, hb2⟩; have hB2 : Below w.heap.size w w2 := qac hB1 hb2))
   refine bodyPost_ret (v := .int .i64 3) (by simp [results, Tryz.results99, go_sem]) rfl ⟨rfl, ?_⟩
   exact hB2
  | some n =>
   obtain ⟨hn, hnk⟩ := qbw hf
   rw [hf] at hfind
   replace hleaf := hleaf n hn
   clear hf
   simp only [nptr] at hfind
   dsimp only
   cases hl : n.leaf
   ·rw [hl] at hleaf
    simp only [if_true]
    clear hcnt hfair
    go_enter Tryz.func99, Tryz.ntmps99
    go_wp2_with (first
     | (go_at_call 62; refine (hval _).mono ?_; rintro e w1 ⟨rfl, hb1⟩; have hB1 : Below w.heap.size w w1 := qac (by exact bel2) hb1; have ht1 := htW w1 hB1)
     | (go_at_call 63; refine (hfind _ hB1 (.pointer (some ⟨n.blk, 0, none⟩)) rfl).mono ?_; rintro e w2 ⟨rfl, hb2⟩; have hB2 : Below w.heap.size w w2 := qac hB1 hb2)
     | (go_at_call 105; refine (hleaf _ hB2).mono ?_; rintro e w3 ⟨rfl, hw3⟩; subst hw3))
    refine bodyPost_ret (v := .int .i64 5) (by simp [results, Tryz.results99, go_sem]) rfl ⟨rfl, ?_⟩
    exact hB2
   ·rw [hl] at hleaf
    simp only [Bool.true_eq_false, if_false]
    cases hfr : qao a b
    ·rw [hfr] at hfair
     simp only [if_true]
     clear hcnt
     go_enter Tryz.func99, Tryz.ntmps99
     go_wp2_with (first
      | (go_at_call 62; refine (hval _).mono ?_; rintro e w1 ⟨rfl, hb1⟩; have hB1 : Below w.heap.size w w1 := qac (by exact bel2) hb1; have ht1 := htW w1 hB1; have b1 := b0.below hb1 (by simp))
      | (go_at_call 63; refine (hfind _ hB1 (.pointer (some ⟨n.blk, 0, none⟩)) rfl).mono ?_; rintro e w2 ⟨rfl, hb2⟩; have hB2 : Below w.heap.size w w2 := qac hB1 hb2; have b2 := b1.below hb2 (by have := hb1.size; simp at this; omega); have hcl := b2.cell)
      | (go_at_call 105; refine (hleaf _ hB2).mono ?_; rintro e w3 ⟨rfl, hw3⟩; subst hw3)
      | (go_at_call 147; refine (hfair _).mono ?_; rintro e w4 ⟨rfl, hb4⟩; have hB4 : Below w.heap.size w w4 := qac hB2 hb4))
     refine bodyPost_ret (v := .int .i64 6) (by simp [results, Tryz.results99, go_sem]) rfl ⟨rfl, ?_⟩
     exact hB4
    ·rw [hfr] at hfair
     simp only [Bool.true_eq_false, if_false]
     have hge : (decide ((24 : Int) <= (cnt : Int))) = decide (24 <= cnt) := by simp only [decide_eq_decide]; omega
     go_enter Tryz.func99, Tryz.ntmps99
     go_wp2_with (first
      | (go_at_call 62; refine (hval _).mono ?_; rintro e w1 ⟨rfl, hb1⟩; have hB1 : Below w.heap.size w w1 := qac (by exact bel2) hb1; have ht1 := htW w1 hB1; have b1 := b0.below hb1 (by simp))
      | (go_at_call 63; refine (hfind _ hB1 (.pointer (some ⟨n.blk, 0, none⟩)) rfl).mono ?_; rintro e w2 ⟨rfl, hb2⟩; have hB2 : Below w.heap.size w w2 := qac hB1 hb2; have b2 := b1.below hb2 (by have := hb1.size; simp at this; omega); have hcl := b2.cell)
      | (go_at_call 105; refine (hleaf _ hB2).mono ?_; rintro e w3 ⟨rfl, hw3⟩; subst hw3)
      | (go_at_call 147; refine (hfair _).mono ?_; rintro e w4 ⟨rfl, hb4⟩; have hB4 : Below w.heap.size w w4 := qac hB2 hb4)
      | (go_at_call 148; refine (hcnt _ hB4).mono ?_; rintro e w5 ⟨rfl, m, hw5⟩; subst hw5))
     ·exact bodyPost_ret (v := .int .i64 7) (by simp [results, Tryz.results99, go_sem]) rfl ⟨rfl, below_drewN hB4 _⟩
     ·exact bodyPost_ret (v := .int .i64 0) (by simp [results, Tryz.results99, go_sem]) rfl ⟨rfl, below_drewN hB4 _⟩
end Go.Proofs.YtphclnolomgjoaaGreatDoor
