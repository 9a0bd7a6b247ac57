import Derived.Test.YtphclnolomgjoaaGreatDoorC03
set_option linter.unusedVariables false
set_option linter.unusedSimpArgs false
namespace Go.Proofs.YtphclnolomgjoaaGreatDoor
open Go.RowKit Go.Shelf
attribute [local go_sem] Oper.semAt_some
def sum0 (l : List Node) : Int := (l.map (·.n0)).sum
def sum1 (l : List Node) : Int := (l.map (·.n1)).sum
theorem qsx (l : List Node) (x : Node) : sum0 (l ++ [x]) = sum0 l + x.n0 := by simp [sum0]
theorem qqz (l : List Node) (x : Node) : sum1 (l ++ [x]) = sum1 l + x.n1 := by simp [sum1]
theorem qre (l : List Node) (h : ∀ n ∈ l, 0 <= n.n0 /\ n.n0 <= 1000) : 0 <= sum0 l /\ sum0 l <= 1000 * l.length := by
 induction l with
 | nil => simp [sum0]
 | cons a l ih =>
  have h1 := ih (fun n hn => h n (by simp [hn]))
  have h2 := h a (by simp)
  simp [sum0] at h1 ⊢; omega
theorem qqj (l : List Node) (h : ∀ n ∈ l, 0 <= n.n1 /\ n.n1 <= 1000) : 0 <= sum1 l /\ sum1 l <= 1000 * l.length := by
 induction l with
 | nil => simp [sum1]
 | cons a l ih =>
  have h1 := ih (fun n hn => h n (by simp [hn]))
  have h2 := h a (by simp)
  simp [sum1] at h1 ⊢; omega
theorem qq2 {nodes : List Node} {ch : Node -> List Node} (K : Kids nodes ch) : ∀ (f : Nat) (n : Node), n ∈ nodes -> ∀ k ∈ dfs ch f n, k ∈ nodes := by
 intro f
 induction f with
 | zero => intro n hn k hk; simp [dfs] at hk; subst hk; exact hn
 | succ f ih =>
  intro n hn k hk
  simp only [dfs, List.mem_cons, List.mem_flatMap] at hk
  rcases hk with rfl | ⟨c, hc, hk⟩
  ·exact hn
  ·exact ih c ((K.mem n hn c).1 hc).1 k hk
set_option maxRecDepth 100000 in
set_option maxHeartbeats 2000000 in
theorem qun {nodes : List Node} (T : Tree nodes) {ch : Node -> List Node} (K : Kids nodes ch) {r : Node} (hr : r ∈ nodes) (hlen : (dfs ch 4 r).length <= 100) (bt : Nat) (w : World) (hN : ∀ n ∈ nodes, qan w n) (ht : w.cell? ⟨bt, 0, none⟩ = some (nptr r.blk)) :
  Calls Tryz.prog 182 #[.pointer (some ⟨bt, 0, none⟩)] w fun e w' => e = .returned (.bool (decide (20 <= (dfs ch 4 r).length))) /\ Below w.heap.size w w' := by
 have hdd : ∀ k : Nat, Fence.wide.depth.isSome = true -> 1 <= k := fun k h => by simp [Fence.wide] at h
 have hlt := World.block_lt_of_cell? w _ ht
 have hall : ∀ W, (∀ n ∈ nodes, qan W n) -> _ := fun W hW => qm5 T K hr W hW
 generalize hX : dfs ch 4 r = X at hall hlen ⊢
 refine (callsIn_wide (n := 3)).1 ?_
 refine callsIn_of_wp_marks Tryz.func182 rfl trivial ?_ rfl
 unfold nptr at ht
 simp only [Tryz.ntmps182, List.size_toArray, List.length_cons, List.length_nil, Nat.reduceAdd, Nat.reduceSub, Array.replicate_succ, Array.replicate_zero, List.push_toArray, List.append_toArray, List.nil_append, List.cons_append]
 unfold nptr at hall
 gi_wp2_with ((first | refine ⟨trivial, hdd _, ?_⟩ | refine ⟨trivial, ?_⟩); gi_at_call 101; refine (callsIn_wide.2 (hall _ (fun n hn => (hN n hn).below (by (repeat (first | exact Below.refl _ _ | refine qac ?_ (by assumption) | refine Below.setCell ?_ (by first | omega | (simp <;> omega)) _ | refine Below.alloc ?_ (by first | omega | (simp <;> omega)) _ | refine Below.drew ?_ | refine below_drewN ?_ _)))))).mono ?_; rintro e W ⟨rfl, rfl, hseq⟩)
 obtain ⟨W, hW⟩ : ∃ W, W = (w.alloc (.cells #[.int .i64 0] 3)).alloc (.cells #[.pointer (some ⟨r.blk, 0, none⟩)] 97) := ⟨_, rfl⟩
 have hsz : W.heap.size = w.heap.size + 2 := by rw [hW]; simp
 have e2 : (w.alloc (.cells #[.int .i64 0] 3)).heap.size = w.heap.size + 1 := by simp
 have hb2 : Box W w.heap.size 3 (.int .i64 0) := by rw [hW]; exact (Box.new w 3 _).alloc _
 have hbw : Below w.heap.size w W := by rw [hW]; (repeat (first | exact Below.refl _ _ | refine qac ?_ (by assumption) | refine Below.setCell ?_ (by first | omega | (simp <;> omega)) _ | refine Below.alloc ?_ (by first | omega | (simp <;> omega)) _ | refine Below.drew ?_ | refine below_drewN ?_ _))
 rw [e2] at hseq
 simp only [<- hW] at hseq ⊢
 have hq := hseq (fun b => b = w.heap.size \/ W.heap.size <= b) (fun k hk => ⟨fun h => by have := (hN k hk).lt; omega, fun g hg h => by have := ((hN k hk).row.lt g hg).2; omega⟩)
 clear hseq hall e2 hW
 refine qgy (T := fun b => b = w.heap.size) (S := fun _ => False) rfl (enters_of Tryz.func149 (by kernel_rfl) rfl) hq (Below.refl _ _) rfl (fun b h => h.elim) (fun b h => by omega)
  (fun pre A => Box A w.heap.size 3 (.int .i64 pre.length) /\ Below w.heap.size w A)
  (fun c pre A => False)
  (fun pre A B hs hk => ⟨hs.1.keep hk (fun h => by rcases h with h | h; exact h; omega), hs.2.trans (hk.toBelow hs.2.size (fun b hb' h => by rcases h with h | h; exact h; omega))⟩)
  (fun c pre A B hs hk => hs)
  ⟨hb2, hbw⟩
  (fun x => { tmps := #[.pointer (some ⟨bt, 0, none⟩), undef, .bool false, .pointer (some ⟨w.heap.size, 0, none⟩), .pointer (some ⟨bt, 0, none⟩), .pointer (some ⟨bt, 0, none⟩), .pointer (some ⟨bt, 0, none⟩), .pointer (some ⟨r.blk, 0, none⟩),
   .func (.func 149) #[] #[.pointer (some ⟨w.heap.size + 1, 0, none⟩)], .pointer (some ⟨x.blk, 0, none⟩), undef, undef, undef, undef], defers := [] }) ?assign ?body ?done ?stop
 case assign =>
  intro l x W K hK
  gi_wp2
  simpa using hK
 case body =>
  rintro l pre x W2 ⟨hbox, hbel⟩ hszW hpre
  have hc := hbox.cell
  have hf := hbox.frozen
  have hpl : pre.length < X.length := by have := hpre.length_le; simp at this; omega
  gi_wp2
  refine ⟨(Keep.refl (fun b => b = w.heap.size) _).setCell (p := ⟨w.heap.size, 0, none⟩) rfl _, ?_, hbel.setCell (Nat.le_refl _) _⟩
  have := hbox.set (.int .i64 ((pre.length : Int) + 1))
  simpa using this
 case done =>
  rintro A ⟨hbox, hbel⟩ hD
  have hc := hbox.cell
  gi_wp2
  refine ⟨by simp, .inl ⟨_, _, rfl, run_takeDeferred hD, ?_⟩⟩
  refine ⟨.bool (decide (20 <= (X.length : Int))), results_tmp (t := 2) rfl _ _ _, qa9 (by simp only [decide_eq_decide]; omega), qa8 hbel _ _ (by omega)⟩
 case stop =>
  rintro c pre A _ h _
  exact h.elim
theorem qv4 {w W2 w' : World} (h : Below w.heap.size w W2) (hb : Below W2.drew.heap.size W2.drew w') : Below w.heap.size w w' := qac h.drew hb
set_option maxRecDepth 100000 in
set_option maxHeartbeats 2000000 in
theorem qnm {nodes : List Node} (T : Tree nodes) {ch : Node -> List Node} (K : Kids nodes ch) {n : Node} (hn : n ∈ nodes) (hlen : (dfs ch 4 n).length <= 90) (w : World) (hN : ∀ n ∈ nodes, qan w n) :
  Calls Tryz.prog 85 #[nptr n.blk] w fun e w' => e = .returned (.agg #[.int .i64 (sum0 (dfs ch 4 n)), .int .i64 (sum1 (dfs ch 4 n))]) /\ Below w.heap.size w w' := by
 have hdd : ∀ k : Nat, Fence.wide.depth.isSome = true -> 1 <= k := fun k h => by simp [Fence.wide] at h
 have hall : ∀ W, (∀ n ∈ nodes, qan W n) -> _ := fun W hW => qm5 T K hn W hW
 have hmem := qq2 K 4 n hn
 generalize hX : dfs ch 4 n = X at hall hlen hmem ⊢
 refine (callsIn_wide (n := 3)).1 ?_
 refine callsIn_of_wp_marks Tryz.func85 rfl trivial ?_ rfl
 unfold nptr at hall ⊢
 simp only [Tryz.ntmps85, List.size_toArray, List.length_cons, List.length_nil, Nat.reduceAdd, Nat.reduceSub, Array.replicate_succ, Array.replicate_zero, List.push_toArray, List.append_toArray, List.nil_append, List.cons_append]
 gi_wp2_with ((first | refine ⟨trivial, hdd _, ?_⟩ | refine ⟨trivial, ?_⟩); gi_at_call 101; refine (callsIn_wide.2 (hall _ (fun n hn => (hN n hn).below (by (repeat (first | exact Below.refl _ _ | refine qac ?_ (by assumption) | refine Below.setCell ?_ (by first | omega | (simp <;> omega)) _ | refine Below.alloc ?_ (by first | omega | (simp <;> omega)) _ | refine Below.drew ?_ | refine below_drewN ?_ _)))))).mono ?_; rintro e W ⟨rfl, rfl, hseq⟩)
 obtain ⟨W, hW⟩ : ∃ W, W = ((w.alloc (.cells #[.int .i64 0, .int .i64 0] 35)).alloc (.cells #[.int .i64 0, .int .i64 0] 35)).alloc (.cells #[.pointer (some ⟨n.blk, 0, none⟩)] 97) := ⟨_, rfl⟩
 have hsz : W.heap.size = w.heap.size + 3 := by rw [hW]; simp
 have e2 : ((w.alloc (.cells #[.int .i64 0, .int .i64 0] 35)).alloc (.cells #[.int .i64 0, .int .i64 0] 35)).heap.size = w.heap.size + 2 := by simp
 have hb2 : Blk W w.heap.size 35 #[.int .i64 0, .int .i64 0] := by rw [hW]; exact ((Blk.new w 35 _).alloc _).alloc _
 have hb3 : Blk W (w.heap.size + 1) 35 #[.int .i64 0, .int .i64 0] := by
  rw [hW]; have := Blk.new (w.alloc (.cells #[.int .i64 0, .int .i64 0] 35)) 35 #[.int .i64 0, .int .i64 0]
  rw [World.size_alloc] at this; exact this.alloc _
 have hbw : Below w.heap.size w W := by rw [hW]; (repeat (first | exact Below.refl _ _ | refine qac ?_ (by assumption) | refine Below.setCell ?_ (by first | omega | (simp <;> omega)) _ | refine Below.alloc ?_ (by first | omega | (simp <;> omega)) _ | refine Below.drew ?_ | refine below_drewN ?_ _))
 rw [e2] at hseq
 simp only [<- hW] at hseq ⊢
 have hq := hseq (fun b => b = w.heap.size + 1 \/ W.heap.size <= b) (fun k hk => ⟨fun h => by have := (hN k hk).lt; omega, fun g hg h => by have := ((hN k hk).row.lt g hg).2; omega⟩)
 clear hseq hall e2 hW
 refine qgy (T := fun b => b = w.heap.size + 1) (S := fun _ => False) rfl (enters_of Tryz.func149 (by kernel_rfl) rfl) hq (Below.refl _ _) rfl (fun b h => h.elim) (fun b h => by omega)
  (fun pre A => Blk A (w.heap.size + 1) 35 #[.int .i64 (sum0 pre), .int .i64 (sum1 pre)] /\ Blk A w.heap.size 35 #[.int .i64 0, .int .i64 0] /\ Below w.heap.size w A)
  (fun c pre A => False)
  (fun pre A B hs hk => ⟨hs.1.keep hk (fun h => by rcases h with h | h; exact h; omega), hs.2.1.keep hk (fun h => by rcases h with h | h; exact h; omega), hs.2.2.trans (hk.toBelow hs.2.2.size (fun b hb' h => by rcases h with h | h; exact h; omega))⟩)
  (fun c pre A B hs hk => hs)
  ⟨hb3, hb2, hbw⟩
  (fun x => { tmps := #[.pointer (some ⟨n.blk, 0, none⟩), undef, .pointer (some ⟨w.heap.size, 0, none⟩), .pointer (some ⟨w.heap.size + 1, 0, none⟩), .pointer (some ⟨x.blk, 0, none⟩), .pointer (some ⟨n.blk, 0, none⟩),
   .func (.func 149) #[] #[.pointer (some ⟨w.heap.size + 2, 0, none⟩)], .pointer (some ⟨x.blk, 0, none⟩), undef, undef, undef, undef, undef, undef, undef], defers := [] }) ?assign ?body ?done ?stop
 case assign =>
  intro l x W K hK
  gi_wp2
  exact hK
 case body =>
  rintro l pre x W2 ⟨hb3, hb2, hbel⟩ hszW hpre
  have hxm : x ∈ nodes := hmem x (hpre.subset (by simp))
  have hpm : ∀ k ∈ pre, k ∈ nodes := fun k hk => hmem k (hpre.subset (by simp [hk]))
  have hpl : pre.length < 90 := by have := hpre.length_le; simp at this; omega
  have s0 := qre pre (fun k hk => (T.num k (hpm k hk)).1)
  have s1 := qqj pre (fun k hk => (T.num k (hpm k hk)).2.1)
  have x0 := (T.num x hxm).1
  have x1 := (T.num x hxm).2.1
  have hNx := (hN x hxm).below hbel
  have c2 : W2.cell? ⟨x.blk, 2, none⟩ = some (.int .i64 x.n0) := hNx.cell rfl
  have c3 : W2.cell? ⟨x.blk, 3, none⟩ = some (.int .i64 x.n1) := hNx.cell rfl
  have d0 := hb3.cell 0
  have d1 := hb3.cell 1
  have f0 := hb3.frozen 0
  have f1 := hb3.frozen 1
  simp only [List.getElem?_toArray, List.getElem?_cons_zero, List.getElem?_cons_succ] at d0 d1
  have hadd := fun W => qid (sum0 pre) (sum1 pre) x.n0 x.n1 W (by omega) (by omega) (by omega) (by omega) (by omega) (by omega) (by omega) (by omega)
  have hmix : Tryz.prog.follows .mixedOrders = true := by kernel_rfl
  gi_wp2
  gi_region_with_o ((first | refine ⟨trivial, hdd _, ?_⟩ | refine ⟨trivial, ?_⟩ | skip); gi_at_call 139; refine (CallsIn.inRound l (callsIn_wide.2 (hadd _))).mono ?_; rintro e w' ⟨rfl, hbA⟩; have g0 := (hbA.cell (p := ⟨w.heap.size + 1, 0, none⟩) hb3.lt).trans d0; have g1 := (hbA.cell (p := ⟨w.heap.size + 1, 1, none⟩) hb3.lt).trans d1; have q0 := (hbA.frozen (p := ⟨w.heap.size + 1, 0, none⟩) hb3.lt).trans f0; have q1 := (hbA.frozen (p := ⟨w.heap.size + 1, 1, none⟩) hb3.lt).trans f1)
  all_goals gi_wp2
  all_goals
   have hK : Keep (fun b => b = w.heap.size + 1) W2 w' := (Keep.refl _ W2).drew.trans (Keep.new hbA)
   refine ⟨(hK.setCell (p := ⟨w.heap.size + 1, 0, none⟩) rfl _).setCell (p := ⟨w.heap.size + 1, 1, none⟩) rfl _, ?_, ?_, ?_⟩
   ·have := ((hb3.drew.below hbA hb3.lt).set 0 (.int .i64 (sum0 pre + x.n0))).set 1 (.int .i64 (sum1 pre + x.n1))
    rw [qsx, qqz]
    simpa using this
   ·exact (((hb2.drew.below hbA hb2.lt).other _ _ (by simp)).other _ _ (by simp))
   ·exact ((qv4 hbel hbA).setCell (by simp) _).setCell (by simp) _
 case done =>
  rintro A ⟨hb3, hb2, hbel⟩ hD
  have d0 := hb3.cell 0
  have d1 := hb3.cell 1
  have e0 := hb2.cell 0
  have e1 := hb2.cell 1
  have f0 := hb2.frozen 0
  have f1 := hb2.frozen 1
  simp only [List.getElem?_toArray, List.getElem?_cons_zero, List.getElem?_cons_succ] at d0 d1 e0 e1
  gi_wp2
  have hb4 : Blk ((A.setCell ⟨w.heap.size, 0, none⟩ (.int .i64 (sum0 X))).setCell ⟨w.heap.size, 1, none⟩ (.int .i64 (sum1 X))) w.heap.size 35 #[.int .i64 (sum0 X), .int .i64 (sum1 X)] := by
   simpa using (hb2.set 0 (.int .i64 (sum0 X))).set 1 (.int .i64 (sum1 X))
  have hD' : ((A.setCell ⟨w.heap.size, 0, none⟩ (.int .i64 (sum0 X))).setCell ⟨w.heap.size, 1, none⟩ (.int .i64 (sum1 X))).heap[W.heap.size]? = some (.deferred (some [])) := by
   rw [Below.heap_setCell _ _ _ _ (by simp; omega), Below.heap_setCell _ _ _ _ (by simp; omega)]; exact hD
  have c0 := (hb4.put W.heap.size (.deferred none) (by omega)).cell 0
  have c1 := (hb4.put W.heap.size (.deferred none) (by omega)).cell 1
  simp only [List.getElem?_toArray, List.getElem?_cons_zero, List.getElem?_cons_succ] at c0 c1
  refine ⟨by simp, .inl ⟨_, _, rfl, run_takeDeferred hD', ?_⟩⟩
  refine ⟨.agg #[.int .i64 (sum0 X), .int .i64 (sum1 X)], by simp [results, Tryz.results104, go_sem, c0, c1], rfl, qa8 ((hbel.setCell (Nat.le_refl _) _).setCell (Nat.le_refl _) _) _ _ (by omega)⟩
 case stop =>
  rintro c pre A _ h _
  exact h.elim
end Go.Proofs.YtphclnolomgjoaaGreatDoor
namespace Go.Proofs.YtphclnolomgjoaaGreatDoor
open Go.RowKit
theorem qkw {α : Type} : ∀ {l l' : List α}, l.Nodup -> l'.Nodup -> (∀ x, x ∈ l ↔ x ∈ l') -> l.Perm l' := by
 intro l
 induction l with
 | nil =>
  intro l' _ _ h
  have : l' = [] := List.eq_nil_iff_forall_not_mem.2 (fun x hx => by simpa using (h x).2 hx)
  subst this; exact List.Perm.refl _
 | cons a l ih =>
  intro l' h1 h2 h
  obtain ⟨h3, h4⟩ := List.nodup_cons.1 h1
  obtain ⟨s, t, rfl⟩ := List.append_of_mem ((h a).1 (by simp))
  have hp : (s ++ a :: t).Perm (a :: (s ++ t)) := List.perm_middle
  have h5 := hp.nodup_iff.1 h2
  obtain ⟨h6, h7⟩ := List.nodup_cons.1 h5
  refine List.Perm.trans (List.Perm.cons a (ih h4 h7 (fun x => ?_))) hp.symm
  constructor
  ·intro hx
   have := (h x).1 (by simp [hx])
   simp only [List.mem_append, List.mem_cons] at this ⊢
   rcases this with h8 | rfl | h8
   ·exact .inl h8
   ·exact absurd hx h3
   ·exact .inr h8
  ·intro hx
   have := (h x).2 (by simp only [List.mem_append, List.mem_cons] at hx ⊢; rcases hx with h8 | h8; exact .inl h8; exact .inr (.inr h8))
   rcases List.mem_cons.1 this with rfl | h8
   ·exact absurd hx h6
   ·exact h8
theorem qka {nodes : List Node} (T : Tree nodes) {ch : Node -> List Node} (K : Kids nodes ch) : ∀ (f : Nat) (n : Node), n ∈ nodes -> 4 <= n.key.length + f -> ∀ m, m ∈ dfs ch f n ↔ (m ∈ nodes /\ n.key <+: m.key) := by
 intro f
 induction f with
 | zero =>
  intro n hn hk m
  simp only [dfs, List.mem_singleton]
  constructor
  ·rintro rfl; exact ⟨hn, List.prefix_refl _⟩
  ·rintro ⟨hm, hp⟩
   have h1 := (T.ok m hm).2
   have h2 := hp.length_le
   exact T.inj m hm n hn (hp.eq_of_length (by omega)).symm
 | succ f ih =>
  intro n hn hk m
  simp only [dfs, List.mem_cons, List.mem_flatMap]
  constructor
  ·rintro (rfl | ⟨c, hc, hm⟩)
   ·exact ⟨hn, List.prefix_refl _⟩
   ·obtain ⟨hcn, x, hx⟩ := (K.mem n hn c).1 hc
    obtain ⟨hm1, hm2⟩ := (ih c hcn (by rw [hx]; simp; omega) m).1 hm
    exact ⟨hm1, List.IsPrefix.trans ⟨[x], hx.symm⟩ hm2⟩
  ·rintro ⟨hm, r, hr⟩
   cases r with
   | nil => exact .inl (T.inj m hm n hn (by simpa using hr.symm))
   | cons x r =>
    right
    obtain ⟨c, hc, hck⟩ := T.pre r (n.key ++ [x]) m hm (by rw [<- hr]; simp)
    exact ⟨c, (K.mem n hn c).2 ⟨hc, x, hck⟩, (ih c hc (by rw [hck]; simp; omega) m).2 ⟨hm, r, by rw [hck, <- hr]; simp⟩⟩
theorem qsq {nodes : List Node} (T : Tree nodes) {ch : Node -> List Node} (K : Kids nodes ch) : ∀ (f : Nat) (n : Node), n ∈ nodes -> 4 <= n.key.length + f -> (dfs ch f n).Nodup := by
 intro f
 induction f with
 | zero => intro n hn hk; simp [dfs]
 | succ f ih =>
  intro n hn hk
  have hch : ∀ c ∈ ch n, c ∈ nodes /\ ∃ x, c.key = n.key ++ [x] := fun c hc => (K.mem n hn c).1 hc
  simp only [dfs]
  refine List.nodup_cons.2 ⟨?_, ?_⟩
  ·intro h
   obtain ⟨c, hc, hm⟩ := List.mem_flatMap.1 h
   obtain ⟨hcn, x, hx⟩ := hch c hc
   obtain ⟨_, hp⟩ := (qka T K f c hcn (by rw [hx]; simp; omega) n).1 hm
   have := hp.length_le
   rw [hx] at this; simp at this; omega
  ·have hs := K.sort n hn
   rw [List.pairwise_map] at hs
   have hcs : ∀ c ∈ ch n, c ∈ nodes /\ 4 <= c.key.length + f /\ ∃ x, c.key = n.key ++ [x] := fun c hc => by
    obtain ⟨h1, x, hx⟩ := hch c hc
    exact ⟨h1, by rw [hx]; simp; omega, x, hx⟩
   generalize ch n = cs at hs hcs
   induction cs with
   | nil => simp
   | cons c cs ih2 =>
    obtain ⟨h1, h2⟩ := List.pairwise_cons.1 hs
    obtain ⟨hcn, hc4, x, hx⟩ := hcs c (by simp)
    rw [List.flatMap_cons]
    refine List.nodup_append.2 ⟨ih c hcn hc4, ih2 h2 (fun k hk' => hcs k (by simp [hk'])), ?_⟩
    intro a ha b hb e
    subst e
    obtain ⟨c', hc', hm'⟩ := List.mem_flatMap.1 hb
    obtain ⟨hcn', hc4', y, hy⟩ := hcs c' (by simp [hc'])
    have p1 := ((qka T K f c hcn hc4 a).1 ha).2
    have p2 := ((qka T K f c' hcn' hc4' a).1 hm').2
    have hl : c.key.length = c'.key.length := by rw [hx, hy]; simp
    have : c.key = c'.key := by
     obtain ⟨r1, e1⟩ := p1; obtain ⟨r2, e2⟩ := p2
     exact (List.append_inj (e1.trans e2.symm) hl).1
    have h3 := h1 c' hc'
    rw [this, show cmpB (qbv c'.key) (qbv c'.key) = 0 from qei _] at h3
    omega
theorem qgl {nodes : List Node} (T : Tree nodes) {ch : Node -> List Node} (K : Kids nodes ch) (hnd : nodes.Nodup) {n : Node} (hn : n ∈ nodes) :
  (dfs ch 4 n).Perm (nodes.filter fun m => n.key.isPrefixOf m.key) := by
 refine qkw (qsq T K 4 n hn (by omega)) (hnd.filter _) (fun x => ?_)
 rw [qka T K 4 n hn (by omega), List.mem_filter, List.isPrefixOf_iff_prefix]
theorem Tree.nd {nodes : List Node} (T : Tree nodes) : nodes.Nodup := qcc T.nodup
theorem qt5 {nodes : List Node} (T : Tree nodes) {ch : Node -> List Node} (K : Kids nodes ch) {r : Node} (hr : r ∈ nodes) (hk : r.key = []) : (dfs ch 4 r).length = nodes.length := by
 have := (qgl T K T.nd hr).length_eq
 rw [this, hk]; simp
theorem qoe {nodes : List Node} (T : Tree nodes) {ch : Node -> List Node} (K : Kids nodes ch) {n : Node} (hn : n ∈ nodes) : (dfs ch 4 n).length <= 20 := by
 have := (qgl T K T.nd hn).length_eq
 rw [this]; exact Nat.le_trans (List.length_filter_le _ _) T.len
def under (nodes : List Node) (k : List Bs) : List Node := nodes.filter fun m => k.isPrefixOf m.key
theorem qoa {l l' : List Int} (h : l.Perm l') : l.sum = l'.sum := by
 induction h with
 | nil => rfl
 | cons x _ ih => simp [ih]
 | swap x y l => simp; omega
 | trans _ _ h1 h2 => exact h1.trans h2
theorem qtw {nodes : List Node} (T : Tree nodes) {ch : Node -> List Node} (K : Kids nodes ch) {n : Node} (hn : n ∈ nodes) : sum0 (dfs ch 4 n) = sum0 (under nodes n.key) := qoa ((qgl T K T.nd hn).map _)
theorem qti {nodes : List Node} (T : Tree nodes) {ch : Node -> List Node} (K : Kids nodes ch) {n : Node} (hn : n ∈ nodes) : sum1 (dfs ch 4 n) = sum1 (under nodes n.key) := qoa ((qgl T K T.nd hn).map _)
theorem qgm (k : List Bs) (h : qbn k = true) : (joinB k).length <= 5 * k.length := by
 induction k with
 | nil => simp [joinB]
 | cons a r ih =>
  have ha := (qea (qbz h (n := a) (by simp))).2
  have hr : qbn r = true := by simp only [qbn, List.all_cons, Bool.and_eq_true] at h; exact h.2
  by_cases e : r = []
  ·subst e; simp [joinB]; omega
  ·rw [qbq a r e]; have := ih hr; simp; omega
set_option maxRecDepth 100000 in
set_option maxHeartbeats 2000000 in
theorem qhh {nodes : List Node} (T : Tree nodes) : ∀ (j : Nat) (n : Node), n ∈ nodes -> n.key.length = j -> ∀ (w : World), (∀ n ∈ nodes, qan w n) ->
  Calls Tryz.prog 47 #[nptr n.blk] w fun e w' => e = .returned (.string (sb (joinB n.key))) /\ Below w.heap.size w w' := by
 intro j
 induction j with
 | zero =>
  intro n hn hj w hN
  have hk : n.key = [] := List.eq_nil_of_length_eq_zero hj
  have hu := T.top n hn hk
  have c6 : w.cell? ⟨n.blk, 6, none⟩ = some (.pointer none) := by have := (hN n hn).cell (i := 6) (v := uptr n.up) rfl; rw [hu] at this; exact this
  rw [hk]
  unfold nptr
  go_enter Tryz.func47, Tryz.ntmps47
  go_wp2
  go_ret
  exact ⟨rfl, Below.refl _ _⟩
 | succ j ih =>
  intro n hn hj w hN
  have hne : n.key ≠ [] := fun e => by rw [e] at hj; simp at hj
  obtain ⟨k, nm, hsp⟩ : ∃ k nm, n.key = k ++ [nm] := ⟨_, _, (List.dropLast_concat_getLast hne).symm⟩
  obtain ⟨p, hp, hpk, hpl, hup⟩ := T.par n hn _ _ hsp
  have c6 : w.cell? ⟨n.blk, 6, none⟩ = some (.pointer (some ⟨p.blk, 0, none⟩)) := by have := (hN n hn).cell (i := 6) (v := uptr n.up) rfl; rw [hup] at this; exact this
  have c0 := (hN n hn).name
  rw [hsp, qdc] at c0
  have hb := (hN n hn).lt
  have ihp := fun W hW => ih p hp (by rw [hpk]; rw [hsp] at hj; simp at hj; omega) W hW
  unfold nptr at ihp ⊢
  have hok := T.ok n hn
  have hokp := T.ok p hp
  have hnm : qbd nm = true := qbz hok.1 (by rw [hsp]; simp)
  have hj1 := fun W => qul (sb (joinB p.key)) (sb nm) W (by rw [qd3]; have := qgm _ hokp.1; omega) (by rw [qd3]; have := (qea hnm).2; omega)
  simp only [qbi] at hj1
  have hres : (if joinB p.key = [] then sb nm else sb (joinB p.key ++ 47 :: nm)) = sb (joinB n.key) := by
   by_cases e : p.key = []
   ·rw [if_pos ((qc8 hokp.1).2 e), hsp, <- hpk, e]; simp [joinB]
   ·rw [if_neg (fun h => e ((qc8 hokp.1).1 h)), hsp, <- hpk, qjc _ _ e]
  simp only [hres] at hj1
  obtain ⟨R, hR⟩ : ∃ R, R = sb (joinB n.key) := ⟨_, rfl⟩
  obtain ⟨R1, hR1⟩ : ∃ R, R = sb (joinB p.key) := ⟨_, rfl⟩
  simp only [<- hR, <- hR1] at hj1 ihp ⊢
  clear hres hR hR1
  go_enter Tryz.func47, Tryz.ntmps47
  go_wp2
  go_region_with (first | (go_at_call 47; refine (ihp _ (fun k hk => (hN k hk).below (by (repeat (first | exact Below.refl _ _ | refine qac ?_ (by assumption) | refine Below.setCell ?_ (by first | omega | (simp <;> omega)) _ | refine Below.alloc ?_ (by first | omega | (simp <;> omega)) _ | refine Below.drew ?_ | refine below_drewN ?_ _))))).mono ?_; rintro e w1 ⟨rfl, hb1⟩; have d0 := (hb1.cell (p := ⟨n.blk, 0, none⟩) hb).trans c0) | (go_at_call 78; refine (hj1 _).mono ?_; rintro e w2 ⟨rfl, hb2⟩))
  all_goals go_wp2
  all_goals go_ret
  all_goals exact ⟨rfl, by (repeat (first | exact Below.refl _ _ | refine qac ?_ (by assumption) | refine Below.setCell ?_ (by first | omega | (simp <;> omega)) _ | refine Below.alloc ?_ (by first | omega | (simp <;> omega)) _ | refine Below.drew ?_ | refine below_drewN ?_ _))⟩
end Go.Proofs.YtphclnolomgjoaaGreatDoor
