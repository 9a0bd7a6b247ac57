import Derived.Test.YtepneihjhcakhaaGreatDoorModel
set_option linter.unusedVariables false
set_option linter.unusedSimpArgs false
namespace Go.Proofs.YtepneihjhcakhaaGreatDoor
open Go.RowKit Go.Shelf
attribute [local go_sem] Oper.semAt_some

def FindPost (nodes : List Node) (ks : List Bs) (e : Ending) : Prop := (∃ n ∈ nodes, n.key = ks ∧ e = .returned (nptr n.blk)) ∨ ((∀ n ∈ nodes, n.key ≠ ks) ∧ e = .returned (.pointer none))

theorem Tree.noneBelow {nodes : List Node} (T : Tree nodes) {p : Node} (hp : p ∈ nodes) {ks : List Node} (hm : ∀ k, k ∈ ks ↔ (k ∈ nodes ∧ ∃ x, k.key = p.key ++ [x])) {x : Bs} (hx : x ∉ ks.map fun k => lastN k.key)
    {full : List Bs} (hf : p.key ++ [x] <+: full) : ∀ n ∈ nodes, n.key ≠ full := by
  intro n hn e
  obtain ⟨r, hr⟩ := hf
  rw [← hr] at e
  obtain ⟨m, hmn, hmk⟩ := T.pre r (p.key ++ [x]) n hn e
  exact hx (List.mem_map.2 ⟨m, (hm m).2 ⟨hmn, x, hmk⟩, by rw [hmk, lastN_snoc]⟩)

def KidPost (nodes : List Node) (n : Node) (x : Bs) (W : World) (e : Ending) : Prop :=
  (∃ (at_ : Nat) (k : Node) (g cap : Nat), e = .returned (.tuple #[.int .i64 at_, .bool true]) ∧ k ∈ nodes ∧ k.key = n.key ++ [x] ∧ at_ < n.kids.length ∧ W.cell? ⟨n.blk, 7, none⟩ = some (.slice (some ⟨g, 0, none⟩) n.kids.length cap) ∧ W.cell? ⟨g, at_, none⟩ = some (.pointer (some ⟨k.blk, 0, none⟩))) ∨
  (∃ (at_ : Nat), e = .returned (.tuple #[.int .i64 at_, .bool false]) ∧ ∀ full, n.key ++ [x] <+: full → ∀ m ∈ nodes, m.key ≠ full)

theorem kid_any {nodes : List Node} (T : Tree nodes) {n : Node} (hn : n ∈ nodes) (x : Bs) (W : World) (hN : ∀ n ∈ nodes, NodeIn W n) :
    Calls Tryz.prog 73 #[.pointer (some ⟨n.blk, 0, none⟩), .string (sb x)] W fun e w' => KidPost nodes n x W e ∧ w' = W := by
  refine (place_node T hN hn (sb x)).mono ?_
  rintro e w' ⟨⟨ks, hk, hm, hs, at_, th, rfl, hle, hlo, hhi, hth⟩, rfl⟩
  refine ⟨?_, rfl⟩
  rw [bl_sb] at hth hlo hhi
  cases th with
  | true =>
    left
    have h1 := hth.1 rfl
    simp only [List.getElem?_map, Option.map_eq_some_iff] at h1
    obtain ⟨k, hk1, hk2⟩ := h1
    obtain ⟨hkn, y, hy⟩ := (hm k).1 (List.mem_of_getElem? hk1)
    rw [hy, lastN_snoc] at hk2
    subst hk2
    have hj : n.kids[at_]? = some k.blk := by rw [hk]; simp [hk1]
    obtain ⟨g, cap, hv, hc⟩ := (hN n hn).kid hj
    exact ⟨at_, k, g, cap, rfl, hkn, hy, (List.getElem?_eq_some_iff.1 hj).1, by rw [← hv]; exact (hN n hn).cell rfl, hc⟩
  | false =>
    right
    refine ⟨at_, rfl, fun full hf => T.noneBelow hn hm (fun hx => ?_) hf⟩
    obtain ⟨j, hj⟩ := List.getElem?_of_mem hx
    have h0 : cmpB x x = 0 := cmp_self x
    rcases Nat.lt_or_ge j at_ with h | h
    · have := hlo j x h hj; omega
    · rcases Nat.lt_or_ge at_ j with h2 | h2
      · -- the one at the place is less than x
        have hlt : at_ < (ks.map fun k => lastN k.key).length := by have := (List.getElem?_eq_some_iff.1 hj).1; omega
        have h3 := List.pairwise_iff_getElem.1 hs at_ j hlt (List.getElem?_eq_some_iff.1 hj).1 h2
        rw [(List.getElem?_eq_some_iff.1 hj).2] at h3
        have h4 := hhi at_ _ (Nat.le_refl _) (List.getElem?_eq_getElem hlt)
        omega
      · obtain rfl : j = at_ := by omega
        have := hth.2 hj; cases this

set_option maxRecDepth 100000 in
set_option maxHeartbeats 2000000 in
theorem find_any {nodes : List Node} (T : Tree nodes) {r : Node} (hr : r ∈ nodes) (hrk : r.key = []) (s : ByteArray) (hs : s.size ≤ 2000000) (w : World) (hN : ∀ n ∈ nodes, NodeIn w n) :
    Calls Tryz.prog 54 #[nptr r.blk, .string s] w fun e w' => FindPost nodes (namesB (bl s)) e ∧ Below w.heap.size w w' := by
  have hdd : ∀ k : Nat, Fence.wide.depth.isSome = true → 1 ≤ k := fun k h => by simp [Fence.wide] at h
  refine (callsIn_wide (n := 3)).1 ?_
  refine callsIn_of_wp_marks Tryz.func54 rfl trivial ?_ rfl
  unfold nptr
  simp only [Tryz.ntmps54, List.size_toArray, List.length_cons, List.length_nil, Nat.reduceAdd, Nat.reduceSub, Array.replicate_succ, Array.replicate_zero, List.push_toArray, List.append_toArray, List.nil_append, List.cons_append]
  gi_wp2_with ((first | refine ⟨trivial, hdd _, ?_⟩ | refine ⟨trivial, ?_⟩); gi_at_call 72; refine (callsIn_wide.2 (names_seq s hs _)).mono ?_; rintro e W ⟨gf, lb, rfl, eg, hb, hseq⟩)
  have hszW : w.heap.size + 2 ≤ W.heap.size := by have := hb.size; simp at this; omega
  obtain ⟨S, hS, hq⟩ := hseq (fun b => (b = w.heap.size ∨ b = w.heap.size + 1) ∨ W.heap.size ≤ b) (fun b h1 h2 h => by simp at h1; omega)
  have hbx4 : Box W w.heap.size 60 (.pointer none) := ((Box.new w 60 _).alloc _).below hb (by simp <;> omega)
  have hbx5 : Box W (w.heap.size + 1) 60 (.pointer (some ⟨r.blk, 0, none⟩)) := by
    have := Box.new (w.alloc (.cells #[.pointer none] 60)) 60 (.pointer (some ⟨r.blk, 0, none⟩))
    rw [World.size_alloc] at this
    exact this.below hb (by simp)
  have hbw : Below w.heap.size w W := bstep (((Below.refl _ _).alloc (Nat.le_refl _) _).alloc (by simp) _) hb
  clear hseq hb
  have hnS : ∀ b, b ≤ w.heap.size + 1 → ¬ (S b ∨ W.heap.size ≤ b) := fun b hb' h => by
    rcases h with h | h
    · have h1 := (hS _ h).1; simp at h1; omega
    · omega
  refine rf_law (T := fun b => b = w.heap.size ∨ b = w.heap.size + 1) rfl eg hq (Below.refl _ _) rfl (fun b h => (hS b h).2) (fun b h => by omega)
    (fun pre A => (∃ n ∈ nodes, n.key = pre ∧ Box A (w.heap.size + 1) 60 (.pointer (some ⟨n.blk, 0, none⟩))) ∧ Box A w.heap.size 60 (.pointer none) ∧ Below w.heap.size w A)
    (fun c pre A => c = .ret ∧ (∀ n ∈ nodes, n.key ≠ namesB (bl s)) ∧ Box A w.heap.size 60 (.pointer none) ∧ Below w.heap.size w A)
    (fun pre A B hs hk => ⟨by obtain ⟨n, h1, h2, h3⟩ := hs.1; exact ⟨n, h1, h2, h3.keep hk (hnS _ (Nat.le_refl _))⟩, hs.2.1.keep hk (hnS _ (by omega)), hs.2.2.trans (hk.toBelow hs.2.2.size (fun b hb' => hnS b (by omega)))⟩)
    (fun c pre A B hs hk => ⟨hs.1, hs.2.1, hs.2.2.1.keep hk (hnS _ (by omega)), hs.2.2.2.trans (hk.toBelow hs.2.2.2.size (fun b hb' => hnS b (by omega)))⟩)
    ⟨⟨r, hr, hrk, hbx5⟩, hbx4, hbw⟩
    (fun x => { tmps := #[.pointer (some ⟨r.blk, 0, none⟩), .string s, undef, undef, .pointer (some ⟨w.heap.size, 0, none⟩), .pointer (some ⟨w.heap.size + 1, 0, none⟩), .string (sb x), undef, undef,
      .pointer (some ⟨r.blk, 0, none⟩), .string s, .func (.func gf) #[] lb, .string (sb x), undef, undef, undef, undef, undef, undef, undef, undef, undef, undef, undef, undef, undef, undef, undef, undef], defers := [] }) ?assign ?body ?done ?stop
  case assign =>
    intro l x W K hK
    gi_wp2
    exact hK
  case body =>
    rintro l pre x W2 ⟨⟨n, hn, hnk, hbox5⟩, hbox4, hbel⟩ hsz hpre
    have hN2 : ∀ n ∈ nodes, NodeIn W2 n := fun n hn => (hN n hn).below hbel
    have hkid := kid_any T hn x W2 hN2
    have hc4 := hbox4.cell
    have hf4 := hbox4.frozen
    have hc5 := hbox5.cell
    have hf5 := hbox5.frozen
    gi_wp2_with ((first | refine ⟨trivial, hdd _, ?_⟩ | refine ⟨trivial, ?_⟩); gi_at_call 73; refine (CallsIn.inRound l (callsIn_wide.2 hkid)).mono ?_; rintro e w' ⟨(⟨at_, k, g, cap, rfl, hk1, hk2, hk3, hk4, hk5⟩ | ⟨at_, rfl, hno⟩), rfl⟩)
    · refine ⟨(Keep.refl (fun b => b = w.heap.size ∨ b = w.heap.size + 1) _).setCell (p := ⟨w.heap.size + 1, 0, none⟩) (.inr rfl) _, ⟨k, hk1, by rw [hk2, hnk], hbox5.set _⟩, hbox4.other _ _ (by simp), hbel.setCell (by simp) _⟩
    · refine ⟨(Keep.refl (fun b => b = w.heap.size ∨ b = w.heap.size + 1) _).setCell (p := ⟨w.heap.size, 0, none⟩) (.inl rfl) _, rfl, hno _ (by rw [hnk]; exact hpre), hbox4.set _, hbel.setCell (Nat.le_refl _) _⟩
  case done =>
    rintro A ⟨⟨n, hn, hnk, hbox5⟩, hbox4, hbel⟩ hD
    have hc4 := hbox4.cell
    have hf4 := hbox4.frozen
    have hc5 := hbox5.cell
    have hf5 := hbox5.frozen
    gi_wp2
    have hD' : (A.setCell ⟨w.heap.size, 0, none⟩ (.pointer (some ⟨n.blk, 0, none⟩))).heap[W.heap.size]? = some (.deferred (some [])) := (Below.heap_setCell _ _ _ _ (by simp; omega)).trans hD
    have hb2 := ((hbox4.set (.pointer (some ⟨n.blk, 0, none⟩))).put W.heap.size (.deferred none) (by omega)).cell
    refine ⟨by simp, .inl ⟨_, _, rfl, run_takeDeferred hD', ?_⟩⟩
    refine ⟨.pointer (some ⟨n.blk, 0, none⟩), by simp [results, Tryz.results54, go_sem, hb2], .inl ⟨n, hn, hnk, rfl⟩, below_put (hbel.setCell (Nat.le_refl _) _) _ _ (by omega)⟩
  case stop =>
    rintro c pre A hpre ⟨rfl, hv, hbox4, hbel⟩ hD
    gi_wp2
    have hb2 := (hbox4.put W.heap.size (.deferred none) (by omega)).cell
    refine ⟨by simp, .inl ⟨_, _, rfl, run_takeDeferred hD, ?_⟩⟩
    refine ⟨.pointer none, by simp [results, Tryz.results54, go_sem, hb2], .inr ⟨hv, rfl⟩, below_put hbel _ _ (by omega)⟩
end Go.Proofs.YtepneihjhcakhaaGreatDoor
