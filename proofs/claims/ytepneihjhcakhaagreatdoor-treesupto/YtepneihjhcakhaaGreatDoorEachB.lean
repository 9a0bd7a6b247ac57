import Derived.Test.YtepneihjhcakhaaGreatDoorFindA
import Derived.Test.YtepneihjhcakhaaGreatDoorWalkB
set_option linter.unusedVariables false
set_option linter.unusedSimpArgs false
namespace Go.Proofs.YtepneihjhcakhaaGreatDoor
open Go.RowKit Go.Shelf
attribute [local go_sem] Oper.semAt_some

/-- A queue and all below it, in order. -/
def dfs (ch : Node → List Node) : Nat → Node → List Node
  | 0, n => [n]
  | f + 1, n => n :: (ch n).flatMap (dfs ch f)

/-- What is below each, as a function. -/
structure Kids (nodes : List Node) (ch : Node → List Node) : Prop where
  blks : ∀ p ∈ nodes, p.kids = (ch p).map (·.blk)
  mem : ∀ p ∈ nodes, ∀ k, k ∈ ch p ↔ (k ∈ nodes ∧ ∃ x, k.key = p.key ++ [x])
  sort : ∀ p ∈ nodes, ((ch p).map fun k => lastN k.key).Pairwise fun a b => cmpB a b < 0

theorem Tree.ch {nodes : List Node} (T : Tree nodes) : ∃ ch, Kids nodes ch := by
  have : ∀ p : Node, ∃ ks : List Node, p ∈ nodes → p.kids = ks.map (·.blk) ∧ (∀ k, k ∈ ks ↔ (k ∈ nodes ∧ ∃ x, k.key = p.key ++ [x])) ∧ (ks.map fun k => lastN k.key).Pairwise fun a b => cmpB a b < 0 := fun p => by
    by_cases hp : p ∈ nodes
    · obtain ⟨ks, h⟩ := T.kids p hp; exact ⟨ks, fun _ => h⟩
    · exact ⟨[], fun h => absurd h hp⟩
  refine ⟨fun p => (this p).choose, ⟨fun p hp => ((this p).choose_spec hp).1, fun p hp => ((this p).choose_spec hp).2.1, fun p hp => ((this p).choose_spec hp).2.2⟩⟩

theorem kept_all {nodes : List Node} {Tm : Nat → Prop} (hT : ∀ n ∈ nodes, ¬ Tm n.blk ∧ ∀ g, n.sl.ownBlock = some g → ¬ Tm g) {W W' : World} (hN : ∀ n ∈ nodes, NodeIn W n) (hk : Keep Tm W W') : ∀ n ∈ nodes, NodeIn W' n :=
  fun n hn => (hN n hn).keep hk (hT n hn).1 (hT n hn).2

set_option maxRecDepth 100000 in
set_option maxHeartbeats 4000000 in
theorem each_step {nodes : List Node} {ch : Node → List Node} (K : Kids nodes ch) (l : Nat) (Tm : Nat → Prop) (XS : List Node) (J Jx : List Node → World → Prop)
    (hT : ∀ n ∈ nodes, ¬ Tm n.blk ∧ ∀ g, n.sl.ownBlock = some g → ¬ Tm g)
    (hY : ∀ m pre x W1, J pre W1 → pre ++ [x] <+: XS → YieldAt Fence.wide m Tryz.prog l #[nptr x.blk] W1 fun e W' =>
      (e = .returned (.bool true) ∧ J (pre ++ [x]) W' ∧ Keep Tm W1 W') ∨ (e = .returned (.bool false) ∧ Jx (pre ++ [x]) W'))
    (n : Node) (hn : n ∈ nodes) (hlen : (ch n).length ≤ 1000) (sub : Node → List Node)
    (ih : ∀ k ∈ ch n, ∀ (m : Nat) (pre : List Node) (W : World), (∀ n ∈ nodes, NodeIn W n) → J pre W → pre ++ sub k <+: XS →
      CallsIn Fence.wide m Tryz.prog 114 #[nptr k.blk, .func (.yield l) #[] #[]] W fun e W' =>
        (e = .returned (.bool true) ∧ J (pre ++ sub k) W' ∧ Keep Tm W W') ∨ (e = .returned (.bool false) ∧ ∃ q, q <+: XS ∧ Jx q W'))
    (m : Nat) (pre : List Node) (W : World) (hN : ∀ n ∈ nodes, NodeIn W n) (hJ : J pre W) (hX : pre ++ n :: (ch n).flatMap sub <+: XS) :
      CallsIn Fence.wide m Tryz.prog 114 #[nptr n.blk, .func (.yield l) #[] #[]] W fun e W' =>
        (e = .returned (.bool true) ∧ J (pre ++ n :: (ch n).flatMap sub) W' ∧ Keep Tm W W') ∨ (e = .returned (.bool false) ∧ ∃ q, q <+: XS ∧ Jx q W') := by
  have hdd : ∀ k : Nat, Fence.wide.depth.isSome = true → 1 ≤ k := fun k h => by simp [Fence.wide] at h
  have hX1 : pre ++ [n] <+: XS := List.IsPrefix.trans ⟨(ch n).flatMap sub, by simp⟩ hX
  obtain ⟨fn, tmps, assign, body, hy, hR⟩ := hY (m - 1) pre n W hJ hX1
  have hkl : n.kids.length = (ch n).length := by rw [K.blks n hn]; simp
  obtain ⟨ao, cap, hsl⟩ : ∃ ao cap, n.sl = .slice ao (ch n).length cap := by
    obtain ⟨_, hr⟩ := (hN n hn).row
    rcases hr with ⟨hv, h0⟩ | ⟨g, cap, cur, hv, _⟩
    · exact ⟨none, 0, by rw [hv, ← hkl, h0]⟩
    · exact ⟨_, _, by rw [hv, hkl]⟩
  have hR2 := hR.mono (R' := fun e W' => (e = .returned (.bool true) ∧ J (pre ++ [n]) W' ∧ Keep Tm W W' ∧ W'.cell? ⟨n.blk, 7, none⟩ = some (.slice ao (ch n).length cap)) ∨ (e = .returned (.bool false) ∧ Jx (pre ++ [n]) W'))
    (fun e W' h => h.elim (fun ⟨he, hj, hk⟩ => .inl ⟨he, hj, hk, by rw [← hsl]; exact ((hN n hn).keep hk (hT n hn).1 (hT n hn).2).cell rfl⟩) .inr)
  clear hR
  obtain ⟨L, hL⟩ : ∃ L, L = (ch n).length := ⟨_, rfl⟩
  rw [← hL] at hR2 hlen
  have HL : Hid (L = (ch n).length) := hL
  have HSL : Hid (n.sl = .slice ao (ch n).length cap) := hsl
  clear hL hsl hkl
  refine callsIn_of_wp Tryz.func114 rfl trivial ?_ rfl
  unfold nptr at hy ⊢
  simp only [Tryz.ntmps114, List.size_toArray, List.length_cons, List.length_nil, Nat.reduceAdd, Nat.reduceSub, Array.replicate_succ, Array.replicate_zero, List.push_toArray, List.append_toArray, List.nil_append, List.cons_append]
  gi_wp2_with (refine ⟨hdd _, ?_⟩; refine hR2.mono ?_; clear hR2; rintro e W2 (⟨rfl, hJ2, hk2, hc2⟩ | ⟨rfl, hx2⟩))
  · gi_loopw [16] (fun i wr => ∃ j : Nat, i = .int .i64 j ∧ j ≤ L ∧ J (pre ++ n :: ((ch n).take j).flatMap sub) wr ∧ Keep Tm W wr) (fun i _ => L - (intOf i).toNat)
    case atStart => exact ⟨0, rfl, Nat.zero_le _, by simpa using hJ2, hk2⟩
    case round =>
      obtain ⟨j, rfl, hj, hJj, hkj⟩ := hrel
      have hNr := kept_all hT hN hkj
      by_cases hlt : j < L
      · have hjl : j < (ch n).length := by rw [← HL.out]; exact hlt
        obtain ⟨k, hk⟩ : ∃ k, (ch n)[j]? = some k := ⟨_, List.getElem?_eq_getElem hjl⟩
        have hkm : k ∈ ch n := List.mem_of_getElem? hk
        obtain ⟨g, cap', hv, hcell⟩ := (hNr n hn).kid (j := j) (b := k.blk) (by rw [K.blks n hn]; simp [hk])
        have hao : ao = some ⟨g, 0, none⟩ := by
          have := HSL.out; rw [hv] at this; injection this with h1 _ _; exact h1.symm
        have HTK : Hid ((ch n).take (j + 1) = (ch n).take j ++ [k]) := by
          rw [List.take_succ_eq_append_getElem hjl]
          rw [List.getElem?_eq_getElem hjl] at hk; cases hk; rfl
        have hpre2 : (pre ++ n :: ((ch n).take j).flatMap sub) ++ sub k <+: XS := by
          refine List.IsPrefix.trans ⟨((ch n).drop (j + 1)).flatMap sub, ?_⟩ hX
          conv => rhs; rw [← List.take_append_drop (j + 1) (ch n), HTK.out]
          simp
        have hcall := ih k hkm (m - 1) _ wr hNr hJj hpre2
        clear ih hY hk hJj
        unfold nptr at hcall hcell
        subst hao
        gi_wp2_with ((first | refine ⟨trivial, hdd _, ?_⟩ | refine ⟨trivial, ?_⟩); gi_at_call 114; refine hcall.mono ?_; clear hcall; rintro e W3 (⟨rfl, hJ3, hk3⟩ | ⟨rfl, q, hq, hx3⟩))
        · go_roundw
          case rel =>
            refine ⟨j + 1, by go_num, by omega, ?_, hkj.trans hk3⟩
            rw [HTK.out]; simpa using hJ3
          case measure => simp [intOf]; omega
        · go_ret
          exact .inr ⟨rfl, q, hq, hx3⟩
      · gi_wp2
        go_ret
        have hjl : (ch n).take j = ch n := List.take_of_length_le (by rw [← HL.out]; omega)
        rw [hjl] at hJj
        exact .inl ⟨rfl, hJj, hkj⟩
  · go_ret
    exact .inr ⟨rfl, _, hX1, hx2⟩

theorem kids_len {nodes : List Node} (T : Tree nodes) {ch : Node → List Node} (K : Kids nodes ch) {n : Node} (hn : n ∈ nodes) : (ch n).length ≤ 20 := by
  have hsub : ((ch n).map (·.key)).Nodup := by
    have : ((ch n).map fun k => lastN k.key).Nodup := (K.sort n hn).imp (fun {a b} h e => by subst e; rw [show cmpB a a = 0 from cmp_self a] at h; omega)
    rw [show ((ch n).map fun k => lastN k.key) = ((ch n).map (·.key)).map lastN by simp] at this
    exact nodup_of_map this
  have h1 : ∀ x ∈ (ch n).map (·.key), x ∈ nodes.map (·.key) := by
    intro k hk'; obtain ⟨c, hc, rfl⟩ := List.mem_map.1 hk'
    exact List.mem_map.2 ⟨c, ((K.mem n hn c).1 hc).1, rfl⟩
  have h2 := nodup_len hsub h1
  have h3 := T.len
  simp at h2; omega

theorem each_in {nodes : List Node} (T : Tree nodes) {ch : Node → List Node} (K : Kids nodes ch) (l : Nat) (Tm : Nat → Prop) (XS : List Node) (J Jx : List Node → World → Prop)
    (hT : ∀ n ∈ nodes, ¬ Tm n.blk ∧ ∀ g, n.sl.ownBlock = some g → ¬ Tm g)
    (hY : ∀ m pre x W1, J pre W1 → pre ++ [x] <+: XS → YieldAt Fence.wide m Tryz.prog l #[nptr x.blk] W1 fun e W' =>
      (e = .returned (.bool true) ∧ J (pre ++ [x]) W' ∧ Keep Tm W1 W') ∨ (e = .returned (.bool false) ∧ Jx (pre ++ [x]) W')) :
    ∀ (f : Nat) (n : Node), n ∈ nodes → 4 ≤ n.key.length + f → ∀ (m : Nat) (pre : List Node) (W : World), (∀ n ∈ nodes, NodeIn W n) → J pre W → pre ++ dfs ch f n <+: XS →
      CallsIn Fence.wide m Tryz.prog 114 #[nptr n.blk, .func (.yield l) #[] #[]] W fun e W' =>
        (e = .returned (.bool true) ∧ J (pre ++ dfs ch f n) W' ∧ Keep Tm W W') ∨ (e = .returned (.bool false) ∧ ∃ q, q <+: XS ∧ Jx q W') := by
  intro f
  induction f with
  | zero =>
    intro n hn hk m pre W hN hJ hX
    have hch : ch n = [] := by
      rcases List.eq_nil_or_concat (ch n) with h | ⟨ks, k, h⟩
      · exact h
      · exfalso
        obtain ⟨hkn, x, hx⟩ := (K.mem n hn k).1 (by rw [h]; simp)
        have := (T.ok k hkn).2
        rw [hx] at this; simp at this; omega
    have h := each_step K l Tm XS J Jx hT hY n hn (by rw [hch]; simp) (fun _ => []) (by rw [hch]; simp) m pre W hN hJ (by rw [hch]; exact hX)
    rw [hch] at h; exact h
  | succ f ih =>
    intro n hn hk m pre W hN hJ hX
    exact each_step K l Tm XS J Jx hT hY n hn (by have := kids_len T K hn; omega) (dfs ch f) (fun k hk' => ih k ((K.mem n hn k).1 hk').1 (by obtain ⟨x, hx⟩ := ((K.mem n hn k).1 hk').2; rw [hx]; simp; omega)) m pre W hN hJ hX

set_option maxHeartbeats 1000000 in
/-- All of a queue, as a value that can be gone through. -/
theorem all_seq {nodes : List Node} (T : Tree nodes) {ch : Node → List Node} (K : Kids nodes ch) {n : Node} (hn : n ∈ nodes) (w : World) (hN : ∀ n ∈ nodes, NodeIn w n) :
    Calls Tryz.prog 103 #[nptr n.blk] w fun e w' => e = .returned (.func (.func 113) #[] #[.pointer (some ⟨w.heap.size, 0, none⟩)]) ∧ w' = w.alloc (.cells #[nptr n.blk] 60) ∧
      ∀ Tm : Nat → Prop, (∀ n ∈ nodes, ¬ Tm n.blk ∧ ∀ g, n.sl.ownBlock = some g → ¬ Tm g) → SeqK Tryz.prog 113 #[.pointer (some ⟨w.heap.size, 0, none⟩)] (fun x : Node => nptr x.blk) (fun _ => False) Tm (dfs ch 4 n) w' := by
  have hmf : ∀ (fn : Fn) (first cap : Array Value) (w : World), (Instr.makeFunc fn first cap).run Tryz.prog w = .ok (.func fn first cap) w := fun _ _ _ _ => rfl
  have key : ∀ Tm : Nat → Prop, (∀ n ∈ nodes, ¬ Tm n.blk ∧ ∀ g, n.sl.ownBlock = some g → ¬ Tm g) → SeqK Tryz.prog 113 #[.pointer (some ⟨w.heap.size, 0, none⟩)] (fun x : Node => nptr x.blk) (fun _ => False) Tm (dfs ch 4 n) (w.alloc (.cells #[nptr n.blk] 60)) := by
    intro Tm hT m l J Jx W hW hl hJ hJx hY h0
    have hdd : ∀ k : Nat, Fence.wide.depth.isSome = true → 1 ≤ k := fun k h => by simp [Fence.wide] at h
    have hNW : ∀ n ∈ nodes, NodeIn W n := fun n hn => (hN n hn).below (bstep ((Below.refl _ _).alloc (Nat.le_refl _) _) hW)
    have hb : W.cell? ⟨w.heap.size, 0, none⟩ = some (nptr n.blk) := ((Box.new w 60 (nptr n.blk)).below hW (by simp)).cell
    have he := each_in T K l Tm (dfs ch 4 n) J Jx hT hY 4 n hn (by omega) (m - 1) [] W hNW h0 (List.prefix_refl _)
    refine callsIn_of_wp Tryz.func113 rfl trivial ?_ rfl
    unfold nptr at he hb
    simp only [Tryz.ntmps113, List.size_toArray, List.length_cons, List.length_nil, Nat.reduceAdd, Nat.reduceSub, Array.replicate_succ, Array.replicate_zero, List.push_toArray, List.append_toArray, List.nil_append, List.cons_append]
    gi_wp2_with ((first | refine ⟨trivial, hdd _, ?_⟩ | refine ⟨trivial, ?_⟩); gi_at_call 114; refine he.mono ?_; clear he; rintro e W3 (⟨rfl, hJ3, hk3⟩ | ⟨rfl, q, hq, hx3⟩))
    · go_end0
      exact ⟨⟨_, rfl⟩, .inl hJ3⟩
    · go_end0
      exact ⟨⟨_, rfl⟩, .inr ⟨q, hq, hx3⟩⟩
  unfold nptr at key ⊢
  go_enter Tryz.func103, Tryz.ntmps103
  go_wp2
  go_ret
  exact ⟨rfl, rfl, key⟩
end Go.Proofs.YtepneihjhcakhaaGreatDoor
set_option linter.unusedVariables false
set_option linter.unusedSimpArgs false
namespace Go.Proofs.YtepneihjhcakhaaGreatDoor
open Go.RowKit Go.Shelf
attribute [local go_sem] Oper.semAt_some

def sum0 (l : List Node) : Int := (l.map (·.n0)).sum
def sum1 (l : List Node) : Int := (l.map (·.n1)).sum
theorem sum0_snoc (l : List Node) (x : Node) : sum0 (l ++ [x]) = sum0 l + x.n0 := by simp [sum0]
theorem sum1_snoc (l : List Node) (x : Node) : sum1 (l ++ [x]) = sum1 l + x.n1 := by simp [sum1]
theorem sum0_bd (l : List Node) (h : ∀ n ∈ l, 0 ≤ n.n0 ∧ n.n0 ≤ 1000) : 0 ≤ sum0 l ∧ sum0 l ≤ 1000 * l.length := by
  induction l with
  | nil => simp [sum0]
  | cons a l ih =>
    have h1 := ih (fun n hn => h n (by simp [hn]))
    have h2 := h a (by simp)
    simp [sum0] at h1 ⊢; omega
theorem sum1_bd (l : List Node) (h : ∀ n ∈ l, 0 ≤ n.n1 ∧ n.n1 ≤ 1000) : 0 ≤ sum1 l ∧ sum1 l ≤ 1000 * l.length := by
  induction l with
  | nil => simp [sum1]
  | cons a l ih =>
    have h1 := ih (fun n hn => h n (by simp [hn]))
    have h2 := h a (by simp)
    simp [sum1] at h1 ⊢; omega

theorem dfs_mem {nodes : List Node} {ch : Node → List Node} (K : Kids nodes ch) : ∀ (f : Nat) (n : Node), n ∈ nodes → ∀ k ∈ dfs ch f n, k ∈ nodes := by
  intro f
  induction f with
  | zero => intro n hn k hk; simp [dfs] at hk; subst hk; exact hn
  | succ f ih =>
    intro n hn k hk
    simp only [dfs, List.mem_cons, List.mem_flatMap] at hk
    rcases hk with rfl | ⟨c, hc, hk⟩
    · exact hn
    · exact ih c ((K.mem n hn c).1 hc).1 k hk

set_option maxRecDepth 100000 in
set_option maxHeartbeats 2000000 in
theorem full_any {nodes : List Node} (T : Tree nodes) {ch : Node → List Node} (K : Kids nodes ch) {r : Node} (hr : r ∈ nodes) (hlen : (dfs ch 4 r).length ≤ 100) (bt : Nat) (w : World) (hN : ∀ n ∈ nodes, NodeIn w n) (ht : w.cell? ⟨bt, 0, none⟩ = some (nptr r.blk)) :
    Calls Tryz.prog 91 #[.pointer (some ⟨bt, 0, none⟩)] w fun e w' => e = .returned (.bool (decide (20 ≤ (dfs ch 4 r).length))) ∧ Below w.heap.size w w' := by
  have hdd : ∀ k : Nat, Fence.wide.depth.isSome = true → 1 ≤ k := fun k h => by simp [Fence.wide] at h
  have hlt := World.block_lt_of_cell? w _ ht
  have hall : ∀ W, (∀ n ∈ nodes, NodeIn W n) → _ := fun W hW => all_seq T K hr W hW
  generalize hX : dfs ch 4 r = X at hall hlen ⊢
  refine (callsIn_wide (n := 3)).1 ?_
  refine callsIn_of_wp_marks Tryz.func91 rfl trivial ?_ rfl
  unfold nptr at ht
  simp only [Tryz.ntmps91, List.size_toArray, List.length_cons, List.length_nil, Nat.reduceAdd, Nat.reduceSub, Array.replicate_succ, Array.replicate_zero, List.push_toArray, List.append_toArray, List.nil_append, List.cons_append]
  unfold nptr at hall
  gi_wp2_with ((first | refine ⟨trivial, hdd _, ?_⟩ | refine ⟨trivial, ?_⟩); gi_at_call 103; refine (callsIn_wide.2 (hall _ (fun n hn => (hN n hn).below (by (repeat (first | exact Below.refl _ _ | refine bstep ?_ (by assumption) | refine Below.setCell ?_ (by first | omega | (simp <;> omega)) _ | refine Below.alloc ?_ (by first | omega | (simp <;> omega)) _ | refine Below.drew ?_ | refine below_drewN ?_ _)))))).mono ?_; rintro e W ⟨rfl, rfl, hseq⟩)
  obtain ⟨W, hW⟩ : ∃ W, W = (w.alloc (.cells #[.int .i64 0] 3)).alloc (.cells #[.pointer (some ⟨r.blk, 0, none⟩)] 60) := ⟨_, rfl⟩
  have hsz : W.heap.size = w.heap.size + 2 := by rw [hW]; simp
  have e2 : (w.alloc (.cells #[.int .i64 0] 3)).heap.size = w.heap.size + 1 := by simp
  have hb2 : Box W w.heap.size 3 (.int .i64 0) := by rw [hW]; exact (Box.new w 3 _).alloc _
  have hbw : Below w.heap.size w W := by rw [hW]; (repeat (first | exact Below.refl _ _ | refine bstep ?_ (by assumption) | refine Below.setCell ?_ (by first | omega | (simp <;> omega)) _ | refine Below.alloc ?_ (by first | omega | (simp <;> omega)) _ | refine Below.drew ?_ | refine below_drewN ?_ _))
  rw [e2] at hseq
  simp only [← hW] at hseq ⊢
  have hq := hseq (fun b => b = w.heap.size ∨ W.heap.size ≤ b) (fun k hk => ⟨fun h => by have := (hN k hk).lt; omega, fun g hg h => by have := ((hN k hk).row.lt g hg).2; omega⟩)
  clear hseq hall e2 hW
  refine rf_law (T := fun b => b = w.heap.size) (S := fun _ => False) rfl (enters_of Tryz.func113 (by kernel_rfl) rfl) hq (Below.refl _ _) rfl (fun b h => h.elim) (fun b h => by omega)
    (fun pre A => Box A w.heap.size 3 (.int .i64 pre.length) ∧ Below w.heap.size w A)
    (fun c pre A => False)
    (fun pre A B hs hk => ⟨hs.1.keep hk (fun h => by rcases h with h | h; exact h; omega), hs.2.trans (hk.toBelow hs.2.size (fun b hb' h => by rcases h with h | h; exact h; omega))⟩)
    (fun c pre A B hs hk => hs)
    ⟨hb2, hbw⟩
    (fun x => { tmps := #[.pointer (some ⟨bt, 0, none⟩), undef, .bool false, .pointer (some ⟨w.heap.size, 0, none⟩), .pointer (some ⟨bt, 0, none⟩), .pointer (some ⟨bt, 0, none⟩), .pointer (some ⟨bt, 0, none⟩), .pointer (some ⟨r.blk, 0, none⟩),
      .func (.func 113) #[] #[.pointer (some ⟨w.heap.size + 1, 0, none⟩)], .pointer (some ⟨x.blk, 0, none⟩), undef, undef, undef, undef], defers := [] }) ?assign ?body ?done ?stop
  case assign =>
    intro l x W K hK
    gi_wp2
    simpa using hK
  case body =>
    rintro l pre x W2 ⟨hbox, hbel⟩ hszW hpre
    have hc := hbox.cell
    have hf := hbox.frozen
    have hpl : pre.length < X.length := by have := hpre.length_le; simp at this; omega
    gi_wp2
    refine ⟨(Keep.refl (fun b => b = w.heap.size) _).setCell (p := ⟨w.heap.size, 0, none⟩) rfl _, ?_, hbel.setCell (Nat.le_refl _) _⟩
    have := hbox.set (.int .i64 ((pre.length : Int) + 1))
    simpa using this
  case done =>
    rintro A ⟨hbox, hbel⟩ hD
    have hc := hbox.cell
    gi_wp2
    refine ⟨by simp, .inl ⟨_, _, rfl, run_takeDeferred hD, ?_⟩⟩
    refine ⟨.bool (decide (20 ≤ (X.length : Int))), results_tmp (t := 2) rfl _ _ _, ret_bool (by simp only [decide_eq_decide]; omega), below_put hbel _ _ (by omega)⟩
  case stop =>
    rintro c pre A _ h _
    exact h.elim

theorem bstep' {w W2 w' : World} (h : Below w.heap.size w W2) (hb : Below W2.drew.heap.size W2.drew w') : Below w.heap.size w w' := bstep h.drew hb

set_option maxRecDepth 100000 in
set_option maxHeartbeats 2000000 in
theorem nominal_any {nodes : List Node} (T : Tree nodes) {ch : Node → List Node} (K : Kids nodes ch) {n : Node} (hn : n ∈ nodes) (hlen : (dfs ch 4 n).length ≤ 90) (w : World) (hN : ∀ n ∈ nodes, NodeIn w n) :
    Calls Tryz.prog 85 #[nptr n.blk] w fun e w' => e = .returned (.agg #[.int .i64 (sum0 (dfs ch 4 n)), .int .i64 (sum1 (dfs ch 4 n))]) ∧ Below w.heap.size w w' := by
  have hdd : ∀ k : Nat, Fence.wide.depth.isSome = true → 1 ≤ k := fun k h => by simp [Fence.wide] at h
  have hall : ∀ W, (∀ n ∈ nodes, NodeIn W n) → _ := fun W hW => all_seq T K hn W hW
  have hmem := dfs_mem K 4 n hn
  generalize hX : dfs ch 4 n = X at hall hlen hmem ⊢
  refine (callsIn_wide (n := 3)).1 ?_
  refine callsIn_of_wp_marks Tryz.func85 rfl trivial ?_ rfl
  unfold nptr at hall ⊢
  simp only [Tryz.ntmps85, List.size_toArray, List.length_cons, List.length_nil, Nat.reduceAdd, Nat.reduceSub, Array.replicate_succ, Array.replicate_zero, List.push_toArray, List.append_toArray, List.nil_append, List.cons_append]
  gi_wp2_with ((first | refine ⟨trivial, hdd _, ?_⟩ | refine ⟨trivial, ?_⟩); gi_at_call 103; refine (callsIn_wide.2 (hall _ (fun n hn => (hN n hn).below (by (repeat (first | exact Below.refl _ _ | refine bstep ?_ (by assumption) | refine Below.setCell ?_ (by first | omega | (simp <;> omega)) _ | refine Below.alloc ?_ (by first | omega | (simp <;> omega)) _ | refine Below.drew ?_ | refine below_drewN ?_ _)))))).mono ?_; rintro e W ⟨rfl, rfl, hseq⟩)
  obtain ⟨W, hW⟩ : ∃ W, W = ((w.alloc (.cells #[.int .i64 0, .int .i64 0] 35)).alloc (.cells #[.int .i64 0, .int .i64 0] 35)).alloc (.cells #[.pointer (some ⟨n.blk, 0, none⟩)] 60) := ⟨_, rfl⟩
  have hsz : W.heap.size = w.heap.size + 3 := by rw [hW]; simp
  have e2 : ((w.alloc (.cells #[.int .i64 0, .int .i64 0] 35)).alloc (.cells #[.int .i64 0, .int .i64 0] 35)).heap.size = w.heap.size + 2 := by simp
  have hb2 : Blk W w.heap.size 35 #[.int .i64 0, .int .i64 0] := by rw [hW]; exact ((Blk.new w 35 _).alloc _).alloc _
  have hb3 : Blk W (w.heap.size + 1) 35 #[.int .i64 0, .int .i64 0] := by
    rw [hW]; have := Blk.new (w.alloc (.cells #[.int .i64 0, .int .i64 0] 35)) 35 #[.int .i64 0, .int .i64 0]
    rw [World.size_alloc] at this; exact this.alloc _
  have hbw : Below w.heap.size w W := by rw [hW]; (repeat (first | exact Below.refl _ _ | refine bstep ?_ (by assumption) | refine Below.setCell ?_ (by first | omega | (simp <;> omega)) _ | refine Below.alloc ?_ (by first | omega | (simp <;> omega)) _ | refine Below.drew ?_ | refine below_drewN ?_ _))
  rw [e2] at hseq
  simp only [← hW] at hseq ⊢
  have hq := hseq (fun b => b = w.heap.size + 1 ∨ W.heap.size ≤ b) (fun k hk => ⟨fun h => by have := (hN k hk).lt; omega, fun g hg h => by have := ((hN k hk).row.lt g hg).2; omega⟩)
  clear hseq hall e2 hW
  refine rf_law (T := fun b => b = w.heap.size + 1) (S := fun _ => False) rfl (enters_of Tryz.func113 (by kernel_rfl) rfl) hq (Below.refl _ _) rfl (fun b h => h.elim) (fun b h => by omega)
    (fun pre A => Blk A (w.heap.size + 1) 35 #[.int .i64 (sum0 pre), .int .i64 (sum1 pre)] ∧ Blk A w.heap.size 35 #[.int .i64 0, .int .i64 0] ∧ Below w.heap.size w A)
    (fun c pre A => False)
    (fun pre A B hs hk => ⟨hs.1.keep hk (fun h => by rcases h with h | h; exact h; omega), hs.2.1.keep hk (fun h => by rcases h with h | h; exact h; omega), hs.2.2.trans (hk.toBelow hs.2.2.size (fun b hb' h => by rcases h with h | h; exact h; omega))⟩)
    (fun c pre A B hs hk => hs)
    ⟨hb3, hb2, hbw⟩
    (fun x => { tmps := #[.pointer (some ⟨n.blk, 0, none⟩), undef, .pointer (some ⟨w.heap.size, 0, none⟩), .pointer (some ⟨w.heap.size + 1, 0, none⟩), .pointer (some ⟨x.blk, 0, none⟩), .pointer (some ⟨n.blk, 0, none⟩),
      .func (.func 113) #[] #[.pointer (some ⟨w.heap.size + 2, 0, none⟩)], .pointer (some ⟨x.blk, 0, none⟩), undef, undef, undef, undef, undef, undef, undef], defers := [] }) ?assign ?body ?done ?stop
  case assign =>
    intro l x W K hK
    gi_wp2
    exact hK
  case body =>
    rintro l pre x W2 ⟨hb3, hb2, hbel⟩ hszW hpre
    have hxm : x ∈ nodes := hmem x (hpre.subset (by simp))
    have hpm : ∀ k ∈ pre, k ∈ nodes := fun k hk => hmem k (hpre.subset (by simp [hk]))
    have hpl : pre.length < 90 := by have := hpre.length_le; simp at this; omega
    have s0 := sum0_bd pre (fun k hk => (T.num k (hpm k hk)).1)
    have s1 := sum1_bd pre (fun k hk => (T.num k (hpm k hk)).2.1)
    have x0 := (T.num x hxm).1
    have x1 := (T.num x hxm).2.1
    have hNx := (hN x hxm).below hbel
    have c2 : W2.cell? ⟨x.blk, 2, none⟩ = some (.int .i64 x.n0) := hNx.cell rfl
    have c3 : W2.cell? ⟨x.blk, 3, none⟩ = some (.int .i64 x.n1) := hNx.cell rfl
    have d0 := hb3.cell 0
    have d1 := hb3.cell 1
    have f0 := hb3.frozen 0
    have f1 := hb3.frozen 1
    simp only [List.getElem?_toArray, List.getElem?_cons_zero, List.getElem?_cons_succ] at d0 d1
    have hadd := fun W => add_any (sum0 pre) (sum1 pre) x.n0 x.n1 W (by omega) (by omega) (by omega) (by omega) (by omega) (by omega) (by omega) (by omega)
    have hmix : Tryz.prog.follows .mixedOrders = true := by kernel_rfl
    gi_wp2
    gi_region_with_o ((first | refine ⟨trivial, hdd _, ?_⟩ | refine ⟨trivial, ?_⟩ | skip); gi_at_call 104; refine (CallsIn.inRound l (callsIn_wide.2 (hadd _))).mono ?_; rintro e w' ⟨rfl, hbA⟩; have g0 := (hbA.cell (p := ⟨w.heap.size + 1, 0, none⟩) hb3.lt).trans d0; have g1 := (hbA.cell (p := ⟨w.heap.size + 1, 1, none⟩) hb3.lt).trans d1; have q0 := (hbA.frozen (p := ⟨w.heap.size + 1, 0, none⟩) hb3.lt).trans f0; have q1 := (hbA.frozen (p := ⟨w.heap.size + 1, 1, none⟩) hb3.lt).trans f1)
    all_goals gi_wp2
    all_goals
      have hK : Keep (fun b => b = w.heap.size + 1) W2 w' := (Keep.refl _ W2).drew.trans (Keep.new hbA)
      refine ⟨(hK.setCell (p := ⟨w.heap.size + 1, 0, none⟩) rfl _).setCell (p := ⟨w.heap.size + 1, 1, none⟩) rfl _, ?_, ?_, ?_⟩
      · have := ((hb3.drew.below hbA hb3.lt).set 0 (.int .i64 (sum0 pre + x.n0))).set 1 (.int .i64 (sum1 pre + x.n1))
        rw [sum0_snoc, sum1_snoc]
        simpa using this
      · exact (((hb2.drew.below hbA hb2.lt).other _ _ (by simp)).other _ _ (by simp))
      · exact ((bstep' hbel hbA).setCell (by simp) _).setCell (by simp) _
  case done =>
    rintro A ⟨hb3, hb2, hbel⟩ hD
    have d0 := hb3.cell 0
    have d1 := hb3.cell 1
    have e0 := hb2.cell 0
    have e1 := hb2.cell 1
    have f0 := hb2.frozen 0
    have f1 := hb2.frozen 1
    simp only [List.getElem?_toArray, List.getElem?_cons_zero, List.getElem?_cons_succ] at d0 d1 e0 e1
    gi_wp2
    have hb4 : Blk ((A.setCell ⟨w.heap.size, 0, none⟩ (.int .i64 (sum0 X))).setCell ⟨w.heap.size, 1, none⟩ (.int .i64 (sum1 X))) w.heap.size 35 #[.int .i64 (sum0 X), .int .i64 (sum1 X)] := by
      simpa using (hb2.set 0 (.int .i64 (sum0 X))).set 1 (.int .i64 (sum1 X))
    have hD' : ((A.setCell ⟨w.heap.size, 0, none⟩ (.int .i64 (sum0 X))).setCell ⟨w.heap.size, 1, none⟩ (.int .i64 (sum1 X))).heap[W.heap.size]? = some (.deferred (some [])) := by
      rw [Below.heap_setCell _ _ _ _ (by simp; omega), Below.heap_setCell _ _ _ _ (by simp; omega)]; exact hD
    have c0 := (hb4.put W.heap.size (.deferred none) (by omega)).cell 0
    have c1 := (hb4.put W.heap.size (.deferred none) (by omega)).cell 1
    simp only [List.getElem?_toArray, List.getElem?_cons_zero, List.getElem?_cons_succ] at c0 c1
    refine ⟨by simp, .inl ⟨_, _, rfl, run_takeDeferred hD', ?_⟩⟩
    refine ⟨.agg #[.int .i64 (sum0 X), .int .i64 (sum1 X)], by simp [results, Tryz.results85, go_sem, c0, c1], rfl, below_put ((hbel.setCell (Nat.le_refl _) _).setCell (Nat.le_refl _) _) _ _ (by omega)⟩
  case stop =>
    rintro c pre A _ h _
    exact h.elim
end Go.Proofs.YtepneihjhcakhaaGreatDoor
