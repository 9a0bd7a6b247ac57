import Derived.Test.YtepneihjhcakhaaGreatDoorLawO
import Derived.Test.YtepneihjhcakhaaGreatDoorPlayA
set_option linter.unusedVariables false
set_option linter.unusedSimpArgs false
namespace Go.Proofs.YtepneihjhcakhaaGreatDoor
open Go.RowKit

theorem St.low {n₀ : Nat} {τ : Nat → Tag} {W : World} {bw : Nat} {tws : List Tw} {N : Nat} (h : St n₀ τ W bw tws N) : (∀ b, b < n₀ → τ b = .free) ∧ n₀ ≤ W.heap.size := by
  obtain ⟨slT, slN, slE, slA, slB, ns, es, ms, me, h⟩ := h
  exact ⟨h.lo, h.le⟩
theorem St.mono {n₀ : Nat} {τ : Nat → Tag} {W : World} {bw : Nat} {tws : List Tw} {N M : Nat} (h : St n₀ τ W bw tws N) (hNM : N ≤ M) : St n₀ τ W bw tws M := by
  obtain ⟨slT, slN, slE, slA, slB, ns, es, ms, me, h⟩ := h
  exact ⟨slT, slN, slE, slA, slB, ns, es, ms, me, ⟨h.law, Nat.le_trans h.n1 hNM, Nat.le_trans h.n2 hNM, h.row, h.tT, h.tw, h.lo, h.le⟩⟩
theorem Moved.low {n₀ : Nat} {τ τ' : Nat → Tag} {W w' : World} {bw : Nat} {tws : List Tw} {N : Nat} (h : St n₀ τ W bw tws N) (hm : Moved τ W τ' w') : Below n₀ W w' :=
  ⟨hm.keep.os, hm.keep.tape, hm.keep.output, hm.keep.size, fun k hk => hm.keep.block k (Nat.lt_of_lt_of_le hk h.low.2) (fun hn => hn.2 (h.low.1 k hk))⟩

/-- Where the law stands behind k steps. -/
def At (W0 : World) (k : Nat) (w : World) : Prop := ∃ τ tws, St W0.heap.size τ w W0.heap.size tws (4 * k) ∧ Agree tws ∧ 0 < tws.length ∧ tws.length ≤ k ∧ Below W0.heap.size W0 w

theorem At.low {W0 w : World} {k : Nat} (h : At W0 k w) : Below W0.heap.size W0 w ∧ At W0 (k + 1) w := by
  obtain ⟨τ, tws, h1, h2, h3, h4, h5⟩ := h
  exact ⟨h5, τ, tws, h1.mono (by omega), h2, h3, by omega, h5⟩

theorem At.next {W0 w w' : World} {k : Nat} {τ : Nat → Tag} {tws : List Tw} {e : Ending} (hS : St W0.heap.size τ w W0.heap.size tws (4 * k)) (h3 : 0 < tws.length) (h4 : tws.length ≤ k) (h5 : Below W0.heap.size W0 w)
    (hR : StepR W0.heap.size τ w W0.heap.size tws.length (4 * k + 4) e w') : e = .returned (.bool true) ∧ At W0 (k + 1) w' := by
  obtain ⟨rfl, τ', tws', m1, m2, m3, m4, m5⟩ := hR
  exact ⟨rfl, τ', tws', m2.mono (by omega), m3, by omega, by omega, h5.trans (Moved.low hS m1)⟩

theorem at_step {W0 w : World} {k : Nat} (hk : k ≤ 20000000) (h : At W0 k w) (z T : Int) (s s2 : ByteArray) (a0 a1 c0 c1 nm : Int) (ho : z ≤ 4) (hs : s.size ≤ 2000000) (hT1 : -9223372036854775808 ≤ T) (hT2 : T ≤ 9223372036854775807) :
    Calls Tryz.prog 5 #[.pointer (some ⟨W0.heap.size, 0, none⟩), .agg #[.int .i64 z, .int .i64 T, .string s, .string s2, .int .i64 a0, .int .i64 a1, .int .i64 c0, .int .i64 c1, .int .i64 nm]] w fun e w' => e = .returned (.bool true) ∧ At W0 (k + 1) w' := by
  obtain ⟨τ, tws, h1, h2, h3, h4, h5⟩ := h
  have hh : z ≤ 0 ∨ z = 1 ∨ z = 2 ∨ z = 3 ∨ z = 4 := by omega
  rcases hh with hz | rfl | rfl | rfl | rfl
  · exact (step_other (by omega) h1 h2 h3 (by omega) s s2 hs z T a0 a1 c0 c1 nm hz hT1 hT2).mono fun e w' hR => At.next h1 h3 h4 h5 hR
  · exact (step_new h1 h2 (by omega) s s2 T a0 a1 c0 c1 nm).mono fun e w' hR => At.next h1 h3 h4 h5 hR.1
  · exact (step_cohort (by omega) h1 h2 h3 (by omega) s s2 hs T a0 a1 c0 c1 nm hT1 hT2).mono fun e w' hR => At.next h1 h3 h4 h5 hR
  · exact (step_leaf (by omega) h1 h2 h3 (by omega) s s2 hs T a0 a1 c0 c1 nm hT1 hT2).mono fun e w' hR => At.next h1 h3 h4 h5 hR
  · exact (step_queue (by omega) h1 h2 h3 (by omega) s s2 hs T a0 a1 c0 c1 nm hT1 hT2).mono fun e w' hR => At.next h1 h3 h4 h5 hR

theorem at_look {W0 w : World} {k : Nat} (hk : k ≤ 20000000) (h : At W0 k w) : Calls Tryz.prog 6 #[.pointer (some ⟨W0.heap.size, 0, none⟩)] w fun e w' => e = .returned (.bool true) ∧ At W0 k w' := by
  obtain ⟨τ, tws, h1, h2, h3, h4, h5⟩ := h
  obtain ⟨slT, slN, slE, slA, slB, ns, es, ms, me, hS⟩ := id h1
  have n1 := hS.n1
  have n2 := hS.n2
  refine (looks_any hS.law.blk hS.law.N hS.law.E (by omega) (by omega)).mono ?_
  rintro e w' ⟨rfl, hb⟩
  exact ⟨rfl, _, tws, h1.below hb, h2, h3, h4, h5.trans (hb.mono h1.low.2)⟩

theorem marked0 (w : World) (c : Nat) (tl : TypeId) : Marked w c tl (.slice none 0 0) (.slice none 0 0) [] [] :=
  ⟨World.ownsRow_nil _ _ _ _, World.ownsRow_nil _ _ _ _, rfl, fun i v m h => by simp at h⟩

theorem st_start {W0 w : World} (hb : Below W0.heap.size W0 w) (bk : Blk w W0.heap.size 32 #[.slice none 0 0, .slice none 0 0, .slice none 0 0, .slice none 0 0, .slice none 0 0]) :
    St W0.heap.size (fun b => if b = W0.heap.size then .law else .free) w W0.heap.size [] 0 := by
  have hno : ∀ g, (Value.slice none 0 0).ownBlock = some g → False := fun g hg => by cases hg
  refine ⟨.slice none 0 0, .slice none 0 0, .slice none 0 0, .slice none 0 0, .slice none 0 0, [], [], [], [], ⟨⟨bk, by simp, marked0 _ _ _, marked0 _ _ _, fun g hg => (hno g hg).elim, fun g hg => (hno g hg).elim, fun g hg => (hno g hg).elim, fun g hg => (hno g hg).elim, fun v hv => (by cases hv), fun v hv => (by cases hv)⟩, Nat.le_refl _, Nat.le_refl _, World.ownsRow_nil _ _ _ _, fun g hg => (hno g hg).elim, fun t x hx => by simp at hx, fun b hb' => ?_, hb.size⟩⟩
  rw [if_neg (by omega)]

theorem at_first {W0 w : World} (hb : Below W0.heap.size W0 w) (bk : Blk w W0.heap.size 32 #[.slice none 0 0, .slice none 0 0, .slice none 0 0, .slice none 0 0, .slice none 0 0]) (s s2 : ByteArray) (T a0 a1 c0 c1 nm : Int) :
    Calls Tryz.prog 5 #[.pointer (some ⟨W0.heap.size, 0, none⟩), .agg #[.int .i64 1, .int .i64 T, .string s, .string s2, .int .i64 a0, .int .i64 a1, .int .i64 c0, .int .i64 c1, .int .i64 nm]] w fun e w' => e = .returned (.bool true) ∧ At W0 1 w' := by
  have h1 := st_start hb bk
  refine (step_new h1 (fun x hx => by cases hx) (by simp) s s2 T a0 a1 c0 c1 nm).mono ?_
  rintro e w' ⟨hR, τ', tws', m2, m3, m1, m4⟩
  simp at m4
  exact ⟨hR.1, τ', tws', m2.mono (by omega), m3, by omega, by omega, hb.trans (Moved.low h1 m1)⟩

theorem played_any {W : World} {ao : Option Addr} {len cap : Nat} (hl : len ≤ cap) (hm : cap ≤ maxLen) {O : Nat → OpC} (hS : ScriptIn W ao len O) (hlen : len ≤ 1048576)
    (hO : ∀ i, i < len → (O i).s.size ≤ 1048576 ∧ -9223372036854775808 ≤ (O i).t ∧ (O i).t ≤ 9223372036854775807) :
    Calls Tryz.prog 4 #[.slice ao len cap, .int .i64 4] W fun e w' => e = .returned (.bool true) ∧ Below W.heap.size W w' := by
  refine played_walk hl hm hS 4 (A := At W) (fun w h1 h2 => at_first h1 h2 _ _ _ _ _ _ _ _) (fun w h => ?_) (fun w h => ?_) (fun i hi hk w h => ?_) (fun i hi w h => ?_) (fun i w h => h.low)
  · exact at_step (by omega) h _ _ _ _ _ _ _ _ _ (by omega) (by decide) (by omega) (by omega)
  · exact at_step (by omega) h _ _ _ _ _ _ _ _ _ (by omega) (by decide) (by omega) (by omega)
  · have := hO i hi
    exact at_step (by omega) h _ _ _ _ _ _ _ _ _ hk (by omega) this.2.1 this.2.2
  · exact at_look (by omega) h

set_option maxRecDepth 100000 in
theorem trees_any {W : World} {ao : Option Addr} {len cap : Nat} (hl : len ≤ cap) (hm : cap ≤ maxLen) {O : Nat → OpC} (hS : ScriptIn W ao len O) (hlen : len ≤ 1048576)
    (hO : ∀ i, i < len → (O i).s.size ≤ 1048576 ∧ -9223372036854775808 ≤ (O i).t ∧ (O i).t ≤ 9223372036854775807) :
    Calls Tryz.prog 3 #[.slice ao len cap] W fun e w' => e = .returned (.bool true) ∧ Below W.heap.size W w' := by
  have h4 := played_any hl hm hS hlen hO
  clear hS hO
  go_enter Tryz.func3, Tryz.ntmps3
  go_wp2_with (go_at_call 4; refine h4.mono ?_; rintro e w1 ⟨rfl, hb⟩)
  go_ret
  exact ⟨rfl, hb⟩
end Go.Proofs.YtepneihjhcakhaaGreatDoor
