import Derived.Test.YtphclnolomgjoaaGreatDoorB37
set_option linter.unusedVariables false
set_option linter.unusedSimpArgs false
namespace Go.Proofs.YtphclnolomgjoaaGreatDoor
open Go.RowKit
theorem q_done {W : World} {b : Nat} {t : TypeId} {z0 z1 z2 z3 z4 z5 z6 z7 z8 : Value} (h : Blk W b t #[z0, z1, z2, z3, z4, z5, z6, z7, z8]) (v0 v1 v2 v3 v4 v5 v6 v7 v8 : Value) :
    Blk (((((((((W.setCell ⟨b, 0, none⟩ v0).setCell ⟨b, 1, none⟩ v1).setCell ⟨b, 2, none⟩ v2).setCell ⟨b, 3, none⟩ v3).setCell ⟨b, 4, none⟩ v4).setCell ⟨b, 5, none⟩ v5).setCell ⟨b, 6, none⟩ v6).setCell ⟨b, 7, none⟩ v7).setCell ⟨b, 8, none⟩ v8) b t #[v0, v1, v2, v3, v4, v5, v6, v7, v8] := by
  have := (((((((((h.set 0 v0).set 1 v1).set 2 v2).set 3 v3).set 4 v4).set 5 v5).set 6 v6).set 7 v7).set 8 v8)
  simp only [List.setIfInBounds_toArray, List.set_cons_zero, List.set_cons_succ] at this
  exact this
theorem q_below {w W : World} {B b6 : Nat} (h : Below B w W) (hb : B ≤ b6) (v0 v1 v2 v3 v4 v5 v6 v7 v8 : Value) : Below B w (((((((((W.setCell ⟨b6, 0, none⟩ v0).setCell ⟨b6, 1, none⟩ v1).setCell ⟨b6, 2, none⟩ v2).setCell ⟨b6, 3, none⟩ v3).setCell ⟨b6, 4, none⟩ v4).setCell ⟨b6, 5, none⟩ v5).setCell ⟨b6, 6, none⟩ v6).setCell ⟨b6, 7, none⟩ v7).setCell ⟨b6, 8, none⟩ v8) :=
  (((((((((h.setCell hb _).setCell hb _).setCell hb _).setCell hb _).setCell hb _).setCell hb _).setCell hb _).setCell hb _).setCell hb _)
end Go.Proofs.YtphclnolomgjoaaGreatDoor
namespace Go.Proofs.YtphclnolomgjoaaGreatDoor
open Go.RowKit
theorem i37a : (Tryz.prog.info? 37).map (fun i => (i.size, i.bytes)) = some (9, 96) := by kernel_rfl
theorem i37b : (Tryz.prog.info? 37).bind (fun i => i.zero) = some (.agg #[.string ⟨#[]⟩, .bool false, .int .i64 0, .int .i64 0, .int .i64 0, .int .i64 0, .int .i64 0, .int .i64 0, .slice none 0 0]) := by kernel_rfl
theorem inf37 : qfa 37 9 96 := qge i37a i37b rfl
theorem un61 : Tryz.prog.underlying 61 = some (.slice 37) := by kernel_rfl
def qCs (nodes : List Node) (as_ : List Pw) (n : Node) (v : Value) : List Value := (qrb (qaa n.key) n.leaf (pn0 nodes n.key) (pn1 nodes n.key) n.b0 n.b1 (ws0 (pun as_ n.key)) (ws1 (pun as_ n.key)) v).toList
def tCells (nodes : List Node) (as_ : List Pw) (pre : List Node) (vs : List Value) : List Value := (List.zipWith (qCs nodes as_) pre vs).flatten
def SepV (vs : List Value) : Prop := ∀ (i j : Nat) (u v : Value) (b : Nat), i < j → vs[i]? = some u → vs[j]? = some v → u.ownBlock = some b → v.ownBlock ≠ some b
theorem SepV.snoc {vs : List Value} (h : SepV vs) {u : Value} (hn : ∀ (i : Nat) (v : Value) (b : Nat), vs[i]? = some v → v.ownBlock = some b → u.ownBlock ≠ some b) : SepV (vs ++ [u]) := fun i j x y b hij hx hy hb => by
  have hj := (List.getElem?_eq_some_iff.1 hy).1
  simp at hj
  rw [List.getElem?_append_left (by omega)] at hx
  by_cases hl : j < vs.length
  · rw [List.getElem?_append_left hl] at hy
    exact h i j x y b hij hx hy hb
  · rw [List.getElem?_append_right (by omega), show j - vs.length = 0 by omega] at hy
    simp at hy
    subst hy
    exact hn i x b hx hb
def TolN (ws : List Pw) (A : World) (lo : Nat) (pre : List Node) (vs : List Value) : Prop :=
  vs.length = pre.length ∧ (∀ (i : Nat) (n : Node) (u : Value), pre[i]? = some n → vs[i]? = some u → (A.ownsRow 0 3 1 u (qba ws n.blk).length (qg0 (qba ws n.blk)) ∧ (∀ b, u.ownBlock = some b → lo ≤ b))) ∧ SepV vs
structure Tl (nodes : List Node) (ws as_ : List Pw) (w : World) (bt lo : Nat) (pre : List Node) (A : World) (v : Value) (vs : List Value) : Prop where
  row : A.ownsRow 0 37 9 v pre.length (tCells nodes as_ pre vs)
  lb : Box A (w.heap.size + 1) 61 v
  tb : Box A w.heap.size 45 (.pointer (some ⟨bt, 0, none⟩))
  nums : TolN ws A lo pre vs
  own : ∀ b, v.ownBlock = some b → lo ≤ b
  bel : Below w.heap.size w A
section
variable {nodes : List Node} {ws as_ : List Pw} {w : World} {bt lo : Nat} {pre : List Node} {v : Value} {vs : List Value}
theorem TolN.keep {A B : World} (h : TolN ws A lo pre vs) {T : Nat → Prop} (hk : Keep T A B) (hT : ∀ (i : Nat) (n : Node) (u : Value) (b : Nat), pre[i]? = some n → vs[i]? = some u → u.ownBlock = some b → ¬ T b) : TolN ws B lo pre vs :=
  ⟨h.1, fun i n u h1 h2 => ⟨qaf (h.2.1 i n u h1 h2).1 hk (fun b hb => hT i n u b h1 h2 hb), (h.2.1 i n u h1 h2).2⟩, h.2.2⟩
theorem Tl.keep {A B : World} (h : Tl nodes ws as_ w bt lo pre A v vs) {T : Nat → Prop} (hk : Keep T A B) (hT : ∀ b, b < w.heap.size + 2 ∨ lo ≤ b → ¬ T b) : Tl nodes ws as_ w bt lo pre B v vs :=
  ⟨qaf h.row hk (fun b hb => hT b (.inr (h.own b hb))), h.lb.keep hk (hT _ (.inl (by omega))), h.tb.keep hk (hT _ (.inl (by omega))), TolN.keep h.nums hk (fun i n u b h1 h2 h3 => hT b (.inr ((h.nums.2.1 i n u h1 h2).2 b h3))), h.own, h.bel.trans (hk.toBelow h.bel.size (fun b hb => hT b (.inl (by omega))))⟩
theorem tCells_snoc (hl : vs.length = pre.length) (x : Node) (u : Value) : tCells nodes as_ (pre ++ [x]) (vs ++ [u]) = tCells nodes as_ pre vs ++ qCs nodes as_ x u := by
  unfold tCells
  rw [List.zipWith_append hl.symm]
  simp
theorem Tl.step {A W3 w1 : World} (h : Tl nodes ws as_ w bt lo pre A v vs) (hlo : w.heap.size + 2 ≤ lo) (hA : lo ≤ A.heap.size) (hB3 : Below A.heap.size A W3) {x : Node} {u : Value} (hr : W3.ownsRow 0 3 1 u (qba ws x.blk).length (qg0 (qba ws x.blk))) (hu : ∀ b, u.ownBlock = some b → A.heap.size ≤ b)
    {cs : Array Value} {g cap : Nat} (RA : AppR (W3.alloc (.cells cs 37)) v.ownBlock 37 9 (pre.length + 1) (tCells nodes as_ pre vs ++ qCs nodes as_ x u) g cap w1) :
    Keep (fun b => b = w.heap.size + 1 ∨ lo ≤ b) A (w1.setCell ⟨w.heap.size + 1, 0, none⟩ (.slice (some ⟨g, 0, none⟩) (pre.length + 1) cap)) ∧ Tl nodes ws as_ w bt lo (pre ++ [x]) (w1.setCell ⟨w.heap.size + 1, 0, none⟩ (.slice (some ⟨g, 0, none⟩) (pre.length + 1) cap)) (.slice (some ⟨g, 0, none⟩) (pre.length + 1) cap) (vs ++ [u]) := by
  have hBA : Below A.heap.size A (W3.alloc (.cells cs 37)) := hB3.alloc hB3.size _
  have hz := hBA.size
  have hz1 := hB3.size
  have b1 : Box w1 (w.heap.size + 1) 61 v := (h.lb.below hBA h.lb.lt).keep RA.keep (fun e => by have := h.own _ e; omega)
  have b2 : Box w1 w.heap.size 45 (.pointer (some ⟨bt, 0, none⟩)) := (h.tb.below hBA h.tb.lt).keep RA.keep (fun e => by have := h.own _ e; omega)
  have hK : Keep (fun b => b = w.heap.size + 1 ∨ lo ≤ b) A w1 := (Keep.new hBA).qbm RA.keep (fun b hb e => .inr (h.own b e))
  have hK2 := hK.setCell (p := ⟨w.heap.size + 1, 0, none⟩) (.inl rfl) (.slice (some ⟨g, 0, none⟩) (pre.length + 1) cap)
  have hgl : lo ≤ g := by
    rcases RA.new with e | e
    · exact h.own _ e
    · omega
  have hrw : A.ownsRow 0 37 9 v pre.length (tCells nodes as_ pre vs) := h.row
  have hrA := qaf (T := fun _ => False) hrw (Keep.new hBA) (fun _ _ e => e)
  have kS := (Keep.refl (fun b => b = w.heap.size + 1) w1).setCell (p := ⟨w.heap.size + 1, 0, none⟩) rfl (.slice (some ⟨g, 0, none⟩) (pre.length + 1) cap)
  refine ⟨hK2, ⟨?_, b1.set _, b2.keep kS (by omega), ⟨by simp [h.nums.1], fun i n u' h1 h2 => ?_, SepV.snoc h.nums.2.2 (fun i v' b hv hb hc => ?_)⟩, fun b hb => ?_, h.bel.trans (hK2.toBelow h.bel.size (fun b hb e => by omega))⟩⟩
  · rw [tCells_snoc h.nums.1, show (pre ++ [x]).length = pre.length + 1 by simp]
    exact qaf RA.own kS (fun b hb e => by simp [Value.ownBlock] at hb; omega)
  · by_cases hi : i < pre.length
    · rw [List.getElem?_append_left hi] at h1
      rw [List.getElem?_append_left (by rw [h.nums.1]; exact hi)] at h2
      obtain ⟨k1, k2⟩ := h.nums.2.1 i n u' h1 h2
      have k3 := qaf (T := fun _ => False) k1 (Keep.new hBA) (fun _ _ e => e)
      refine ⟨qaf (qaf k3 RA.keep (fun b hb e => qd2 k3 hrA (by decide) hb e)) kS (fun b hb e => by have := k2 b hb; omega), k2⟩
    · have hi2 : i = pre.length := by
        have := (List.getElem?_eq_some_iff.1 h1).1
        simp at this
        omega
      subst hi2
      rw [List.getElem?_append_right (Nat.le_refl _)] at h1
      rw [List.getElem?_append_right (by rw [h.nums.1]; exact Nat.le_refl _)] at h2
      simp [h.nums.1] at h1 h2
      subst h1
      subst h2
      have hb4 : Below W3.heap.size W3 (W3.alloc (.cells cs 37)) := (Below.refl _ _).alloc (Nat.le_refl _) _
      have k3 := qaf (T := fun _ => False) hr (Keep.new hb4) (fun _ _ e => e)
      refine ⟨qaf (qaf k3 RA.keep (fun b hb e => qd2 k3 hrA (by decide) hb e)) kS (fun b hb e => by have := hu b hb; omega), fun b hb => Nat.le_trans hA (hu b hb)⟩
  · have hlt := (List.getElem?_eq_some_iff.1 hv).1
    obtain ⟨n', hn'⟩ : ∃ n', pre[i]? = some n' := ⟨_, List.getElem?_eq_getElem (by rw [← h.nums.1]; exact hlt)⟩
    have h1 := qap (h.nums.2.1 i n' v' hn' hv).1 hb
    have h2 := hu b hc
    omega
  · simp [Value.ownBlock] at hb; omega
end
end Go.Proofs.YtphclnolomgjoaaGreatDoor
namespace Go.Proofs.YtphclnolomgjoaaGreatDoor
open Go.RowKit Go.Shelf
attribute [local go_sem] Oper.semAt_some
set_option maxRecDepth 100000 in
set_option maxHeartbeats 2000000 in
theorem tellAll_prog {nodes : List Node} (T0 : Tree nodes) (hB : qa1 nodes) {ch : Node → List Node} (K0 : Kids nodes ch) {w : World} {bt : Nat} {r : Node} {lst vw va : Value} {ws as_ : List Pw} (h : TwAt w nodes bt r lst vw va ws as_) (hr : r ∈ nodes) (hrk : r.key = []) :
    Calls Tryz.prog 61 #[.pointer (some ⟨bt, 0, none⟩)] w fun e w' => ∃ v' vs, e = .returned v' ∧ w'.ownsRow 0 37 9 v' (dfs ch 4 r).length (tCells nodes as_ (dfs ch 4 r) vs) ∧ TolN ws w' w.heap.size (dfs ch 4 r) vs ∧ Below w.heap.size w w' ∧ (∀ b, v'.ownBlock = some b → w.heap.size ≤ b) := by
  have hdd : ∀ k : Nat, Fence.wide.depth.isSome = true → 1 ≤ k := fun k h => by simp [Fence.wide] at h
  have hbt := h.bk.at_.lt
  have htell := fun W (hW : Below w.heap.size w W) n (hn : n ∈ nodes) => qro T0 hB (h.below hW) hn
  have hall := fun W (hW : Below w.heap.size w W) => qio T0 K0 hr W (h.below hW).ins
  have hmem := qk7 K0 4 r hr
  have hlen := qo5 T0 K0 hr
  have htW : ∀ W, Below w.heap.size w W → W.cell? ⟨bt, 0, none⟩ = some (nptr r.blk) := fun W (hW : Below w.heap.size w W) => (h.below hW).bk.at_.cell 0
  generalize dfs ch 4 r = X at *
  refine (callsIn_wide (n := 3)).1 ?_
  refine callsIn_of_wp_marks Tryz.func61 rfl trivial ?_ rfl
  unfold nptr at hall htW
  simp only [Tryz.ntmps61, List.size_toArray, List.length_cons, List.length_nil, Nat.reduceAdd, Nat.reduceSub, Array.replicate_succ, Array.replicate_zero, List.push_toArray, List.append_toArray, List.nil_append, List.cons_append]
  have hN1 := htW _ (show Below w.heap.size w ((w.alloc (.cells #[.pointer (some ⟨bt, 0, none⟩)] 45)).alloc (.cells #[.slice none 0 0] 61)) by exact bel2)
  gi_wp2_with ((first | refine ⟨trivial, hdd _, ?_⟩ | refine ⟨trivial, ?_⟩); gi_at_call 101; refine (callsIn_wide.2 (hall _ (by exact bel2))).mono ?_; rintro e W3 ⟨rfl, rfl, hseq⟩)
  obtain ⟨W, hW⟩ : ∃ W, W = (((w.alloc (.cells #[.pointer (some ⟨bt, 0, none⟩)] 45)).alloc (.cells #[.slice none 0 0] 61)).alloc (.cells #[.pointer (some ⟨r.blk, 0, none⟩)] 97)) := ⟨_, rfl⟩
  have hsz : W.heap.size = w.heap.size + 3 := by rw [hW]; simp
  have hbw : Below w.heap.size w W := by rw [hW]; exact bel2
  have z0 : Box W w.heap.size 45 (.pointer (some ⟨bt, 0, none⟩)) := by rw [hW]; exact ((Box.new w 45 _).alloc _).alloc _
  have z1 : Box W (w.heap.size + 1) 61 (.slice none 0 0) := by
    have := Box.new (w.alloc (.cells #[.pointer (some ⟨bt, 0, none⟩)] 45)) 61 (.slice none 0 0)
    rw [World.size_alloc] at this
    rw [hW]; exact this.alloc _
  simp only [World.size_alloc] at hseq
  simp only [← hW] at hseq ⊢
  have hq : SeqM Tryz.prog 149 #[.pointer (some ⟨w.heap.size + 1 + 1, 0, none⟩)] (fun x : Node => #[.pointer (some ⟨x.blk, 0, none⟩)]) (fun _ => False) 0 (fun b => b = w.heap.size + 1) X W := qt0 (fun B l0 h1 h2 => hseq _ (fun n hn => ⟨fun e => by have := (h.ins n hn).lt; omega, fun g hg e => by have := ((h.ins n hn).row.lt g hg).2; omega⟩))
  clear hseq hall hW hN1
  have hno : ∀ b, b < W.heap.size → ¬ (False ∨ (W.heap.size ≤ b ∧ b < W.heap.size + 2 + 0)) := fun b hb e => by rcases e with e | e; exact e; omega
  refine qhm (T := fun b => b = w.heap.size + 1) (S := fun _ => False) rfl (enters_of Tryz.func149 (by kernel_rfl) rfl) hq (Below.refl _ _) (fun _ => rfl) (fun b e => e.elim) (fun b e => by omega)
    (fun (pre : List Node) A => ∃ v vs, Tl nodes ws as_ w bt (W.heap.size + 2 + 0) pre A v vs)
    (fun c (pre : List Node) A => False)
    (fun pre A B hs hk => by
      obtain ⟨v, vs, hs⟩ := hs
      exact ⟨v, vs, hs.keep hk (fun b hb e => by rcases e with e | e; exact e; omega)⟩)
    (fun c pre A B hs hk => hs)
    ⟨_, [], ⟨rfl, .inl ⟨rfl, rfl⟩⟩, z1, z0, ⟨rfl, fun i n u h1 h2 => (by simp at h1), fun i j u v b _ h1 => (by simp at h1)⟩, by simp [Value.ownBlock], hbw⟩
    (fun x => { tmps := #[.pointer (some ⟨bt, 0, none⟩), .pointer (some ⟨w.heap.size, 0, none⟩), .slice none 0 0, .pointer (some ⟨w.heap.size + 1, 0, none⟩), .pointer (some ⟨x.blk, 0, none⟩), .pointer (some ⟨bt, 0, none⟩), .pointer (some ⟨bt, 0, none⟩), .pointer (some ⟨bt, 0, none⟩), .pointer (some ⟨r.blk, 0, none⟩), .func (.func 149) #[] #[.pointer (some ⟨w.heap.size + 1 + 1, 0, none⟩)], .pointer (some ⟨x.blk, 0, none⟩), undef, undef, undef, undef, undef, undef, undef], defers := [] }) ?assign ?body ?done ?stop
  case assign =>
    intro l x W K hK
    gi_wp2
    exact hK
  case stop =>
    rintro c pre A hpre hx hD
    exact hx.elim
  case body =>
    rintro l2 pre x W2 ⟨v, vs, g⟩ hszW hpre
    have hxm : x ∈ nodes := hmem x (hpre.subset (by simp))
    have hpl : pre.length ≤ 90 := by have := hpre.length_le; simp at this; omega
    have htl := fun W' (hW' : Below w.heap.size w W') => htell W' hW' x hxm
    obtain ⟨a0, cap0, hv, hle0, hmx0⟩ := qa6 g.row
    subst hv
    have hrow := g.row
    have HST : Hid (∀ (W3 : World) (a3 : Option Addr) (c3 : Nat) (w1 : World) (g1 cap : Nat), Below W2.heap.size W2 W3 → W3.ownsRow 0 3 1 (.slice a3 (qba ws x.blk).length c3) (qba ws x.blk).length (qg0 (qba ws x.blk)) → (∀ b, (Value.slice a3 (qba ws x.blk).length c3).ownBlock = some b → W2.drew.heap.size < b) → AppR (W3.alloc (.cells (qrb (qaa x.key) x.leaf (pn0 nodes x.key) (pn1 nodes x.key) x.b0 x.b1 (ws0 (pun as_ x.key)) (ws1 (pun as_ x.key)) (.slice a3 (qba ws x.blk).length c3)) 37)) (Value.slice a0 pre.length cap0).ownBlock 37 9 (pre.length + 1) (tCells nodes as_ pre vs ++ (qrb (qaa x.key) x.leaf (pn0 nodes x.key) (pn1 nodes x.key) x.b0 x.b1 (ws0 (pun as_ x.key)) (ws1 (pun as_ x.key)) (.slice a3 (qba ws x.blk).length c3)).toList) g1 cap w1 → Keep (fun b => b = w.heap.size + 1 ∨ W.heap.size + 2 + 0 ≤ b) W2 (w1.setCell ⟨w.heap.size + 1, 0, none⟩ (.slice (some ⟨g1, 0, none⟩) (pre.length + 1) cap)) ∧ Tl nodes ws as_ w bt (W.heap.size + 2 + 0) (pre ++ [x]) (w1.setCell ⟨w.heap.size + 1, 0, none⟩ (.slice (some ⟨g1, 0, none⟩) (pre.length + 1) cap)) (.slice (some ⟨g1, 0, none⟩) (pre.length + 1) cap) (vs ++ [.slice a3 (qba ws x.blk).length c3])) :=
      fun W3 a3 c3 w1 g1 cap e1 e2 e3 e4 => g.step (by omega) hszW e1 e2 (fun b hb => Nat.le_of_lt (e3 b hb)) e4
    unfold qrb at HST htl
    generalize pn0 nodes x.key = s0 at *
    generalize pn1 nodes x.key = s1 at *
    generalize ws0 (pun as_ x.key) = u0 at *
    generalize ws1 (pun as_ x.key) = u1 at *
    generalize sb (qaa x.key) = pth at *
    generalize (qba ws x.blk).length = wl at *
    generalize qg0 (qba ws x.blk) = wn at *
    generalize htc : tCells nodes as_ pre vs = tc at hrow HST
    have HG : Hid (Tl nodes ws as_ w bt (W.heap.size + 2 + 0) pre W2 (.slice a0 pre.length cap0) vs) := g
    have c0 := g.lb.cell
    have c1 := g.tb.cell
    have glt := g.lb.lt
    have gown := g.own
    generalize hn : pre.length = n at *
    clear hn htc hq
    unfold nptr at htl
    gi_upto_region 4 with fail
    refine qf7 ?_
    refine qc8 (fun W' => W'.cell? ⟨w.heap.size, 0, none⟩ = some (.pointer (some ⟨bt, 0, none⟩))) (by kernel_rfl) (by kernel_rfl) g.tb.cell (fun hS => ?_)
    refine wpAnyH_take (i := 1) (v := .pointer (some ⟨bt, 0, none⟩)) rfl (by kernel_rfl) (by kernel_rfl) (by kernel_rfl) (fun _ _ _ h => absurd h.1 (by intro e; cases e)) (Or.inl ⟨by rfl, ?_⟩) hS ?_
    · intro w' hS'
      go_simp
    try simp only [List.getElem_toArray, List.getElem_cons_zero, List.getElem_cons_succ, Act.put, List.setIfInBounds_toArray, List.set_cons_zero, List.set_cons_succ]
    refine wpAnyH_take (i := 2) (v := .pointer (some ⟨x.blk, 0, none⟩)) rfl (by kernel_rfl) (by kernel_rfl) (by kernel_rfl) (fun _ _ _ h => absurd h.1 (by intro e; cases e)) (Or.inl ⟨by rfl, ?_⟩) hS ?_
    · intro w' hS'
      go_simp
    try simp only [List.getElem_toArray, List.getElem_cons_zero, List.getElem_cons_succ, Act.put, List.setIfInBounds_toArray, List.set_cons_zero, List.set_cons_succ]
    refine wpAnyH_ready (rs := [0, 3]) (by kernel_rfl) (by simp) ?_
    refine AllReadyH.cons rfl (fun K' hK => ?_) (AllReadyH.cons rfl (fun K' hK => ?_) AllReadyH.nil)
    rw [if_pos (by rfl)]
    try simp only [List.getElem_toArray, List.getElem_cons_zero, List.getElem_cons_succ]
    go_simp
    refine hK.out _ _ (g.tb.cell) (fun hS => ?_)
    clear hK
    try simp only [List.getElem_toArray, List.getElem_cons_zero, List.getElem_cons_succ, Act.put, List.setIfInBounds_toArray, List.set_cons_zero, List.set_cons_succ]
    refine wpAnyH_ready (rs := [3]) (by kernel_rfl) (by simp) ?_
    refine AllReadyH.cons rfl (fun K' hK => ?_) AllReadyH.nil
    rw [if_pos (by rfl)]
    try simp only [List.getElem_toArray, List.getElem_cons_zero, List.getElem_cons_succ]
    go_simp
    refine (htl _ (qab g.bel (by exact bel2))).mono ?_
    rintro e W3 ⟨vq, rfl, hr3, hb3, hv3⟩
    obtain ⟨a3, c3, hvv, hle3, hmx3⟩ := qa6 hr3
    subst hvv
    have hB3 : Below W2.heap.size W2 W3 := qab (show Below W2.heap.size W2 W2.drew by exact bel2) hb3
    have hl3 := (g.lb.below hB3 g.lb.lt).cell
    have ht3 := (g.tb.below hB3 g.tb.lt).cell
    refine hK.out _ _ ht3 (fun hS => ?_)
    clear hK
    try simp only [List.getElem_toArray, List.getElem_cons_zero, List.getElem_cons_succ, Act.put, List.setIfInBounds_toArray, List.set_cons_zero, List.set_cons_succ]
    refine wpAnyH_ready (rs := [4]) (by kernel_rfl) (by simp) ?_
    refine AllReadyH.cons rfl (fun K' hK => ?_) AllReadyH.nil
    rw [if_pos (by rfl)]
    try simp only [List.getElem_toArray, List.getElem_cons_zero, List.getElem_cons_succ]
    go_simp
    have ht4 := (((g.tb.below hB3 g.tb.lt)).alloc (.cells #[.string pth, .bool x.leaf, .int .i64 s0, .int .i64 s1, .int .i64 x.b0, .int .i64 x.b1, .int .i64 u0, .int .i64 u1, .slice a3 wl c3] 37)).cell
    have hl4 := (((g.lb.below hB3 g.lb.lt)).alloc (.cells #[.string pth, .bool x.leaf, .int .i64 s0, .int .i64 s1, .int .i64 x.b0, .int .i64 x.b1, .int .i64 u0, .int .i64 u1, .slice a3 wl c3] 37)).cell
    refine hK.out _ _ ht4 (fun hS => ?_)
    clear hK
    try simp only [List.getElem_toArray, List.getElem_cons_zero, List.getElem_cons_succ, Act.put, List.setIfInBounds_toArray, List.set_cons_zero, List.set_cons_succ]
    rotate_left
    rw [if_pos (by rfl)]
    try simp only [List.getElem_toArray, List.getElem_cons_zero, List.getElem_cons_succ]
    go_simp
    refine (htl _ (qab g.bel (by exact bel2))).mono ?_
    rintro e W3 ⟨vq, rfl, hr3, hb3, hv3⟩
    obtain ⟨a3, c3, hvv, hle3, hmx3⟩ := qa6 hr3
    subst hvv
    have hB3 : Below W2.heap.size W2 W3 := qab (show Below W2.heap.size W2 W2.drew by exact bel2) hb3
    have hl3 := (g.lb.below hB3 g.lb.lt).cell
    have ht3 := (g.tb.below hB3 g.tb.lt).cell
    refine hK.out _ _ ht3 (fun hS => ?_)
    clear hK
    try simp only [List.getElem_toArray, List.getElem_cons_zero, List.getElem_cons_succ, Act.put, List.setIfInBounds_toArray, List.set_cons_zero, List.set_cons_succ]
    refine wpAnyH_ready (rs := [0, 4]) (by kernel_rfl) (by simp) ?_
    refine AllReadyH.cons rfl (fun K' hK => ?_) (AllReadyH.cons rfl (fun K' hK => ?_) AllReadyH.nil)
    rw [if_pos (by rfl)]
    try simp only [List.getElem_toArray, List.getElem_cons_zero, List.getElem_cons_succ]
    go_simp
    refine hK.out _ _ (ht3) (fun hS => ?_)
    clear hK
    try simp only [List.getElem_toArray, List.getElem_cons_zero, List.getElem_cons_succ, Act.put, List.setIfInBounds_toArray, List.set_cons_zero, List.set_cons_succ]
    refine wpAnyH_ready (rs := [4]) (by kernel_rfl) (by simp) ?_
    refine AllReadyH.cons rfl (fun K' hK => ?_) AllReadyH.nil
    rw [if_pos (by rfl)]
    try simp only [List.getElem_toArray, List.getElem_cons_zero, List.getElem_cons_succ]
    go_simp
    have ht4 := (((g.tb.below hB3 g.tb.lt)).alloc (.cells #[.string pth, .bool x.leaf, .int .i64 s0, .int .i64 s1, .int .i64 x.b0, .int .i64 x.b1, .int .i64 u0, .int .i64 u1, .slice a3 wl c3] 37)).cell
    have hl4 := (((g.lb.below hB3 g.lb.lt)).alloc (.cells #[.string pth, .bool x.leaf, .int .i64 s0, .int .i64 s1, .int .i64 x.b0, .int .i64 x.b1, .int .i64 u0, .int .i64 u1, .slice a3 wl c3] 37)).cell
    refine hK.out _ _ ht4 (fun hS => ?_)
    clear hK
    try simp only [List.getElem_toArray, List.getElem_cons_zero, List.getElem_cons_succ, Act.put, List.setIfInBounds_toArray, List.set_cons_zero, List.set_cons_succ]
    rotate_left
    rw [if_pos (by rfl)]
    try simp only [List.getElem_toArray, List.getElem_cons_zero, List.getElem_cons_succ]
    go_simp
    have ht4 := (((g.tb.below hB3 g.tb.lt)).alloc (.cells #[.string pth, .bool x.leaf, .int .i64 s0, .int .i64 s1, .int .i64 x.b0, .int .i64 x.b1, .int .i64 u0, .int .i64 u1, .slice a3 wl c3] 37)).cell
    have hl4 := (((g.lb.below hB3 g.lb.lt)).alloc (.cells #[.string pth, .bool x.leaf, .int .i64 s0, .int .i64 s1, .int .i64 x.b0, .int .i64 x.b1, .int .i64 u0, .int .i64 u1, .slice a3 wl c3] 37)).cell
    refine hK.out _ _ ht4 (fun hS => ?_)
    clear hK
    try simp only [List.getElem_toArray, List.getElem_cons_zero, List.getElem_cons_succ, Act.put, List.setIfInBounds_toArray, List.set_cons_zero, List.set_cons_succ]
    refine wpAnyH_ready (rs := [0]) (by kernel_rfl) (by simp) ?_
    refine AllReadyH.cons rfl (fun K' hK => ?_) AllReadyH.nil
    rw [if_pos (by rfl)]
    try simp only [List.getElem_toArray, List.getElem_cons_zero, List.getElem_cons_succ]
    go_simp
    refine hK.out _ _ (ht4) (fun hS => ?_)
    clear hK
    try simp only [List.getElem_toArray, List.getElem_cons_zero, List.getElem_cons_succ, Act.put, List.setIfInBounds_toArray, List.set_cons_zero, List.set_cons_succ]
    all_goals
      obtain ⟨v1, w1, hrr, g1, cap, rfl, RA⟩ := qey un61 inf37 (by omega) (W3.alloc (.cells #[.string pth, .bool x.leaf, .int .i64 s0, .int .i64 s1, .int .i64 x.b0, .int .i64 x.b1, .int .i64 u0, .int .i64 u1, .slice a3 wl c3] 37)) (.slice a0 n cap0) n tc (qaf (T := fun _ => False) hrow (Keep.new (hB3.alloc hB3.size _)) (fun _ _ e => e)) W3.heap.size 1 1 (by omega) [.string pth, .bool x.leaf, .int .i64 s0, .int .i64 s1, .int .i64 x.b0, .int .i64 x.b1, .int .i64 u0, .int .i64 u1, .slice a3 wl c3] rfl (Blk.new W3 37 _) (fun u hu => by simp at hu; rcases hu with rfl | rfl | rfl | rfl | rfl | rfl | rfl | rfl | rfl <;> rfl) (by unfold maxLen; omega) (by omega)
      have hfin := HST.out W3 a3 c3 w1 g1 cap hB3 hr3 hv3 RA
      have tb1 := hfin.2.tb.cell
      have ht5 : w1.cell? ⟨w.heap.size, 0, none⟩ = some (.pointer (some ⟨bt, 0, none⟩)) := (World.cell?_setCell_other _ _ _ _ (by intro e; injection e with e1; omega)).symm.trans tb1
      have HF : Hid (Keep (fun b => b = w.heap.size + 1 ∨ W.heap.size + 2 + 0 ≤ b) W2 (w1.setCell ⟨w.heap.size + 1, 0, none⟩ (.slice (some ⟨g1, 0, none⟩) (n + 1) cap)) ∧ ∃ v' vs', Tl nodes ws as_ w bt (W.heap.size + 2 + 0) (pre ++ [x]) (w1.setCell ⟨w.heap.size + 1, 0, none⟩ (.slice (some ⟨g1, 0, none⟩) (n + 1) cap)) v' vs') := ⟨hfin.1, _, _, hfin.2⟩
      have b1 : Box w1 (w.heap.size + 1) 61 (.slice a0 n cap0) := ((g.lb.below hB3 g.lb.lt).alloc _).keep RA.keep (fun e => by have := g.own _ e; omega)
      have k1 := b1.cell
      have f1 := b1.frozen
      clear hfin RA b1
      refine wpAnyH_ready (rs := [5]) (by kernel_rfl) (by simp) ?_
      refine AllReadyH.cons rfl (fun K' hK => ?_) AllReadyH.nil
      refine qa8 (R := fun v' w' => v' = .slice (some ⟨g1, 0, none⟩) (n + 1) cap ∧ w' = w1) rfl (.tmp 11) (.tmp 15) 61 61 rfl (.slice a0 n cap0) (.slice (some ⟨W3.heap.size, 0, none⟩) 1 1) rfl rfl ⟨_, _, hrr, rfl, rfl⟩ ?_
      rintro v' w' ⟨rfl, rfl⟩
      refine hK.out _ _ ht5 (fun hS => ?_)
      clear hK
      try simp only [List.getElem_toArray, List.getElem_cons_zero, List.getElem_cons_succ, Act.put, List.setIfInBounds_toArray, List.set_cons_zero, List.set_cons_succ]
      refine wpAnyH_ready (rs := [6]) (by kernel_rfl) (by simp) ?_
      refine AllReadyH.cons rfl (fun K' hK => ?_) AllReadyH.nil
      rw [if_pos (by rfl)]
      try simp only [List.getElem_toArray, List.getElem_cons_zero, List.getElem_cons_succ]
      go_simp
      refine hK.out _ _ tb1 (fun hS => ?_)
      clear hK
      refine wpAnyH_done (by kernel_rfl) ⟨rfl, ?_⟩ _
      exact HF.out
  case done =>
    rintro A ⟨v, vs, g⟩ hD
    have c0 := g.lb.cell
    gi_wp2_with fail
    refine ⟨by simp, .inl ⟨_, _, rfl, run_takeDeferred hD, ?_⟩⟩
    have hk : Keep (fun b => b = W.heap.size) A (A.putObj W.heap.size (.deferred none)) := (Keep.refl (fun b => b = W.heap.size) _).putObj rfl _
    have g2 := g.keep hk (fun b hb e => by omega)
    exact ⟨v, by simp [results, Tryz.results61, go_sem], v, vs, rfl, g2.row, ⟨g2.nums.1, fun i n u h1 h2 => ⟨(g2.nums.2.1 i n u h1 h2).1, fun b hb => (by have := (g2.nums.2.1 i n u h1 h2).2 b hb; omega)⟩, g2.nums.2.2⟩, g2.bel, fun b hb => by have := g2.own b hb; omega⟩
end Go.Proofs.YtphclnolomgjoaaGreatDoor
namespace Go.Proofs.YtphclnolomgjoaaGreatDoor
open Go.RowKit
def aheadK : List Bs → List Bs → Bool
  | [], [] => false
  | [], _ :: _ => true
  | _ :: _, [] => false
  | a :: k, b :: l => if a = b then aheadK k l else Op.bytesLess a b
theorem aheadK_pre : ∀ (p k l : List Bs), aheadK (p ++ k) (p ++ l) = aheadK k l
  | [], k, l => rfl
  | a :: p, k, l => by simp only [List.cons_append, aheadK, if_true]; exact aheadK_pre p k l
theorem aheadK_ne (p k l : List Bs) {x y : Bs} (h : x ≠ y) : aheadK (p ++ x :: k) (p ++ y :: l) = Op.bytesLess x y := by
  rw [aheadK_pre]; simp [aheadK, h]
end Go.Proofs.YtphclnolomgjoaaGreatDoor
namespace Go.Proofs.YtphclnolomgjoaaGreatDoor
open Go.RowKit
theorem cmp_less : ∀ (a b : Bs), cmpB a b < 0 → Op.bytesLess a b = true
  | [], [], h => by simp [cmpB, Lib.compareBytes] at h
  | [], b :: bs, _ => rfl
  | a :: as_, [], h => by simp [cmpB, Lib.compareBytes] at h
  | a :: as_, b :: bs, h => by
    have h : Lib.compareBytes (a :: as_) (b :: bs) < 0 := h
    rw [qgo] at h
    rw [qgn]
    by_cases h1 : a < b
    · exact .inl h1
    · rw [if_neg h1] at h
      by_cases h2 : b < a
      · rw [if_pos h2] at h; omega
      · rw [if_neg h2] at h
        have e1 : ¬ a.toNat < b.toNat := h1
        have e2 : ¬ b.toNat < a.toNat := h2
        exact .inr ⟨by omega, cmp_less as_ bs h⟩
theorem aheadK_asymm : ∀ (a b : List Bs), aheadK a b = true → aheadK b a = false
  | [], [], h => by simp [aheadK] at h
  | [], _ :: _, _ => rfl
  | _ :: _, [], h => by simp [aheadK] at h
  | x :: a, y :: b, h => by
    simp only [aheadK] at h ⊢
    by_cases e : x = y
    · rw [if_pos e] at h; rw [if_pos e.symm]; exact aheadK_asymm a b h
    · rw [if_neg e] at h; rw [if_neg (fun e2 => e e2.symm)]; exact qgm _ _ h
theorem dfs_sorted {nodes : List Node} (T : Tree nodes) {ch : Node → List Node} (K : Kids nodes ch) : ∀ (f : Nat) (n : Node), n ∈ nodes → 4 ≤ n.key.length + f → (dfs ch f n).Pairwise fun a b => aheadK a.key b.key = true := by
  intro f
  induction f with
  | zero => intro n _ _; simp [dfs]
  | succ f ih =>
    intro n hn hk
    have hkk : ∀ c ∈ ch n, c ∈ nodes ∧ ∃ x, c.key = n.key ++ [x] := fun c hc => (K.mem n hn c).1 hc
    have hb : ∀ c ∈ ch n, ∀ m ∈ dfs ch f c, ∃ x tl, qad c.key = x ∧ m.key = n.key ++ x :: tl := fun c hc m hm => by
      obtain ⟨hcn, x, hx⟩ := hkk c hc
      obtain ⟨_, tl, ht⟩ := (qk6 T K f c hcn (by rw [hx]; simp; omega) m).1 hm
      exact ⟨x, tl, by rw [hx, qaq], by rw [← ht, hx]; simp⟩
    have hs := K.sort n hn
    show (n :: (ch n).flatMap (dfs ch f)).Pairwise _
    refine List.pairwise_cons.2 ⟨fun m hm => ?_, ?_⟩
    · obtain ⟨c, hc, hm⟩ := List.mem_flatMap.1 hm
      obtain ⟨x, tl, _, e⟩ := hb c hc m hm
      rw [e]
      have := aheadK_pre n.key [] (x :: tl)
      rw [List.append_nil] at this
      rw [this]; rfl
    · generalize ch n = cs at hkk hb hs
      induction cs with
      | nil => simp
      | cons c cs ih2 =>
        rw [List.flatMap_cons]
        obtain ⟨hcn, x, hx⟩ := hkk c (by simp)
        simp only [List.map_cons, List.pairwise_cons] at hs
        refine List.pairwise_append.2 ⟨ih c hcn (by rw [hx]; simp; omega), ih2 (fun d hd => hkk d (by simp [hd])) (fun d hd => hb d (by simp [hd])) hs.2, fun a ha b hb2 => ?_⟩
        obtain ⟨d, hd, hbd⟩ := List.mem_flatMap.1 hb2
        obtain ⟨x1, t1, e1, k1⟩ := hb c (by simp) a ha
        obtain ⟨x2, t2, e2, k2⟩ := hb d (by simp [hd]) b hbd
        have hlt := hs.1 (qad d.key) (List.mem_map_of_mem hd)
        rw [e1, e2] at hlt
        rw [k1, k2, aheadK_ne _ _ _ (fun e => by subst e; have : cmpB x1 x1 = 0 := qdc x1; omega)]
        exact cmp_less _ _ hlt
end Go.Proofs.YtphclnolomgjoaaGreatDoor
namespace Go.Proofs.YtphclnolomgjoaaGreatDoor
open Go.RowKit Go.Shelf
attribute [local go_sem] Oper.semAt_some
structure QC where
  p : ByteArray
  lf : Bool
  i0 : Int
  i1 : Int
  i2 : Int
  i3 : Int
  i4 : Int
  i5 : Int
  a : Option Addr
  m : Nat
  c : Nat
def QC.vals (q : QC) : Array Value := #[.string q.p, .bool q.lf, .int .i64 q.i0, .int .i64 q.i1, .int .i64 q.i2, .int .i64 q.i3, .int .i64 q.i4, .int .i64 q.i5, .slice q.a q.m q.c]
structure IS where
  a : Option Addr
  c : Nat
  q : Nat → QC
  j : Nat
def IS.next (s : IS) : IS := { s with j := s.j + 1 }
set_option maxRecDepth 100000 in
set_option maxHeartbeats 2000000 in
theorem iter60 {W : World} {bx bt N : Nat} (hN : N ≤ 1000) (hbx : W.cell? ⟨bx, 0, none⟩ = some (.pointer (some ⟨bt, 0, none⟩))) {Start : IS → World → Prop}
    (htell : Calls Tryz.prog 61 #[.pointer (some ⟨bt, 0, none⟩)] W fun e w' => ∃ a c q, e = .returned (.slice a N c) ∧ N ≤ c ∧ c ≤ maxLen ∧ Start ⟨a, c, q, 0⟩ w' ∧ Below W.heap.size W w')
    (k ll : Nat) (J Jx : IS → World → Prop) (hJ : ∀ s A B, J s A → Below A.heap.size A B → J s B) (hS : ∀ s A, Start s A → Below W.heap.size W A → J s A)
    (hC : ∀ s A, J s A → s.j < N → ∃ g, s.a = some ⟨g, 0, none⟩ ∧ g < A.heap.size ∧ ∀ i u, (s.q s.j).vals[i]? = some u → A.cell? ⟨g, s.j * 9 + i, none⟩ = some u)
    (hY : ∀ m s A, J s A → s.j < N → YieldAt Fence.wide m Tryz.prog ll #[.agg (s.q s.j).vals] A fun e W' => (e = .returned (.bool true) ∧ J s.next W') ∨ (e = .returned (.bool false) ∧ Jx s.next W')) :
    CallsIn Fence.wide k Tryz.prog 60 (#[.func (.yield ll) #[] #[]] ++ #[.pointer (some ⟨bx, 0, none⟩)]) W fun e W' => (∃ v, e = .returned v) ∧ ((∃ s, s.j = N ∧ J s W') ∨ (∃ s, s.j ≤ N ∧ Jx s W')) := by
  have hdd : ∀ k : Nat, Fence.wide.depth.isSome = true → 1 ≤ k := fun k h => by simp [Fence.wide] at h
  refine callsIn_of_wp Tryz.func60 rfl trivial ?_ rfl
  simp only [Tryz.ntmps60, List.size_toArray, List.length_cons, List.length_nil, Nat.reduceAdd, Nat.reduceSub, Array.replicate_succ, Array.replicate_zero, List.push_toArray, List.append_toArray, List.nil_append, List.cons_append]
  gi_wp2_with ((first | refine ⟨trivial, hdd _, ?_⟩ | refine ⟨trivial, ?_⟩); gi_at_call 61; refine (callsIn_wide.2 htell).mono ?_; rintro e w1 ⟨a, c, q, rfl, hc1, hc2, hst, hb1⟩)
  have hJ0 := hS _ _ hst hb1
  clear hst htell hbx hS
  gi_loopg [8] N (fun r v wr => ∃ j : Nat, v = .int .i64 j ∧ j ≤ N ∧ N - j ≤ r ∧ J ⟨a, c, q, j⟩ wr)
  case atStart => exact ⟨0, rfl, Nat.zero_le _, by omega, hJ0⟩
  case round =>
    obtain ⟨j, rfl, hj, hr, hJj⟩ := hrel
    by_cases hlt : j < N
    · obtain ⟨g, hg, hgl, hcl⟩ := hC _ _ hJj hlt
      simp only at hg hcl
      subst hg
      have hYj := hY (k - 1) ⟨some ⟨g, 0, none⟩, c, q, j⟩
      simp only at hYj
      have q0 : wr.cell? ⟨g, j * 9, none⟩ = some (.string (q j).p) := hcl 0 _ rfl
      have q1 : wr.cell? ⟨g, j * 9 + 1, none⟩ = some (.bool (q j).lf) := hcl 1 _ rfl
      have q2 : wr.cell? ⟨g, j * 9 + 2, none⟩ = some (.int .i64 (q j).i0) := hcl 2 _ rfl
      have q3 : wr.cell? ⟨g, j * 9 + 3, none⟩ = some (.int .i64 (q j).i1) := hcl 3 _ rfl
      have q4 : wr.cell? ⟨g, j * 9 + 4, none⟩ = some (.int .i64 (q j).i2) := hcl 4 _ rfl
      have q5 : wr.cell? ⟨g, j * 9 + 5, none⟩ = some (.int .i64 (q j).i3) := hcl 5 _ rfl
      have q6 : wr.cell? ⟨g, j * 9 + 6, none⟩ = some (.int .i64 (q j).i4) := hcl 6 _ rfl
      have q7 : wr.cell? ⟨g, j * 9 + 7, none⟩ = some (.int .i64 (q j).i5) := hcl 7 _ rfl
      have q8 : wr.cell? ⟨g, j * 9 + 8, none⟩ = some (.slice (q j).a (q j).m (q j).c) := hcl 8 _ rfl
      unfold QC.vals at hYj
      have hYj2 := fun B hB => hYj B (hJ _ _ _ hJj hB) hlt
      clear hY hYj hcl hC hJ0 hJj
      have hji : (j : Int) < N := by omega
      have hji0 : (0 : Int) ≤ j := by omega
      obtain ⟨qq, hqq⟩ : ∃ qq, qq = q j := ⟨_, rfl⟩
      rw [← hqq] at q0 q1 q2 q3 q4 q5 q6 q7 q8 hYj2
      clear hqq
      have hgn : ¬ (g = wr.heap.size) := by omega
      gi_upto_region 3 with fail
      have bx2 : Blk (wr.alloc (.cells #[.string qq.p, .bool qq.lf, .int .i64 qq.i0, .int .i64 qq.i1, .int .i64 qq.i2, .int .i64 qq.i3, .int .i64 qq.i4, .int .i64 qq.i5, .slice qq.a qq.m qq.c] 37)) wr.heap.size 37 #[.string qq.p, .bool qq.lf, .int .i64 qq.i0, .int .i64 qq.i1, .int .i64 qq.i2, .int .i64 qq.i3, .int .i64 qq.i4, .int .i64 qq.i5, .slice qq.a qq.m qq.c] := Blk.new wr 37 _
      obtain ⟨fn, tmps, assign, body, hy, hR⟩ := hYj2 (wr.alloc (.cells #[.string qq.p, .bool qq.lf, .int .i64 qq.i0, .int .i64 qq.i1, .int .i64 qq.i2, .int .i64 qq.i3, .int .i64 qq.i4, .int .i64 qq.i5, .slice qq.a qq.m qq.c] 37)) (by exact bel2)
      generalize wr.alloc (.cells #[.string qq.p, .bool qq.lf, .int .i64 qq.i0, .int .i64 qq.i1, .int .i64 qq.i2, .int .i64 qq.i3, .int .i64 qq.i4, .int .i64 qq.i5, .slice qq.a qq.m qq.c] 37) = WA at bx2 hy hR ⊢
      generalize wr.heap.size = bq at bx2 ⊢
      clear hYj2 q0 q1 q2 q3 q4 q5 q6 q7 q8 hgn
      have b0 := bx2.cell 0
      have b1 := bx2.cell 1
      have b2 := bx2.cell 2
      have b3 := bx2.cell 3
      have b4 := bx2.cell 4
      have b5 := bx2.cell 5
      have b6 := bx2.cell 6
      have b7 := bx2.cell 7
      have b8 := bx2.cell 8
      simp only [List.getElem?_toArray, List.getElem?_cons_zero, List.getElem?_cons_succ] at b0 b1 b2 b3 b4 b5 b6 b7 b8
      gi_wp2_with (refine ⟨hdd _, ?_⟩; refine hR.mono ?_; clear hR; rintro e W2 (⟨rfl, hJ2⟩ | ⟨rfl, hx2⟩))
      · gi_roundg (N - (j + 1))
        case measure => omega
        case rel => exact ⟨j + 1, by go_num, by omega, Nat.le_refl _, hJ2⟩
      · refine bodyPost_ret (results_none rfl _ _ _) rfl ?_
        exact ⟨⟨_, rfl⟩, .inr ⟨_, by show j + 1 ≤ N; omega, hx2⟩⟩
    · gi_wp2
      go_end0
      exact ⟨⟨_, rfl⟩, .inl ⟨_, by show j = N; omega, hJj⟩⟩
end Go.Proofs.YtphclnolomgjoaaGreatDoor
namespace Go.Proofs.YtphclnolomgjoaaGreatDoor
open Go.RowKit Go.Shelf
def RK (r : Nat) (W W3 : World) : Prop := W3.heap[r]? = W.heap[r]? ∧ W3.heap[r + 1]? = W.heap[r + 1]?
def rfP3 (r : Nat) (I : World → Prop) (Ix : Code → World → Prop) (W : World) : Exit → Act → World → Prop
  | .normal, _, W3 => RK r W W3 ∧ I W3
  | .ret, _, W3 => RK r W W3 ∧ Ix .ret W3
  | .exit id, _, W3 => RK r W W3 ∧ Ix (.exit id) W3
  | .goto t, _, W3 => RK r W W3 ∧ Ix (.goto t) W3
  | .panic _, _, _ => False
  | .outgrown, _, _ => False
theorem rf_law3 {P : Program} {σ : Type} {g : Operand} {ps : Array Tmp} {assign body : Code} {Q : Exit → Act → World → Prop} {a : Act} {w : World} {n : Nat}
    {gf : Nat} {lb : Array Value} (hg : a.eval g = .func (.func gf) #[] lb) (eg : ∀ args w, (callFunc gf args).run P w = .ok (.enter gf args) w)
    {enc : σ → Array Value} {nx : σ → σ} {more fin : σ → Prop} {Start Cells : σ → World → Prop}
    (hseq : ∀ (k : Nat) (J Jx : σ → World → Prop) (W1 : World), Below w.heap.size w W1 → W1.heap.size = w.heap.size + 2 → (∀ s A B, J s A → Below A.heap.size A B → J s B) → (∀ s A, Start s A → Below W1.heap.size W1 A → J s A) → (∀ s A, J s A → more s → Cells s A) →
      (∀ m s A, J s A → more s → YieldAt Fence.wide m P (w.heap.size + 1) (enc s) A fun e W' => (e = .returned (.bool true) ∧ J (nx s) W') ∨ (e = .returned (.bool false) ∧ Jx (nx s) W')) →
      CallsIn Fence.wide k P gf (#[.func (.yield (w.heap.size + 1)) #[] #[]] ++ lb) W1 fun e W' => (∃ v, e = .returned v) ∧ ((∃ s, fin s ∧ J s W') ∨ (∃ s, Jx s W')))
    (hps : ∀ s, (enc s).size = ps.size)
    (I : σ → World → Prop) (Ix : Code → σ → World → Prop)
    (hI : ∀ s A B, I s A → Keep (fun b => b = w.heap.size ∨ b = w.heap.size + 1) A B → I s B) (hIx : ∀ c' s A B, Ix c' s A → Keep (fun b => b = w.heap.size ∨ b = w.heap.size + 1) A B → Ix c' s B)
    (hStart : ∀ s A W1, Start s A → Below w.heap.size w W1 → W1.heap.size = w.heap.size + 2 → Below W1.heap.size W1 A → I s A) (hCells : ∀ s A, I s A → more s → Cells s A)
    (w₁ : σ → World → World) (hw₁ : ∀ x W, Below W.heap.size W (w₁ x W)) (a₁ : σ → World → Act)
    (hassign : ∀ (l : Nat) (x : σ) (W : World) (K : Act → World → Prop), K (a₁ x W) (w₁ x W) →
      assign.wpIn (Fence.wide.inRound l) n P (Exit.then K (fun _ _ _ => False)) { tmps := (ps.zip (enc x)).foldl (fun t (p, v) => t.setIfInBounds p v) a.tmps, defers := [] } W)
    (hbody : ∀ (l : Nat) (s : σ) (W0 W : World), I s W → w.heap.size + 2 ≤ W0.heap.size → Keep (fun b => b = w.heap.size ∨ b = w.heap.size + 1) (w₁ s W0) W → more s → body.wpIn (Fence.wide.inRound l) n P (rfP3 w.heap.size (I (nx s)) (fun c => Ix c (nx s)) W) (a₁ s W0) W)
    (hdone : ∀ (s : σ) (W : World), fin s → I s W → W.heap[w.heap.size]? = some (.deferred (some [])) → Q .normal { a with defers := { target := .collected w.heap.size, args := #[] } :: a.defers } W)
    (hstop : ∀ (c : Code) (s : σ) (W : World), Ix c s W → W.heap[w.heap.size]? = some (.deferred (some [])) → c.wpIn Fence.wide n P Q { a with defers := { target := .collected w.heap.size, args := #[] } :: a.defers } W) :
    (Code.rangeFunc g ps assign body).wpIn Fence.wide n P Q a w := by
  have hn1 : ∀ m, Fence.wide.depth.isSome = true → 1 ≤ m := fun m h => by simp [Fence.wide] at h
  refine wpIn_rangeFunc fun fn _ => ?_
  obtain ⟨rc, hrc⟩ : ∃ rc : LoopState → Option Code → Loop, rc = fun st pe => { state := st, pending := pe, fn, tmps := a.tmps, params := ps, assign, body, defers := w.heap.size } := ⟨_, rfl⟩
  obtain ⟨W1, hW1⟩ : ∃ W1, (w.alloc (.deferred (some []))).alloc (.loop (rc .ready none)) = W1 := ⟨_, rfl⟩
  have hL1 : W1.heap[w.heap.size + 1]? = some (.loop (rc .ready none)) := by
    rw [← hW1]; have := World.alloc_heap_new (w.alloc (.deferred (some []))) (.loop (rc .ready none)); rwa [World.size_alloc] at this
  have hK1 : W1.heap[w.heap.size]? = some (.deferred (some [])) := by
    rw [← hW1]; exact (Below.heap_alloc _ _ _ (by simp)).trans (World.alloc_heap_new w _)
  have hz1 : W1.heap.size = w.heap.size + 2 := by rw [← hW1]; simp
  have hbw : Below w.heap.size w W1 := by rw [← hW1]; exact ((Below.refl _ w).alloc (Nat.le_refl _) _).alloc (by simp) _
  have kb : ∀ {A B : World} {k : Nat} {o : Obj}, Below A.heap.size A B → A.heap[k]? = some o → B.heap[k]? = some o := fun {A B k o} hb ho => by
    rw [hb.block k (Array.getElem?_eq_some_iff.1 ho).1]; exact ho
  refine ⟨w.heap.size + 1, [{ target := .collected w.heap.size, args := #[] }], W1, { target := .fn (.func gf) lb, args := #[.func (.yield (w.heap.size + 1)) #[] #[]] }, W1, gf,
    #[.func (.yield (w.heap.size + 1)) #[] #[]] ++ lb, W1, ?_, ?_, ?_, ?_, hn1 _, ?_⟩
  · rw [← hW1, hrc]; exact run_enterLoop_outer _ _ _ _ _
  · simp only [resolve, hg]; simp [go_sem]
  · intro f' _; trivial
  · simp [invoke, go_sem, eg]
  refine (hseq (n - 1)
    (fun s W => I s W ∧ W.heap[w.heap.size + 1]? = some (.loop (rc .ready none)) ∧ W.heap[w.heap.size]? = some (.deferred (some [])))
    (fun s W => ∃ c, Ix c s W ∧ W.heap[w.heap.size + 1]? = some (.loop (rc .done (some c))) ∧ W.heap[w.heap.size]? = some (.deferred (some [])))
    W1 hbw hz1
    (fun s A B hs hb => ⟨hI s A B hs.1 (Keep.new hb), kb hb hs.2.1, kb hb hs.2.2⟩)
    (fun s A hs hb => ⟨hStart s A W1 hs hbw hz1 hb, kb hb hL1, kb hb hK1⟩)
    (fun s A hs hm => hCells s A hs.1 hm) ?_).mono ?_
  · rintro m s W ⟨hi, hl, hk⟩ hm
    have hlt : w.heap.size + 1 < W.heap.size := (Array.getElem?_eq_some_iff.1 hl).1
    have hy := run_yield (P := P) (args := (enc s)) hl (by rw [hrc]; exact hps s)
    rw [hrc] at hy
    refine ⟨fn, _, assign, body, hy, ?_⟩
    obtain ⟨WA, hWA⟩ : ∃ WA, WA = w₁ s W := ⟨_, rfl⟩
    have hbA : Below W.heap.size W WA := by rw [hWA]; exact hw₁ s W
    have hlA := kb hbA hl
    have hkA := kb hbA hk
    have hltA : w.heap.size + 1 < WA.heap.size := (Array.getElem?_eq_some_iff.1 hlA).1
    obtain ⟨Wb, hWb⟩ : ∃ Wb, WA.putObj (w.heap.size + 1) (.loop { rc .ready none with state := .busy }) = Wb := ⟨_, rfl⟩
    have hkb : Keep (fun b => b = w.heap.size ∨ b = w.heap.size + 1) WA Wb := by rw [← hWb]; exact (Keep.refl _ _).putObj (.inr rfl) _
    have hl2 : Wb.heap[w.heap.size + 1]? = some (.loop { rc .ready none with state := .busy }) := by rw [← hWb]; exact World.putObj_heap_same hltA
    have hk2 : Wb.heap[w.heap.size]? = some (.deferred (some [])) := by rw [← hWb]; exact (World.putObj_heap_other (by omega)).trans hkA
    have hround : RoundIn Fence.wide n P (w.heap.size + 1) fn ((ps.zip (enc s)).foldl (fun t (p, v) => t.setIfInBounds p v) a.tmps) assign body W fun e W' =>
        (e = .returned (.bool true) ∧ (I (nx s) W' ∧ W'.heap[w.heap.size + 1]? = some (.loop (rc .ready none)) ∧ W'.heap[w.heap.size]? = some (.deferred (some [])))) ∨
        (e = .returned (.bool false) ∧ (∃ c, Ix c (nx s) W' ∧ W'.heap[w.heap.size + 1]? = some (.loop (rc .done (some c))) ∧ W'.heap[w.heap.size]? = some (.deferred (some [])))) := by
      refine roundIn_of_wpIn trivial (hassign _ s W _ ⟨Wb, by rw [← hWb, ← hWA]; exact run_beginRound hlA (by rw [hrc]), ?_⟩)
      have hsz : w.heap.size + 2 ≤ W.heap.size := by omega
      refine wpIn_mono (hbody _ s W Wb (hI _ _ _ (hI _ _ _ hi (Keep.new hbA)) hkb) hsz (by rw [← hWA]; exact hkb) hm) ?_
      have fin : ∀ (jump : Option Code) (W3 : World), RK w.heap.size Wb W3 →
          ∃ W4, (Instr.endRound (w.heap.size + 1) jump).run P W3 = .ok (.bool jump.isNone) W4 ∧ Keep (fun b => b = w.heap.size ∨ b = w.heap.size + 1) W3 W4 ∧
          W4.heap[w.heap.size + 1]? = some (.loop (rc (if jump.isNone then .ready else .done) jump)) ∧ W4.heap[w.heap.size]? = some (.deferred (some [])) := fun jump W3 hk3 => by
        have hl3 : W3.heap[w.heap.size + 1]? = some (.loop { rc .ready none with state := .busy }) := hk3.2.trans hl2
        have hd3 : W3.heap[w.heap.size]? = some (.deferred (some [])) := hk3.1.trans hk2
        have hr := run_endRound (P := P) jump hl3
        refine ⟨_, hr, (Keep.refl _ _).putObj (.inr rfl) _, ?_, (World.putObj_heap_other (by omega)).trans hd3⟩
        rw [World.putObj_heap_same (Array.getElem?_eq_some_iff.1 hl3).1, hrc]
      rintro e a3 W3 hp
      cases e with
      | normal =>
        obtain ⟨hk3, hi3⟩ := hp
        obtain ⟨W4, hr, hs4, hl4, hd4⟩ := fin none W3 hk3
        exact ⟨_, _, hr, .inl ⟨rfl, ⟨hI _ _ _ hi3 hs4, hl4, hd4⟩⟩⟩
      | ret =>
        obtain ⟨hk3, hi3⟩ := hp
        obtain ⟨W4, hr, hs4, hl4, hd4⟩ := fin (some .ret) W3 hk3
        exact ⟨_, _, hr, .inr ⟨rfl, ⟨.ret, hIx _ _ _ _ hi3 hs4, hl4, hd4⟩⟩⟩
      | exit id =>
        obtain ⟨hk3, hi3⟩ := hp
        obtain ⟨W4, hr, hs4, hl4, hd4⟩ := fin (some (.exit id)) W3 hk3
        exact ⟨_, _, hr, .inr ⟨rfl, ⟨.exit id, hIx _ _ _ _ hi3 hs4, hl4, hd4⟩⟩⟩
      | goto t =>
        obtain ⟨hk3, hi3⟩ := hp
        obtain ⟨W4, hr, hs4, hl4, hd4⟩ := fin (some (.goto t)) W3 hk3
        exact ⟨_, _, hr, .inr ⟨rfl, ⟨.goto t, hIx _ _ _ _ hi3 hs4, hl4, hd4⟩⟩⟩
      | panic ch => exact hp.elim
      | outgrown => exact hp.elim
    exact ⟨hround.1, fun c cs _ => hround.2 c cs (room_wide _)⟩
  · rintro e W2 ⟨⟨v, rfl⟩, (⟨s, hf, hi, hl, hk⟩ | ⟨s, c, hi, hl, hk⟩)⟩
    · exact ⟨none, _, by have := run_endLoop (P := P) hl (by rw [hrc]; simp); rw [hrc] at this; exact this,
        hdone _ _ hf (hI _ _ _ hi ((Keep.refl _ _).putObj (.inr rfl) _)) ((World.putObj_heap_other (by omega)).trans hk)⟩
    · exact ⟨some c, _, by have := run_endLoop (P := P) hl (by rw [hrc]; simp); rw [hrc] at this; exact this,
        hstop c s _ (hIx _ _ _ _ hi ((Keep.refl _ _).putObj (.inr rfl) _)) ((World.putObj_heap_other (by omega)).trans hk)⟩
end Go.Proofs.YtphclnolomgjoaaGreatDoor
namespace Go.Proofs.YtphclnolomgjoaaGreatDoor
open Go.RowKit Go.Shelf
attribute [local go_sem] Oper.semAt_some
set_option maxRecDepth 100000 in
set_option maxHeartbeats 1000000 in
theorem all33 (bt : Nat) (W : World) : Calls Tryz.prog 33 #[.pointer (some ⟨bt, 0, none⟩)] W fun e w' => e = .returned (.func (.func 60) #[] #[.pointer (some ⟨W.heap.size, 0, none⟩)]) ∧ w' = W.alloc (.cells #[.pointer (some ⟨bt, 0, none⟩)] 45) := by
  have hmf : ∀ (fn : Fn) (first cap : Array Value) (w : World), (Instr.makeFunc fn first cap).run Tryz.prog w = .ok (.func fn first cap) w := fun _ _ _ _ => rfl
  go_enter Tryz.func33, Tryz.ntmps33
  go_wp2
  go_ret
  exact ⟨rfl, rfl⟩
section
variable {z0 z bw bt br : Nat} {ops : Array Value} {most : Nat} {kv : Value} {A B : World} {j : Nat}
end
theorem RK.keep {r : Nat} {W A B : World} (h : RK r W A) {T : Nat → Prop} (hk : Keep T A B) (hl : r + 1 < A.heap.size) (h1 : ¬ T r) (h2 : ¬ T (r + 1)) : RK r W B :=
  ⟨(hk.block r (by omega) h1).trans h.1, (hk.block (r + 1) hl h2).trans h.2⟩
end Go.Proofs.YtphclnolomgjoaaGreatDoor
namespace Go.Proofs.YtphclnolomgjoaaGreatDoor
open Go.RowKit
theorem zip_same {α β : Type} {f : α → Value → List Value} {g : β → Value → List Value} {h : α → β} : ∀ (l : List α) (us : List Value), (∀ x ∈ l, ∀ u, f x u = g (h x) u) → List.zipWith f l us = List.zipWith g (l.map h) us
  | [], us, _ => by simp
  | a :: l, [], _ => by simp
  | a :: l, u :: us, hh => by
    simp only [List.zipWith_cons_cons, List.map_cons]
    rw [hh a List.mem_cons_self u, zip_same l us (fun x hx => hh x (List.mem_cons_of_mem _ hx))]
def KS.tolC (k : KS) (xs : List Ent) (us : List Value) : List Value := (List.zipWith (fun x u => (k.told x u).toList) xs us).flatten
section
variable {P : Nat → Prop} {W w' : World} {bt : Nat} {k : KS}
theorem k_all (h : KT P W bt k) : ∃ xs : List Ent, xs.Perm k.L ∧ (xs.Pairwise fun a b => aheadK a.key b.key = true) ∧ ∀ Wx, Below W.heap.size W Wx → Calls Tryz.prog 61 #[.pointer (some ⟨bt, 0, none⟩)] Wx fun e w' => ∃ (v : Value) (us : List Value), e = .returned v ∧ us.length = xs.length ∧ w'.ownsRow 0 37 9 v xs.length (k.tolC xs us) ∧ (∀ (i : Nat) (x : Ent) (u : Value), xs[i]? = some x → us[i]? = some u → ∃ a c, u = .slice a (k.waits x).length c) ∧ Below Wx.heap.size Wx w' ∧ (∀ b, v.ownBlock = some b → Wx.heap.size ≤ b) := by
  obtain ⟨τ, nodes, vw, va, ws, as_, h1, h2, h3, C⟩ := h
  obtain ⟨r, hr0, hb⟩ := h2.bk
  have TT := h2.pr.tree
  obtain ⟨hrm, hrk⟩ := qbp TT hr0
  obtain ⟨ch, K0⟩ := TT.ch
  have hpm := qgq TT K0 hrm hrk
  refine ⟨(dfs ch 4 r).map Node.ent, ?_, ?_, fun Wx hx => ?_⟩
  · rw [← h3]; exact hpm.map _
  · rw [List.pairwise_map]; exact dfs_sorted TT K0 4 r hrm (by omega)
  · refine (tellAll_prog TT h2.pr.qdk K0 (hb.below hx) hrm hrk).mono ?_
    rintro e w' ⟨v, us, rfl, g1, g2, g3, g4⟩
    have hc : tCells nodes as_ (dfs ch 4 r) us = k.tolC ((dfs ch 4 r).map Node.ent) us := by
      unfold tCells KS.tolC
      rw [zip_same (g := fun x u => (k.told x u).toList) (h := Node.ent)]
      intro n hn u
      unfold qCs
      rw [C.rel.told TT C.inv.wks.wks (hpm.mem_iff.1 hn) u, h3]
      rfl
    refine ⟨v, us, rfl, by rw [g2.1, List.length_map], by rw [List.length_map, ← hc]; exact g1, fun i x u hx hu => ?_, g3, g4⟩
    rw [List.getElem?_map] at hx
    obtain ⟨n, hn, rfl⟩ := Option.map_eq_some_iff.1 hx
    obtain ⟨q1, q2⟩ := g2.2.1 i n u hn hu
    obtain ⟨e1, e2⟩ := C.rel.qwo TT h2.pr.qdk (hpm.mem_iff.1 (List.mem_of_getElem? hn))
    obtain ⟨a, c, rfl, _, _⟩ := qa7 q1
    exact ⟨a, c, by unfold KS.waits; rw [e2]; rfl⟩
end
theorem below_behind {a b : List Bs} (ha : qbx a = true) (hb : qbx b = true) (h : inB (qaa a) (qaa b) = true) : a = b ∨ aheadK b a = true := by
  rw [qe1 ha hb] at h
  obtain ⟨r, rfl⟩ := h
  cases r with
  | nil => left; simp
  | cons x r =>
    right
    have := aheadK_pre b [] (x :: r)
    rw [List.append_nil] at this
    rw [this]
    rfl
end Go.Proofs.YtphclnolomgjoaaGreatDoor
