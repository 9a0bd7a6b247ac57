import Derived.Test.YtphclnolomgjoaaGreatDoorZ01
import Derived.Test.YtphclnolomgjoaaGreatDoorZ07
import Derived.Test.YtphclnolomgjoaaGreatDoorB37
import Derived.BigQuiet
set_option linter.unusedVariables false
set_option linter.unusedSimpArgs false
namespace Go.Proofs.YtphclnolomgjoaaGreatDoor
open Go.RowKit
theorem flat9K : ∀ (l : List (List Value)) (i k : Nat) (x : List Value), (∀ y ∈ l, y.length = 9) → l[i]? = some x → k < 9 → l.flatten[i * 9 + k]? = x[k]?
  | [], i, k, x, _, h, _ => by simp at h
  | a :: l, 0, k, x, hl, h, hk => by
    simp at h; subst h
    rw [List.flatten_cons, List.getElem?_append_left (by rw [hl a List.mem_cons_self]; omega)]
    simp
  | a :: l, i + 1, k, x, hl, h, hk => by
    have ih := flat9K l i k x (fun y hy => hl y (List.mem_cons_of_mem _ hy)) (by simpa using h) hk
    rw [List.flatten_cons, List.getElem?_append_right (by rw [hl a List.mem_cons_self]; omega), hl a List.mem_cons_self]
    rw [show (i + 1) * 9 + k - 9 = i * 9 + k by omega]
    exact ih
theorem pick_funK {α : Type} (d : α) {N : Nat} {P : Nat → α → Prop} (h : ∀ i, i < N → ∃ q, P i q) : ∃ f : Nat → α, ∀ i, i < N → P i (f i) := by
  classical
  refine ⟨fun i => if hi : i < N then Classical.choose (h i hi) else d, fun i hi => ?_⟩
  simp only [hi, dif_pos]
  exact Classical.choose_spec (h i hi)
def GTol (R : KR) (xs : List Ent) (lo : Nat) (s : IS) (A : World) : Prop := ∃ cs : List Value, A.ownsRow 0 37 9 (.slice s.a 9 s.c) 9 cs ∧ (∀ b, (Value.slice s.a 9 s.c).ownBlock = some b → lo ≤ b) ∧ ∀ i, i < 9 → ∃ x, xs[i]? = some x ∧ (s.q i).vals = R.k.told x (.slice (s.q i).a (s.q i).m (s.q i).c) ∧ (s.q i).m = (R.k.waits x).length ∧ ∀ (j : Nat) (u : Value), (s.q i).vals[j]? = some u → cs[i * 9 + j]? = some u
section
variable {F : Nat → Prop} {W : World} {rb : Nat} {R : KR} {bt n : Nat}
theorem gone_tell (h : RunB bt F W rb R) (I : RunI n R) : ∃ xs : List Ent, xs.length = 9 ∧ xs.Perm R.k.L ∧ (xs.Pairwise fun a b => aheadK a.key b.key = true) ∧ ∀ Wx, Below W.heap.size W Wx → Calls Tryz.prog 61 #[.pointer (some ⟨bt, 0, none⟩)] Wx fun e w' => ∃ a c q, e = .returned (.slice a 9 c) ∧ 9 ≤ c ∧ c ≤ maxLen ∧ GTol R xs Wx.heap.size ⟨a, c, q, 0⟩ w' ∧ Below Wx.heap.size Wx w' := by
  obtain ⟨P, vp, vw, vl, hM⟩ := h
  obtain ⟨xs, hp, hs, hc⟩ := k_all hM.tw
  have h9 : xs.length = 9 := by
    have h1 := hp.length_eq
    have h2 := I.keys.length_eq
    rw [List.length_map, List.length_cons, I.len] at h2
    omega
  refine ⟨xs, h9, hp, hs, fun Wx hb => ?_⟩
  refine (hc Wx hb).mono ?_
  rintro e w' ⟨v, us, rfl, hul, hrow, hus, hbl, hown⟩
  rw [h9] at hrow hul
  obtain ⟨a, c, rfl, hc1, hc2⟩ := qa7 hrow
  have hq : ∀ i, i < 9 → ∃ q : QC, ∃ x, xs[i]? = some x ∧ q.vals = R.k.told x (.slice q.a q.m q.c) ∧ q.m = (R.k.waits x).length ∧ ∀ (j : Nat) (u : Value), q.vals[j]? = some u → (R.k.tolC xs us)[i * 9 + j]? = some u := fun i hi => by
    obtain ⟨x, hx⟩ : ∃ x, xs[i]? = some x := ⟨_, List.getElem?_eq_getElem (by omega)⟩
    obtain ⟨u, hu⟩ : ∃ u, us[i]? = some u := ⟨_, List.getElem?_eq_getElem (by omega)⟩
    obtain ⟨a', c', rfl⟩ := hus i x u hx hu
    obtain ⟨q, hqd⟩ : ∃ q : QC, q = ⟨sb (qaa x.key), x.leaf, es0 (qai R.k.L (qaa x.key)), es1 (qai R.k.L (qaa x.key)), x.b0, x.b1, ws0 (qae R.k.Ws (qaa x.key)), ws1 (qae R.k.Ws (qaa x.key)), a', (R.k.waits x).length, c'⟩ := ⟨_, rfl⟩
    have hv : q.vals = R.k.told x (.slice a' (R.k.waits x).length c') := by rw [hqd]; rfl
    refine ⟨q, x, hx, by rw [hv, hqd], by rw [hqd], fun j w hj => ?_⟩
    rw [hv, ← Array.getElem?_toList] at hj
    have hj9 : j < 9 := (List.getElem?_eq_some_iff.1 hj).1
    unfold KS.tolC
    rw [flat9K _ i j (R.k.told x (.slice a' (R.k.waits x).length c')).toList (fun y hy => ?_) (by rw [List.getElem?_zipWith, hx, hu]) hj9, hj]
    obtain ⟨k, hk, rfl⟩ := List.getElem_of_mem hy
    rw [List.getElem_zipWith]
    rfl
  obtain ⟨q, hq⟩ := pick_funK ⟨⟨#[]⟩, false, 0, 0, 0, 0, 0, 0, none, 0, 0⟩ hq
  exact ⟨a, c, q, rfl, hc1, hc2, ⟨_, hrow, hown, hq⟩, hbl⟩
end
end Go.Proofs.YtphclnolomgjoaaGreatDoor
namespace Go.Proofs.YtphclnolomgjoaaGreatDoor
open Go.RowKit
section
variable {F : Nat → Prop} {W w' : World} {rb : Nat} {R : KR} {n : Nat} {nodes : List Node}
theorem qiw (K : KInv nodes R.k) {e : Ent} (he : e ∈ R.k.L) : qeq R.k.L e.key = some e := by
  rw [← K.L] at he ⊢
  obtain ⟨m, hm, rfl⟩ := List.mem_map.1 he
  rw [qb4, qb0 K.tree hm (k := m.ent.key) rfl]
  rfl
end
end Go.Proofs.YtphclnolomgjoaaGreatDoor
namespace Go.Proofs.YtphclnolomgjoaaGreatDoor
open Go.RowKit
section
variable {F G : Nat → Prop} {W w' : World} {rb : Nat} {R : KR} {P : Nat → Prop} {bt : Nat} {vp vw vl : Value}
theorem RunM.fo' (h : RunM F W rb R P bt vp vw vl) {T : Nat → Prop} (hk : Keep T W w') (hT : ∀ b, T b → F b) (hG : ∀ b, G b → F b ∨ W.heap.size ≤ b) (hG2 : ∀ b, G b → b < w'.heap.size) : RunM G w' rb R P bt vp vw vl := by
  have h2 := h.keep hk (fun b hb e => h.lo b hb (hT b e))
  have hlt : ∀ b, (P b ∨ b = rb ∨ vp.ownBlock = some b ∨ vw.ownBlock = some b ∨ vl.ownBlock = some b) → b < W.heap.size := fun b hb => by
    rcases hb with hb | rfl | hb | hb | hb
    · exact h.tw.lt b hb
    · exact h.at_.lt
    · exact qap h.prow hb
    · exact qap h.wrow hb
    · exact qap h.lrow hb
  refine ⟨h2.tw, h2.at_, h2.prow, h2.wrow, h2.lrow, h2.nP, fun b hb e => ?_, hG2, h2.ne, h2.pw, h2.wl⟩
  rcases hG b e with e | e
  · exact h.lo b hb e
  · have := hlt b hb; omega
end
section
variable {N : Nat} {W w' : World} {rb : Nat} {R : KR} {bt : Nat} {vp vw vl v : Value} {ev : List Int}
end
end Go.Proofs.YtphclnolomgjoaaGreatDoor
namespace Go.Proofs.YtphclnolomgjoaaGreatDoor
open Go.RowKit
theorem un46K : Tryz.prog.underlying 46 = some (.slice 9) := by kernel_rfl
theorem i9aK : (Tryz.prog.info? 9).map (fun i => (i.size, i.bytes)) = some (1, 16) := by kernel_rfl
theorem i9bK : (Tryz.prog.info? 9).bind (fun i => i.zero) = some (.string ⟨#[]⟩) := by kernel_rfl
theorem inf9K : qfa 9 1 16 := qge i9aK i9bK rfl
def seenC (xs : List Ent) (j : Nat) : List Value := (xs.take j).map fun x => .string (sb (qaa x.key))
theorem seenC_succ {xs : List Ent} {j : Nat} {x : Ent} (h : xs[j]? = some x) : seenC xs (j + 1) = seenC xs j ++ [.string (sb (qaa x.key))] := by
  have hlt := (List.getElem?_eq_some_iff.1 h).1
  unfold seenC
  rw [List.take_succ_eq_append_getElem hlt, (List.getElem?_eq_some_iff.1 h).2]
  simp
theorem seenC_get {xs : List Ent} {j i : Nat} {x : Ent} (h : xs[i]? = some x) (hi : i < j) : (seenC xs j)[i]? = some (.string (sb (qaa x.key))) := by
  unfold seenC
  rw [List.getElem?_map, List.getElem?_take, if_pos hi, h]
  rfl
structure GnI (Wp : World) (z14 kk : Nat) (R : KR) (xs : List Ent) (s : IS) (A : World) : Prop where
  keep : Keep (fun b => b = z14) Wp A
  tol : GTol R xs (Wp.heap.size + 2) s A
  j9 : s.j ≤ 9
  jk : s.j ≤ kk
  seen : ∃ v, Blk A z14 46 #[v] ∧ A.ownsRow 0 9 1 v s.j (seenC xs s.j) ∧ (∀ b, v.ownBlock = some b → Wp.heap.size + 2 ≤ b ∧ (Value.slice s.a 9 s.c).ownBlock ≠ some b)
section
variable {Wp A B : World} {z14 kk : Nat} {R : KR} {xs : List Ent} {s : IS}
theorem GnI.recs (h : GnI Wp z14 kk R xs s A) (hz : z14 < Wp.heap.size) (hk : Keep (fun b => b = Wp.heap.size ∨ b = Wp.heap.size + 1) A B) : GnI Wp z14 kk R xs s B := by
  obtain ⟨cs, h1, h2, h3⟩ := h.tol
  obtain ⟨v, g1, g2, g3⟩ := h.seen
  refine ⟨?_, ⟨cs, qaf h1 hk (fun b hb e => by have := h2 b hb; omega), h2, h3⟩, h.j9, h.jk, v, g1.keep hk (by omega), qaf g2 hk (fun b hb e => by have := (g3 b hb).1; omega), g3⟩
  exact ⟨hk.os.trans h.keep.os, hk.tape.trans h.keep.tape, hk.output.trans h.keep.output, Nat.le_trans h.keep.size hk.size, fun b hb hn => (hk.block b (by have := h.keep.size; omega) (by omega)).trans (h.keep.block b hb hn)⟩
theorem GnI.below (h : GnI Wp z14 kk R xs s A) (hz : z14 < Wp.heap.size) (hb : Below A.heap.size A B) : GnI Wp z14 kk R xs s B := by
  obtain ⟨cs, h1, h2, h3⟩ := h.tol
  obtain ⟨v, g1, g2, g3⟩ := h.seen
  exact ⟨h.keep.trans (Keep.new hb), ⟨cs, qfq h1 hb, h2, h3⟩, h.j9, h.jk, v, g1.below hb g1.lt, qfq g2 hb, g3⟩
theorem GnI.cells (h : GnI Wp z14 kk R xs s A) (hj : s.j < 9) : ∃ g, s.a = some ⟨g, 0, none⟩ ∧ g < A.heap.size ∧ ∀ i u, (s.q s.j).vals[i]? = some u → A.cell? ⟨g, s.j * 9 + i, none⟩ = some u := by
  obtain ⟨cs, h1, h2, h3⟩ := h.tol
  obtain ⟨g, c, e, _, _⟩ := qa9 h1 (by omega)
  injection e with e1
  obtain ⟨x, _, _, _, h4⟩ := h3 s.j hj
  rw [e1] at h1
  refine ⟨g, e1, qap h1 rfl, fun i u hu => ?_⟩
  have := h1.cells (g := g) rfl (s.j * 9 + i) u (h4 i u hu)
  rw [Addr.add_lit, Nat.zero_add] at this
  exact this
theorem GnI.app (h : GnI Wp z14 kk R xs s A) (hz : z14 < Wp.heap.size) (h9 : xs.length = 9) (hj : s.j < 9) (hjk : s.j < kk) {x : Ent} (hx : xs[s.j]? = some x) {v : Value} (g1 : Blk A z14 46 #[v]) (g2 : A.ownsRow 0 9 1 v s.j (seenC xs s.j)) (g3 : ∀ b, v.ownBlock = some b → Wp.heap.size + 2 ≤ b ∧ (Value.slice s.a 9 s.c).ownBlock ≠ some b) (nb : Nat) (hnb : Blk A nb 9 #[.string (sb (qaa x.key))]) :
    ∃ v' w', (∀ ty, (Builtin.append_ #[46, 46] ty #[v, .slice (some ⟨nb, 0, none⟩) 1 1]).run Tryz.prog A = .ok v' w') ∧ Blk w' z14 46 #[v] ∧ Hid (GnI Wp z14 kk R xs s.next (w'.setCell ⟨z14, 0, none⟩ v')) ∧ Keep (fun b => b = z14 ∨ Wp.heap.size + 2 ≤ b) A (w'.setCell ⟨z14, 0, none⟩ v') := by
  obtain ⟨v', w', hr, g', cap', rfl, P⟩ := qey un46K inf9K (by omega) A v s.j (seenC xs s.j) g2 nb 1 1 (by omega) [.string (sb (qaa x.key))] rfl hnb (fun u hu => by simp at hu; subst hu; rfl) (by unfold maxLen; omega) (by omega)
  have hzs := h.keep.size
  have hnz : ¬ (v.ownBlock = some z14) := fun e => by have := (g3 z14 e).1; omega
  have k1 : Keep (fun b => b = z14 ∨ v.ownBlock = some b) A (w'.setCell ⟨z14, 0, none⟩ (.slice (some ⟨g', 0, none⟩) (s.j + 1) cap')) := (P.keep.mono (fun b e => .inr e)).setCell (p := ⟨z14, 0, none⟩) (.inl rfl) _
  have b1 := g1.keep P.keep hnz
  obtain ⟨cs, t1, t2, t3⟩ := h.tol
  have hge : A.heap.size ≤ g' ∨ v.ownBlock = some g' := P.new.symm
  have hg2 : Wp.heap.size + 2 ≤ A.heap.size := by
    obtain ⟨g, c, e, _, _⟩ := qa9 t1 (by omega)
    injection e with e1
    rw [e1] at t1 t2
    have h1 := t2 g rfl
    have h2 : g < A.heap.size := qap t1 rfl
    omega
  have hgl : Wp.heap.size + 2 ≤ g' := by
    rcases hge with e | e
    · omega
    · exact (g3 g' e).1
  have hgn : (Value.slice s.a 9 s.c).ownBlock ≠ some g' := by
    rcases hge with e | e
    · intro e2
      have := qap t1 e2
      omega
    · exact (g3 g' e).2
  refine ⟨_, w', hr, b1, ⟨?_, ?_, by show s.j + 1 ≤ 9; omega, by show s.j + 1 ≤ kk; omega, .slice (some ⟨g', 0, none⟩) (s.j + 1) cap', ?_, ?_, fun b hb => ?_⟩, k1.mono (fun b h => h.imp id (fun h => (g3 b h).1))⟩
  · exact ⟨k1.os.trans h.keep.os, k1.tape.trans h.keep.tape, k1.output.trans h.keep.output, Nat.le_trans h.keep.size k1.size, fun b hb hn => (k1.block b (by omega) (fun e => by rcases e with e | e; exact hn e; have := (g3 b e).1; omega)).trans (h.keep.block b hb hn)⟩
  · exact ⟨cs, qaf t1 k1 (fun b hb e => by rcases e with rfl | e; have := t2 _ hb; omega; exact (g3 b e).2 hb), t2, t3⟩
  · have := b1.set 0 (.slice (some ⟨g', 0, none⟩) (s.j + 1) cap')
    simpa using this
  · show (w'.setCell ⟨z14, 0, none⟩ (.slice (some ⟨g', 0, none⟩) (s.j + 1) cap')).ownsRow 0 9 1 (.slice (some ⟨g', 0, none⟩) (s.j + 1) cap') (s.j + 1) (seenC xs (s.j + 1))
    rw [seenC_succ hx]
    exact ownsRow_setCell_other P.own (fun e => by simp [Value.ownBlock] at e; omega) _
  · simp [Value.ownBlock] at hb
    subst hb
    exact ⟨hgl, hgn⟩
end
theorem seen_not {xs : List Ent} (hs : xs.Pairwise fun a b => aheadK a.key b.key = true) (hk : ∀ x ∈ xs, qbx x.key = true) {i j : Nat} (hij : i < j) {x y : Ent} (hx : xs[i]? = some x) (hy : xs[j]? = some y) : inB (qaa x.key) (qaa y.key) = false := by
  cases hb : inB (qaa x.key) (qaa y.key)
  · rfl
  · exfalso
    obtain ⟨h1, e1⟩ := List.getElem?_eq_some_iff.1 hx
    obtain ⟨h2, e2⟩ := List.getElem?_eq_some_iff.1 hy
    have ha := (List.pairwise_iff_getElem.1 hs) i j h1 h2 hij
    rw [e1, e2] at ha
    rcases below_behind (hk x (List.mem_of_getElem? hx)) (hk y (List.mem_of_getElem? hy)) hb with e | e
    · rw [e] at ha
      have := aheadK_asymm _ _ ha
      rw [ha] at this
      cases this
    · have := aheadK_asymm _ _ ha
      rw [e] at this
      cases this
end Go.Proofs.YtphclnolomgjoaaGreatDoor
