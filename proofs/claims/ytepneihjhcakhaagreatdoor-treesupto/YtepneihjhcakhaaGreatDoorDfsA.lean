import Derived.Test.YtepneihjhcakhaaGreatDoorEachB
set_option linter.unusedVariables false
set_option linter.unusedSimpArgs false
namespace Go.Proofs.YtepneihjhcakhaaGreatDoor
open Go.RowKit

theorem perm_of_nodup {α : Type} : ∀ {l l' : List α}, l.Nodup → l'.Nodup → (∀ x, x ∈ l ↔ x ∈ l') → l.Perm l' := by
  intro l
  induction l with
  | nil =>
    intro l' _ _ h
    have : l' = [] := List.eq_nil_iff_forall_not_mem.2 (fun x hx => by simpa using (h x).2 hx)
    subst this; exact List.Perm.refl _
  | cons a l ih =>
    intro l' h1 h2 h
    obtain ⟨h3, h4⟩ := List.nodup_cons.1 h1
    obtain ⟨s, t, rfl⟩ := List.append_of_mem ((h a).1 (by simp))
    have hp : (s ++ a :: t).Perm (a :: (s ++ t)) := List.perm_middle
    have h5 := hp.nodup_iff.1 h2
    obtain ⟨h6, h7⟩ := List.nodup_cons.1 h5
    refine List.Perm.trans (List.Perm.cons a (ih h4 h7 (fun x => ?_))) hp.symm
    constructor
    · intro hx
      have := (h x).1 (by simp [hx])
      simp only [List.mem_append, List.mem_cons] at this ⊢
      rcases this with h8 | rfl | h8
      · exact .inl h8
      · exact absurd hx h3
      · exact .inr h8
    · intro hx
      have := (h x).2 (by simp only [List.mem_append, List.mem_cons] at hx ⊢; rcases hx with h8 | h8; exact .inl h8; exact .inr (.inr h8))
      rcases List.mem_cons.1 this with rfl | h8
      · exact absurd hx h6
      · exact h8

theorem dfs_iff {nodes : List Node} (T : Tree nodes) {ch : Node → List Node} (K : Kids nodes ch) : ∀ (f : Nat) (n : Node), n ∈ nodes → 4 ≤ n.key.length + f → ∀ m, m ∈ dfs ch f n ↔ (m ∈ nodes ∧ n.key <+: m.key) := by
  intro f
  induction f with
  | zero =>
    intro n hn hk m
    simp only [dfs, List.mem_singleton]
    constructor
    · rintro rfl; exact ⟨hn, List.prefix_refl _⟩
    · rintro ⟨hm, hp⟩
      have h1 := (T.ok m hm).2
      have h2 := hp.length_le
      exact T.inj m hm n hn (hp.eq_of_length (by omega)).symm
  | succ f ih =>
    intro n hn hk m
    simp only [dfs, List.mem_cons, List.mem_flatMap]
    constructor
    · rintro (rfl | ⟨c, hc, hm⟩)
      · exact ⟨hn, List.prefix_refl _⟩
      · obtain ⟨hcn, x, hx⟩ := (K.mem n hn c).1 hc
        obtain ⟨hm1, hm2⟩ := (ih c hcn (by rw [hx]; simp; omega) m).1 hm
        exact ⟨hm1, List.IsPrefix.trans ⟨[x], hx.symm⟩ hm2⟩
    · rintro ⟨hm, r, hr⟩
      cases r with
      | nil => exact .inl (T.inj m hm n hn (by simpa using hr.symm))
      | cons x r =>
        right
        obtain ⟨c, hc, hck⟩ := T.pre r (n.key ++ [x]) m hm (by rw [← hr]; simp)
        exact ⟨c, (K.mem n hn c).2 ⟨hc, x, hck⟩, (ih c hc (by rw [hck]; simp; omega) m).2 ⟨hm, r, by rw [hck, ← hr]; simp⟩⟩

theorem dfs_nodup {nodes : List Node} (T : Tree nodes) {ch : Node → List Node} (K : Kids nodes ch) : ∀ (f : Nat) (n : Node), n ∈ nodes → 4 ≤ n.key.length + f → (dfs ch f n).Nodup := by
  intro f
  induction f with
  | zero => intro n hn hk; simp [dfs]
  | succ f ih =>
    intro n hn hk
    have hch : ∀ c ∈ ch n, c ∈ nodes ∧ ∃ x, c.key = n.key ++ [x] := fun c hc => (K.mem n hn c).1 hc
    simp only [dfs]
    refine List.nodup_cons.2 ⟨?_, ?_⟩
    · intro h
      obtain ⟨c, hc, hm⟩ := List.mem_flatMap.1 h
      obtain ⟨hcn, x, hx⟩ := hch c hc
      obtain ⟨_, hp⟩ := (dfs_iff T K f c hcn (by rw [hx]; simp; omega) n).1 hm
      have := hp.length_le
      rw [hx] at this; simp at this; omega
    · have hs := K.sort n hn
      rw [List.pairwise_map] at hs
      have hcs : ∀ c ∈ ch n, c ∈ nodes ∧ 4 ≤ c.key.length + f ∧ ∃ x, c.key = n.key ++ [x] := fun c hc => by
        obtain ⟨h1, x, hx⟩ := hch c hc
        exact ⟨h1, by rw [hx]; simp; omega, x, hx⟩
      generalize ch n = cs at hs hcs
      induction cs with
      | nil => simp
      | cons c cs ih2 =>
        obtain ⟨h1, h2⟩ := List.pairwise_cons.1 hs
        obtain ⟨hcn, hc4, x, hx⟩ := hcs c (by simp)
        rw [List.flatMap_cons]
        refine List.nodup_append.2 ⟨ih c hcn hc4, ih2 h2 (fun k hk' => hcs k (by simp [hk'])), ?_⟩
        intro a ha b hb e
        subst e
        obtain ⟨c', hc', hm'⟩ := List.mem_flatMap.1 hb
        obtain ⟨hcn', hc4', y, hy⟩ := hcs c' (by simp [hc'])
        have p1 := ((dfs_iff T K f c hcn hc4 a).1 ha).2
        have p2 := ((dfs_iff T K f c' hcn' hc4' a).1 hm').2
        have hl : c.key.length = c'.key.length := by rw [hx, hy]; simp
        have : c.key = c'.key := by
          obtain ⟨r1, e1⟩ := p1; obtain ⟨r2, e2⟩ := p2
          exact (List.append_inj (e1.trans e2.symm) hl).1
        have h3 := h1 c' hc'
        rw [this, show cmpB (lastN c'.key) (lastN c'.key) = 0 from cmp_self _] at h3
        omega

theorem dfs_perm {nodes : List Node} (T : Tree nodes) {ch : Node → List Node} (K : Kids nodes ch) (hnd : nodes.Nodup) {n : Node} (hn : n ∈ nodes) :
    (dfs ch 4 n).Perm (nodes.filter fun m => n.key.isPrefixOf m.key) := by
  refine perm_of_nodup (dfs_nodup T K 4 n hn (by omega)) (hnd.filter _) (fun x => ?_)
  rw [dfs_iff T K 4 n hn (by omega), List.mem_filter, List.isPrefixOf_iff_prefix]

theorem Tree.nd {nodes : List Node} (T : Tree nodes) : nodes.Nodup := nodup_of_map T.nodup

theorem dfs_root {nodes : List Node} (T : Tree nodes) {ch : Node → List Node} (K : Kids nodes ch) {r : Node} (hr : r ∈ nodes) (hk : r.key = []) : (dfs ch 4 r).length = nodes.length := by
  have := (dfs_perm T K T.nd hr).length_eq
  rw [this, hk]; simp
theorem dfs_le {nodes : List Node} (T : Tree nodes) {ch : Node → List Node} (K : Kids nodes ch) {n : Node} (hn : n ∈ nodes) : (dfs ch 4 n).length ≤ 20 := by
  have := (dfs_perm T K T.nd hn).length_eq
  rw [this]; exact Nat.le_trans (List.length_filter_le _ _) T.len

/-- The sum of what lies at or below a key. -/
def under (nodes : List Node) (k : List Bs) : List Node := nodes.filter fun m => k.isPrefixOf m.key
theorem perm_sum {l l' : List Int} (h : l.Perm l') : l.sum = l'.sum := by
  induction h with
  | nil => rfl
  | cons x _ ih => simp [ih]
  | swap x y l => simp; omega
  | trans _ _ h1 h2 => exact h1.trans h2
theorem sum0_dfs {nodes : List Node} (T : Tree nodes) {ch : Node → List Node} (K : Kids nodes ch) {n : Node} (hn : n ∈ nodes) : sum0 (dfs ch 4 n) = sum0 (under nodes n.key) := perm_sum ((dfs_perm T K T.nd hn).map _)
theorem sum1_dfs {nodes : List Node} (T : Tree nodes) {ch : Node → List Node} (K : Kids nodes ch) {n : Node} (hn : n ∈ nodes) : sum1 (dfs ch 4 n) = sum1 (under nodes n.key) := perm_sum ((dfs_perm T K T.nd hn).map _)
end Go.Proofs.YtepneihjhcakhaaGreatDoor
