import Derived.Test.YtepneihjhcakhaaGreatDoorTreeA
set_option linter.unusedVariables false
set_option linter.unusedSimpArgs false
namespace Go.Proofs.YtepneihjhcakhaaGreatDoor
open Go.RowKit

theorem nodup_of_map {α β : Type} {f : α → β} {l : List α} (h : (l.map f).Nodup) : l.Nodup := by
  unfold List.Nodup at *
  rw [List.pairwise_map] at h
  exact h.imp (fun hn e => hn (by rw [e]))
theorem nodup_len {α : Type} [DecidableEq α] : ∀ {l l' : List α}, l.Nodup → (∀ x ∈ l, x ∈ l') → l.length ≤ l'.length
  | [], _, _, _ => Nat.zero_le _
  | a :: l, l', h, hs => by
    have ha := hs a (by simp)
    obtain ⟨h1, h2⟩ := List.nodup_cons.1 h
    have h3 := nodup_len (l := l) (l' := l'.erase a) h2 (fun x hx => (List.mem_erase_of_ne (fun e => h1 (by rw [← e]; exact hx))).2 (hs x (by simp [hx])))
    rw [List.length_erase_of_mem ha] at h3
    have := List.length_pos_of_mem ha
    simp; omega

/-- A queue of the program: its block, where it hangs, what it has; its list of queues below, as a value, and their blocks. -/
structure Node where
  blk : Nat
  key : List Bs
  leaf : Bool
  n0 : Int
  n1 : Int
  b0 : Int
  b1 : Int
  up : Option Nat
  sl : Value
  kids : List Nat

def nptr (b : Nat) : Value := .pointer (some ⟨b, 0, none⟩)
def uptr (b : Option Nat) : Value := .pointer (b.map fun x => ⟨x, 0, none⟩)
def lastN (k : List Bs) : Bs := k.getLastD []
theorem lastN_snoc (k : List Bs) (n : Bs) : lastN (k ++ [n]) = n := by simp [lastN]

def Node.cells (n : Node) : Array Value := #[.string (sb (lastN n.key)), .bool n.leaf, .int .i64 n.n0, .int .i64 n.n1, .int .i64 n.b0, .int .i64 n.b1, uptr n.up, n.sl]

/-- The memory holds the queue. -/
structure NodeIn (W : World) (n : Node) : Prop where
  at_ : W.heap[n.blk]? = some (.cells n.cells 104 (0, 0))
  row : W.ownsRow 0 60 1 n.sl n.kids.length (n.kids.map nptr)

/-- The queues hang together. -/
structure Tree (nodes : List Node) : Prop where
  root : ∃ r, nodes[0]? = some r ∧ r.key = [] ∧ r.leaf = false ∧ r.b0 = 0 ∧ r.b1 = 0
  inj : ∀ n ∈ nodes, ∀ m ∈ nodes, n.key = m.key → n = m
  nodup : (nodes.map (·.key)).Nodup
  ok : ∀ n ∈ nodes, keyOK n.key = true ∧ n.key.length ≤ 4
  num : ∀ n ∈ nodes, (0 ≤ n.n0 ∧ n.n0 ≤ 1000) ∧ (0 ≤ n.n1 ∧ n.n1 ≤ 1000) ∧ (0 ≤ n.b0 ∧ n.b0 ≤ 1000) ∧ (0 ≤ n.b1 ∧ n.b1 ≤ 1000) ∧ (n.leaf = false → n.n0 = 0 ∧ n.n1 = 0)
  top : ∀ n ∈ nodes, n.key = [] → n.up = none
  par : ∀ n ∈ nodes, ∀ k x, n.key = k ++ [x] → ∃ p ∈ nodes, p.key = k ∧ p.leaf = false ∧ n.up = some p.blk
  kids : ∀ p ∈ nodes, ∃ ks : List Node, p.kids = ks.map (·.blk) ∧ (∀ k, k ∈ ks ↔ (k ∈ nodes ∧ ∃ x, k.key = p.key ++ [x])) ∧ (ks.map fun k => lastN k.key).Pairwise fun a b => cmpB a b < 0
  len : nodes.length ≤ 20

theorem Tree.pre {nodes : List Node} (T : Tree nodes) : ∀ (r : List Bs) (k : List Bs) (n : Node), n ∈ nodes → n.key = k ++ r → ∃ m ∈ nodes, m.key = k := by
  intro r
  induction h : r.length generalizing r with
  | zero =>
    intro k n hn hk
    have : r = [] := List.eq_nil_of_length_eq_zero h
    subst this; exact ⟨n, hn, by simpa using hk⟩
  | succ j ih =>
    intro k n hn hk
    have hr : r ≠ [] := fun e => by subst e; simp at h
    have e : r = r.dropLast ++ [r.getLast hr] := (List.dropLast_concat_getLast hr).symm
    rw [e, ← List.append_assoc] at hk
    obtain ⟨p, hp, hpk, _, _⟩ := T.par n hn _ _ hk
    exact ih r.dropLast (by simp [h]) k p hp hpk

theorem NodeIn.lt {W : World} {n : Node} (h : NodeIn W n) : n.blk < W.heap.size := (Array.getElem?_eq_some_iff.1 h.at_).1
theorem NodeIn.cell {W : World} {n : Node} (h : NodeIn W n) {i : Nat} {v : Value} (hv : n.cells[i]? = some v) : W.cell? ⟨n.blk, i, none⟩ = some v := by
  unfold World.cell?
  have := h.at_
  simp only [this]; simpa using hv
theorem NodeIn.frozen {W : World} {n : Node} (h : NodeIn W n) (i : Nat) : W.frozen? ⟨n.blk, i, none⟩ = false := by
  unfold World.frozen?
  have := h.at_
  simp only [this]; simp
theorem NodeIn.name {W : World} {n : Node} (h : NodeIn W n) : W.cell? ⟨n.blk, 0, none⟩ = some (.string (sb (lastN n.key))) := h.cell rfl
theorem NodeIn.below {W W' : World} {n : Node} (h : NodeIn W n) (hb : Below W.heap.size W W') : NodeIn W' n := by
  refine ⟨(hb.block _ h.lt).trans h.at_, h.row.kept (row := none) ⟨hb.os, hb.tape, hb.output, hb.size, fun k hk _ => hb.block k hk⟩ ?_⟩
  cases h2 : n.sl.ownBlock
  · exact .inl rfl
  · exact .inr (by simp)
theorem NodeIn.keep {T : Nat → Prop} {W W' : World} {n : Node} (h : NodeIn W n) (hb : Keep T W W') (h1 : ¬ T n.blk) (h2 : ∀ g, n.sl.ownBlock = some g → ¬ T g) : NodeIn W' n := by
  refine ⟨(hb.block _ h.lt h1).trans h.at_, ?_⟩
  obtain ⟨hl, hr⟩ := h.row
  refine ⟨hl, ?_⟩
  rcases hr with hr | ⟨g, cap, cur, hv, hbg, hg, rest⟩
  · exact .inl hr
  · exact .inr ⟨g, cap, cur, hv, hbg, (hb.block g (Array.getElem?_eq_some_iff.1 hg).1 (h2 g (by rw [hv]; rfl))).trans hg, rest⟩

/-- A look into a list of queues. -/
theorem NodeIn.kid {W : World} {n : Node} (h : NodeIn W n) {j b : Nat} (hj : n.kids[j]? = some b) : ∃ g cap, n.sl = .slice (some ⟨g, 0, none⟩) n.kids.length cap ∧ W.cell? ⟨g, j, none⟩ = some (nptr b) := by
  obtain ⟨hl, hr⟩ := h.row
  rcases hr with ⟨hv, h0⟩ | ⟨g, cap, cur, hv, hbg, hg, hn, hm, hc, ht⟩
  · rw [List.getElem?_eq_none (by omega)] at hj; cases hj
  · refine ⟨g, cap, hv, ?_⟩
    unfold World.cell?
    simp only [hg]
    have h1 : (n.kids.map nptr)[j]? = some (nptr b) := by simp [hj]
    rw [← ht] at h1
    have hlt : j < n.kids.length := (List.getElem?_eq_some_iff.1 hj).1
    rw [List.getElem?_take_of_lt (by omega)] at h1
    simpa using h1

/-- A search among the queues below one. -/
theorem place_node {W : World} {nodes : List Node} (T : Tree nodes) (hN : ∀ n ∈ nodes, NodeIn W n) {p : Node} (hp : p ∈ nodes) (x : ByteArray) :
    Calls Tryz.prog 73 #[nptr p.blk, .string x] W fun e w' => (∃ ks : List Node, p.kids = ks.map (·.blk) ∧ (∀ k, k ∈ ks ↔ (k ∈ nodes ∧ ∃ x, k.key = p.key ++ [x])) ∧ (ks.map fun k => lastN k.key).Pairwise (fun a b => cmpB a b < 0) ∧ BsPost (ks.map fun k => lastN k.key) (bl x) e) ∧ w' = W := by
  obtain ⟨ks, hk, hm, hs⟩ := T.kids p hp
  have hP := hN p hp
  have hsl : W.cell? ⟨p.blk, 7, none⟩ = some p.sl := hP.cell rfl
  have hlen : p.kids.length = ks.length := by rw [hk]; simp
  obtain ⟨hl, hr⟩ := hP.row
  rcases hr with ⟨hv, h0⟩ | ⟨g, cap, cur, hv, hbg, hg, hn, hmx, hc, ht⟩
  · have : ks = [] := List.eq_nil_of_length_eq_zero (by omega)
    subst this
    rw [hv] at hsl
    refine (place_nil p.blk x W hsl).mono ?_
    rintro e w' ⟨h, rfl⟩
    exact ⟨⟨[], hk, hm, hs, h⟩, rfl⟩
  · rw [hv, hlen] at hsl
    have hk1000 : ks.length ≤ 1000 := by
      have hsub : (ks.map (·.key)).Nodup := by
        have : (ks.map fun k => lastN k.key).Nodup := hs.imp (fun {a b} h e => by subst e; rw [show cmpB a a = 0 from cmp_self a] at h; omega)
        rw [show (ks.map fun k => lastN k.key) = (ks.map (·.key)).map lastN by simp] at this
        exact nodup_of_map this
      have h1 : (ks.map (·.key)) ⊆ nodes.map (·.key) := by
        intro k hk'; obtain ⟨n, hn', rfl⟩ := List.mem_map.1 hk'
        exact List.mem_map.2 ⟨n, ((hm n).1 hn').1, rfl⟩
      have h2 := nodup_len hsub h1
      have h3 := T.len
      simp at h2; omega
    have hl2 : (ks.map fun k => lastN k.key).length = ks.length := by simp
    rw [← hl2] at hsl
    refine (place_any p.blk g cap p.kids (ks.map fun k => lastN k.key) x W (by simp [hlen]) (by simpa using hk1000) hs hsl ?_ ?_).mono ?_
    · intro j b hj
      obtain ⟨g', cap', hv', hc'⟩ := hP.kid hj
      rw [hv] at hv'; cases hv'; exact hc'
    · intro j b n hj hn'
      rw [hk] at hj
      simp only [List.getElem?_map, Option.map_eq_some_iff] at hj hn'
      obtain ⟨k, hkj, rfl⟩ := hj
      obtain ⟨k', hkj', rfl⟩ := hn'
      rw [hkj] at hkj'; cases hkj'
      exact (hN k ((hm k).1 (List.mem_of_getElem? hkj)).1).name
    · rintro e w' ⟨h, rfl⟩
      exact ⟨⟨ks, hk, hm, hs, h⟩, rfl⟩
end Go.Proofs.YtepneihjhcakhaaGreatDoor
