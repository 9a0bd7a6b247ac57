import Derived.Test.YtepneihjhcakhaaGreatDoorInsertA
import Derived.Test.YtepneihjhcakhaaGreatDoorWalkD
set_option linter.unusedVariables false
set_option linter.unusedSimpArgs false
namespace Go.Proofs.YtepneihjhcakhaaGreatDoor
open Go.RowKit

theorem Blk.eq (W : World) (b : Nat) (t : TypeId) (vs vs' : Array Value) (h : Blk W b t vs) (e : vs = vs') : Blk W b t vs' := e ▸ h

/-- The parent, with one more below it. -/
def Node.with1 (p : Node) (at_ q : Nat) (sl : Value) : Node := { p with sl := sl, kids := p.kids.take at_ ++ q :: p.kids.drop at_ }

structure HangPost (nodes : List Node) (p : Node) (q : Nat) (nm : Bs) (leaf : Bool) (a b c d : Int) (w w' : World) (ks : List Node) (at_ : Nat) (sl : Value) : Prop where
  kids : p.kids = ks.map (·.blk)
  mem : ∀ k, k ∈ ks ↔ (k ∈ nodes ∧ ∃ x, k.key = p.key ++ [x])
  sort : (ks.map fun k => lastN k.key).Pairwise fun a b => cmpB a b < 0
  found : Found (ks.map fun k => lastN k.key) nm at_ false
  par : NodeIn w' (p.with1 at_ q sl)
  new : NodeIn w' { blk := q, key := p.key ++ [nm], leaf := leaf, n0 := a, n1 := b, b0 := c, b1 := d, up := some p.blk, sl := .slice none 0 0, kids := [] }
  keep : Keep (fun x => x = p.blk ∨ x = q ∨ p.sl.ownBlock = some x) w w'
  own : sl.ownBlock = p.sl.ownBlock ∨ ∃ g, sl.ownBlock = some g ∧ w.heap.size ≤ g

set_option maxRecDepth 100000 in
set_option maxHeartbeats 2000000 in
theorem hang_node {nodes : List Node} (T : Tree nodes) (w : World) (hN : ∀ n ∈ nodes, NodeIn w n) {p : Node} (hp : p ∈ nodes) (q : Nat) (nm : Bs) (hnm : nameOK nm = true) (hno : ∀ n ∈ nodes, n.key ≠ p.key ++ [nm])
    (leaf : Bool) (a b c d : Int) (hq : Blk w q 104 #[.string ⟨#[]⟩, .bool leaf, .int .i64 a, .int .i64 b, .int .i64 c, .int .i64 d, .pointer none, .slice none 0 0])
    (hqp : q ≠ p.blk) (hqs : p.sl.ownBlock ≠ some q) (hps : p.sl.ownBlock ≠ some p.blk) :
    Calls Tryz.prog 55 #[nptr p.blk, .string (sb nm), nptr q] w fun e w' => e = .returned (.tuple #[]) ∧ ∃ ks at_ sl, HangPost nodes p q nm leaf a b c d w w' ks at_ sl := by
  have hplace := (place_node T hN hp (sb nm)).mono (R' := fun e w' => (∃ (ks : List Node) (at_ : Nat), e = .returned (.tuple #[.int .i64 at_, .bool false]) ∧ p.kids = ks.map (·.blk) ∧ (∀ k, k ∈ ks ↔ (k ∈ nodes ∧ ∃ x, k.key = p.key ++ [x])) ∧ (ks.map fun k => lastN k.key).Pairwise (fun a b => cmpB a b < 0) ∧ Found (ks.map fun k => lastN k.key) nm at_ false) ∧ w = w') (by
    rintro e w' ⟨⟨ks, hk, hm, hs, at_, th, rfl, hF⟩, rfl⟩
    rw [bl_sb] at hF
    cases th with
    | false => exact ⟨⟨ks, at_, rfl, hk, hm, hs, hF⟩, rfl⟩
    | true =>
      exfalso
      have h1 := hF.2.2.2.1 rfl
      simp only [List.getElem?_map, Option.map_eq_some_iff] at h1
      obtain ⟨k, hk1, hk2⟩ := h1
      obtain ⟨hkn, y, hy⟩ := (hm k).1 (List.mem_of_getElem? hk1)
      rw [hy, lastN_snoc] at hk2
      subst hk2
      exact hno k hkn hy)
  have hcl := fun W => sclone_any (sb nm) W (by rw [sb_size]; have := (nameOK_len hnm).2; omega)
  have hP := hN p hp
  have hpl := hP.lt
  have hql := hq.lt
  unfold nptr at hplace ⊢
  go_enter Tryz.func55, Tryz.ntmps55
  go_wp2_with (first
    | (go_at_call 73; refine hplace.mono ?_; rintro e w1 ⟨⟨ks, at_, rfl, hk, hm, hs, hF⟩, hw1⟩; subst hw1)
    | (go_at_call 74; refine (hcl _).mono ?_; rintro e w1 ⟨rfl, hb1⟩; have hq1 := hq.below hb1 hql; have q0 := hq1.cell 0; have q6 := hq1.cell 6; have r0 := hq1.frozen 0; have r6 := hq1.frozen 6; have hP1 := hP.below hb1; have p7 : w1.cell? ⟨p.blk, 7, none⟩ = some p.sl := hP1.cell rfl; have p7f := hP1.frozen 7))
  have hkl : p.kids.length = ks.length := by rw [hk]; simp
  have hks20 : ks.length ≤ 1000 := by
    have hsub : (ks.map (·.key)).Nodup := by
      have : (ks.map fun k => lastN k.key).Nodup := hs.imp (fun {a b} h e => by subst e; rw [show cmpB a a = 0 from cmp_self a] at h; omega)
      rw [show (ks.map fun k => lastN k.key) = (ks.map (·.key)).map lastN by simp] at this
      exact nodup_of_map this
    have h1 : ∀ x ∈ ks.map (·.key), x ∈ nodes.map (·.key) := by
      intro k hk'; obtain ⟨n, hn', rfl⟩ := List.mem_map.1 hk'
      exact List.mem_map.2 ⟨n, ((hm n).1 hn').1, rfl⟩
    have h2 := nodup_len hsub h1
    have h3 := T.len
    simp at h2; omega
  obtain ⟨W2, hW2⟩ : ∃ W2, W2 = (w1.setCell ⟨q, 0, none⟩ (.string (sb nm))).setCell ⟨q, 6, none⟩ (.pointer (some ⟨p.blk, 0, none⟩)) := ⟨_, rfl⟩
  have hk2 : Keep (fun x => x = q) w1 W2 := by rw [hW2]; exact ((Keep.refl (fun x => x = q) _).setCell (p := ⟨q, 0, none⟩) rfl _).setCell (p := ⟨q, 6, none⟩) rfl _
  have hsz2 : W2.heap.size = w1.heap.size := by rw [hW2]; simp [World.setCell]
  have hq2 : Blk W2 q 104 #[.string (sb nm), .bool leaf, .int .i64 a, .int .i64 b, .int .i64 c, .int .i64 d, .pointer (some ⟨p.blk, 0, none⟩), .slice none 0 0] := by
    rw [hW2]; simpa using (hq1.set 0 (.string (sb nm))).set 6 (.pointer (some ⟨p.blk, 0, none⟩))
  have hP2 := hP1.keep hk2 (fun e => hqp e.symm) (fun g hg e => hqs (by rw [hg, e]))
  rw [← hW2, ← hsz2]
  have hvb : Blk (W2.alloc (.cells #[.pointer (some ⟨q, 0, none⟩)] 60)) W2.heap.size 60 #[nptr q] := Blk.new W2 60 _
  have hP3 := hP2.below (W' := W2.alloc (.cells #[.pointer (some ⟨q, 0, none⟩)] 60)) ((Below.refl _ _).alloc (Nat.le_refl _) _)
  have hq3 := hq2.alloc (.cells #[.pointer (some ⟨q, 0, none⟩)] 60)
  have hk3 : Keep (fun x => x = q) w1 (W2.alloc (.cells #[.pointer (some ⟨q, 0, none⟩)] 60)) := hk2.alloc _
  have hsz3 : w1.heap.size ≤ (W2.alloc (.cells #[.pointer (some ⟨q, 0, none⟩)] 60)).heap.size := by simp; omega
  obtain ⟨W3, hW3⟩ : ∃ W3, W3 = W2.alloc (.cells #[.pointer (some ⟨q, 0, none⟩)] 60) := ⟨_, rfl⟩
  rw [← hW3] at hvb hP3 hq3 hk3 hsz3 ⊢
  clear hW2 hW3
  have hrow := hP3.row
  refine (insert_any p.sl p.kids.length at_ W2.heap.size (p.kids.map nptr) (nptr q) W3 (by omega) (by have := hF.1; simp at this; omega) rfl (fun u hu => by obtain ⟨x, _, rfl⟩ := List.mem_map.1 hu; rfl) hrow hvb (fun e => by have := (hP2.row.lt _ e).2; omega)).mono ?_
  rintro e w4 ⟨sl', rfl, hown', hk4, hor⟩
  obtain ⟨g, cap, hsl'⟩ : ∃ g cap, sl' = .slice (some ⟨g, 0, none⟩) (p.kids.length + 1) cap := by
    rcases hown'.2 with ⟨_, h0⟩ | ⟨g, cap, cur, h, _⟩
    · omega
    · exact ⟨g, cap, h⟩
  have p7' : w4.cell? ⟨p.blk, 7, none⟩ = some p.sl := (hk4.cell (p := ⟨p.blk, 7, none⟩) hP3.lt hps).trans (hP3.cell rfl)
  have p7f' : w4.frozen? ⟨p.blk, 7, none⟩ = false := (hk4.frozen (p := ⟨p.blk, 7, none⟩) hP3.lt hps).trans (hP3.frozen 7)
  have HSL : Hid (sl' = .slice (some ⟨g, 0, none⟩) (p.kids.length + 1) cap) := hsl'
  rw [hsl']
  have HK : Hid (p.kids = ks.map (·.blk)) := hk
  have HKL : Hid (p.kids.length = ks.length) := hkl
  clear hsl' hk hkl
  go_wp2
  go_end0
  have hk := HK.out
  have hkl := HKL.out
  have hPat : Blk w4 p.blk 104 p.cells := (hk4.block p.blk hP3.lt hps).trans hP3.at_
  refine ⟨rfl, ks, at_, sl', ⟨hk, hm, hs, hF, ?_, ?_, ?_, ?_⟩⟩
  · refine ⟨?_, ?_⟩
    · have := hPat.set 7 sl'
      rw [← HSL.out]
      refine this.trans ?_
      simp [Node.cells, Node.with1]
    · have hne : sl'.ownBlock ≠ some p.blk := by
        rcases hor with h | ⟨g', h, hg'⟩
        · rw [h]; exact hps
        · rw [h]; intro e; injection e with e; have := hP3.lt; omega
      have h1 := hown'.kept (row := some p.blk) (w' := w4.setCell ⟨p.blk, 7, none⟩ (.slice (some ⟨g, 0, none⟩) (p.kids.length + 1) cap)) ⟨rfl, rfl, rfl, by simp [World.setCell], fun k hk' hne' => Below.heap_setCell _ _ _ _ (fun e => hne' (by rw [e]))⟩ (.inr hne)
      have e1 : (p.with1 at_ q sl').kids.length = p.kids.length + 1 := by
        have := hF.1; simp [Node.with1] at this ⊢; omega
      have e2 : (p.with1 at_ q sl').kids.map nptr = (p.kids.map nptr).take at_ ++ nptr q :: (p.kids.map nptr).drop at_ := by
        simp [Node.with1]
      rw [e1, e2]; exact h1
  · have hqb : ¬ (p.sl.ownBlock = some q) := hqs
    have h4 : Blk w4 q 104 _ := hq3.keep hk4 hqb
    have h5 := h4.other ⟨p.blk, 7, none⟩ (.slice (some ⟨g, 0, none⟩) (p.kids.length + 1) cap) hqp
    refine ⟨?_, World.ownsRow_nil _ _ _ _⟩
    refine h5.trans ?_
    simp [Node.cells, lastN_snoc, uptr]
  · have k1 : Keep (fun x => x = p.blk ∨ x = q ∨ p.sl.ownBlock = some x) w w1 := Keep.new hb1
    have k2 := k1.trans (hk3.mono (fun x h => .inr (.inl h)))
    have k3 := k2.trans (hk4.mono (fun x h => .inr (.inr h)))
    exact k3.setCell (p := ⟨p.blk, 7, none⟩) (.inl rfl) _
  · rcases hor with h | ⟨g', h, hg'⟩
    · exact .inl h
    · exact .inr ⟨g', h, by have := hb1.size; omega⟩
end Go.Proofs.YtepneihjhcakhaaGreatDoor
