import Derived.Test.YtepneihjhcakhaaGreatDoorRefI
set_option linter.unusedVariables false
set_option linter.unusedSimpArgs false
namespace Go.Proofs.YtepneihjhcakhaaGreatDoor
open Go.RowKit

theorem in_prefix {k a : List Bs} (hk : keyOK k = true) (ha : keyOK a = true) : inB (joinB k) (joinB a) = a.isPrefixOf k := by
  rw [Bool.eq_iff_iff, inB_key hk ha, List.isPrefixOf_iff_prefix]

theorem sums_agree (k : List Bs) (hk : keyOK k = true) : ∀ l : List Node, (∀ n ∈ l, keyOK n.key = true ∧ (n.leaf = false → n.n0 = 0 ∧ n.n1 = 0)) →
    es0 (eunder (l.map Node.ent) (joinB k)) = sum0 (under l k) ∧ es1 (eunder (l.map Node.ent) (joinB k)) = sum1 (under l k)
  | [], _ => ⟨rfl, rfl⟩
  | n :: l, h => by
    obtain ⟨i0, i1⟩ := sums_agree k hk l (fun m hm => h m (by simp [hm]))
    obtain ⟨h1, h2⟩ := h n (by simp)
    have hp := in_prefix h1 hk
    unfold eunder under es0 es1 sum0 sum1 at *
    rw [List.map_cons, List.filter_cons, List.filter_cons]
    have e1 : (Node.ent n).leaf = n.leaf := rfl
    have e2 : (Node.ent n).key = n.key := rfl
    rw [e1, e2, hp]
    cases hl : n.leaf
    · obtain ⟨z0, z1⟩ := h2 hl
      cases k.isPrefixOf n.key
      · simpa using ⟨i0, i1⟩
      · simp only [Bool.false_and, Bool.false_eq_true, if_false, if_true, List.map_cons, List.sum_cons, z0, z1, Int.zero_add]; exact ⟨i0, i1⟩
    · cases k.isPrefixOf n.key
      · simpa using ⟨i0, i1⟩
      · simp only [Bool.and_self, if_true, List.map_cons, List.sum_cons]
        exact ⟨by rw [i0]; rfl, by rw [i1]; rfl⟩

theorem Tree.ents {nodes : List Node} (T : Tree nodes) : Ents (nodes.map Node.ent) := by
  refine ⟨fun e he => ?_, fun e he => ?_, by simpa using T.len, ?_⟩
  · obtain ⟨n, hn, rfl⟩ := List.mem_map.1 he; exact T.ok n hn
  · obtain ⟨n, hn, rfl⟩ := List.mem_map.1 he; exact ⟨(T.num n hn).1, (T.num n hn).2.1⟩
  · obtain ⟨r, h0, _⟩ := T.root
    have := (List.getElem?_eq_some_iff.1 h0).1
    simpa using this
theorem Tree.einj {nodes : List Node} (T : Tree nodes) : ∀ a ∈ nodes.map Node.ent, ∀ b ∈ nodes.map Node.ent, a.key = b.key → a = b := by
  intro a ha b hb e
  obtain ⟨n, hn, rfl⟩ := List.mem_map.1 ha
  obtain ⟨m, hm, rfl⟩ := List.mem_map.1 hb
  rw [T.inj n hn m hm e]

theorem told_agree {nodes : List Node} (T : Tree nodes) (s : Bs) : toldE (nodes.map Node.ent) s = toldQ nodes s := by
  unfold toldE toldQ
  split
  · rfl
  · rw [findE_map]
    cases hf : findKey nodes (namesB s) with
    | none => rfl
    | some n =>
      obtain ⟨hn, _⟩ := findKey_mem hf
      obtain ⟨h0, h1⟩ := sums_agree n.key (T.ok n hn).1 nodes (fun m hm => ⟨(T.ok m hm).1, (T.num m hm).2.2.2.2⟩)
      simp only [Option.map_some]
      show (qCells (joinB n.key) n.leaf (es0 (eunder (nodes.map Node.ent) (joinB n.key))) (es1 (eunder (nodes.map Node.ent) (joinB n.key))) n.b0 n.b1, (0 : Int)) = _
      rw [h0, h1]
end Go.Proofs.YtepneihjhcakhaaGreatDoor
