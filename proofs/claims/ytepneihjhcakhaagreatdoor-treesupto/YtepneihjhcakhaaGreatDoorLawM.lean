import Derived.Test.YtepneihjhcakhaaGreatDoorLawK
set_option linter.unusedVariables false
set_option linter.unusedSimpArgs false
namespace Go.Proofs.YtepneihjhcakhaaGreatDoor
open Go.RowKit

set_option maxRecDepth 100000 in
set_option maxHeartbeats 400000 in
theorem new_any (w : World) : Calls Tryz.prog 7 #[] w fun e w' => e = .returned (.pointer (some ⟨w.heap.size + 2, 0, none⟩)) ∧
    w' = ((w.alloc (.cells #[.int .i64 0, .int .i64 0] 35)).alloc (.cells #[.string ⟨#[]⟩, .bool false, .int .i64 0, .int .i64 0, .int .i64 0, .int .i64 0, .pointer none, .slice none 0 0] 104)).alloc (.cells #[.pointer (some ⟨w.heap.size + 1, 0, none⟩)] 63) := by
  go_enter Tryz.func7, Tryz.ntmps7
  go_wp2_with (go_at_call 26; refine (newCohort_any _ _ _).mono ?_; rintro e w1 ⟨rfl, hw1⟩; subst hw1)
  go_ret
  exact ⟨by simp, rfl⟩

set_option maxRecDepth 100000 in
set_option maxHeartbeats 400000 in
theorem refnew_any (w : World) : Calls Tryz.prog 8 #[] w fun e w' => e = .returned (.pointer (some ⟨w.heap.size + 1, 0, none⟩)) ∧
    w' = (w.alloc (.cells #[.string ⟨#[]⟩, .bool false, .int .i64 0, .int .i64 0, .int .i64 0, .int .i64 0] 65)).alloc (.cells #[.slice (some ⟨w.heap.size, 0, none⟩) 1 1, .slice none 0 0, .int .i64 0, .int .i64 0] 69) := by
  go_enter Tryz.func8, Tryz.ntmps8
  go_wp2
  go_ret
  exact ⟨by simp, rfl⟩

/-- The root alone. -/
def root0 (b : Nat) : Node := { blk := b, key := [], leaf := false, n0 := 0, n1 := 0, b0 := 0, b1 := 0, up := none, sl := .slice none 0 0, kids := [] }
theorem tree0 (b : Nat) : Tree [root0 b] := by
  refine ⟨⟨root0 b, rfl, rfl, rfl, rfl, rfl⟩, ?_, by simp, ?_, ?_, ?_, ?_, ?_, by simp⟩
  · intro n hn m hm _; simp at hn hm; rw [hn, hm]
  · intro n hn; simp at hn; subst hn; exact ⟨rfl, by simp [root0]⟩
  · intro n hn; simp at hn; subst hn; simp [root0]
  · intro n hn _; simp at hn; subst hn; rfl
  · intro n hn k x hk; simp at hn; subst hn; simp [root0] at hk
  · intro p hp; simp at hp; subst hp
    refine ⟨[], rfl, fun k => ?_, by simp⟩
    simp only [List.not_mem_nil, List.mem_singleton, false_iff, not_and]
    rintro rfl ⟨x, hx⟩; simp [root0] at hx
theorem rootL (b : Nat) : [root0 b].map Node.ent = [⟨[], false, 0, 0, 0, 0⟩] := rfl
end Go.Proofs.YtepneihjhcakhaaGreatDoor
set_option linter.unusedVariables false
set_option linter.unusedSimpArgs false
namespace Go.Proofs.YtepneihjhcakhaaGreatDoor
open Go.RowKit

theorem i44a : (Tryz.prog.info? 44).map (fun i => (i.size, i.bytes)) = some (2, 16) := by kernel_rfl
theorem i44b : (Tryz.prog.info? 44).bind (fun i => i.zero) = some (.agg #[.pointer none, .pointer none]) := by kernel_rfl
theorem inf44 : InfoIs 44 2 16 := info_of i44a i44b rfl
theorem un26 : Tryz.prog.underlying 26 = some (.slice 44) := by kernel_rfl
theorem row_form {W : World} {t : TypeId} {size : Nat} {sl : Value} {n : Nat} {xs : List Value} (h : W.ownsRow 0 t size sl n xs) : ∃ ao cap, sl = .slice ao n cap := by
  rcases h.2 with ⟨rfl, rfl⟩ | ⟨g, cap, cur, rfl, _⟩
  · exact ⟨none, 0, rfl⟩
  · exact ⟨_, cap, rfl⟩

theorem new_post (w : World) : Calls Tryz.prog 7 #[] w fun e w' => ∃ nd bt, e = .returned (.pointer (some ⟨bt, 0, none⟩)) ∧ Below w.heap.size w w' ∧ Blk w' nd 104 #[.string ⟨#[]⟩, .bool false, .int .i64 0, .int .i64 0, .int .i64 0, .int .i64 0, .pointer none, .slice none 0 0] ∧ Blk w' bt 63 #[.pointer (some ⟨nd, 0, none⟩)] ∧ w.heap.size ≤ nd ∧ nd < bt ∧ bt < w'.heap.size := by
  refine (new_any w).mono ?_
  rintro e w' ⟨rfl, rfl⟩
  refine ⟨w.heap.size + 1, w.heap.size + 2, rfl, ?_, ?_, Blk.new' (by simp), by omega, by omega, by simp⟩
  · exact (((Below.refl _ _).alloc (Nat.le_refl _) _).alloc (by simp) _).alloc (by simp; omega) _
  · exact (Blk.new' (by simp)).alloc _
theorem refnew_post (w : World) : Calls Tryz.prog 8 #[] w fun e w' => ∃ rr br, e = .returned (.pointer (some ⟨br, 0, none⟩)) ∧ Below w.heap.size w w' ∧ Blk w' rr 65 #[.string ⟨#[]⟩, .bool false, .int .i64 0, .int .i64 0, .int .i64 0, .int .i64 0] ∧ Blk w' br 69 #[.slice (some ⟨rr, 0, none⟩) 1 1, .slice none 0 0, .int .i64 0, .int .i64 0] ∧ w.heap.size ≤ rr ∧ rr < br ∧ br < w'.heap.size := by
  refine (refnew_any w).mono ?_
  rintro e w' ⟨rfl, rfl⟩
  refine ⟨w.heap.size, w.heap.size + 1, rfl, ?_, ?_, Blk.new' (by simp), by omega, by omega, by simp⟩
  · exact ((Below.refl _ _).alloc (Nat.le_refl _) _).alloc (by simp) _
  · exact (Blk.new' rfl).alloc _

/-- What New leaves: the worlds, one behind the other. -/
structure NewP (W : World) (bw k : Nat) (slT : Value) (cells : List Value) (op : Array Value) (U : World) (nd bt rr br gT cT : Nat) (w' : World) : Prop where
  u : Below W.heap.size W U
  nd_ : Blk U nd 104 #[.string ⟨#[]⟩, .bool false, .int .i64 0, .int .i64 0, .int .i64 0, .int .i64 0, .pointer none, .slice none 0 0]
  bt_ : Blk U bt 63 #[.pointer (some ⟨nd, 0, none⟩)]
  rr_ : Blk U rr 65 #[.string ⟨#[]⟩, .bool false, .int .i64 0, .int .i64 0, .int .i64 0, .int .i64 0]
  br_ : Blk U br 69 #[.slice (some ⟨rr, 0, none⟩) 1 1, .slice none 0 0, .int .i64 0, .int .i64 0]
  lo : W.heap.size ≤ nd ∧ nd < bt ∧ bt < rr ∧ rr < br
  end_ : ∃ wA, AppR U slT.ownBlock 44 2 (k + 1) (cells ++ [.pointer (some ⟨bt, 0, none⟩), .pointer (some ⟨br, 0, none⟩)]) gT cT wA ∧ w' = wA.setCell ⟨bw, 0, none⟩ (.slice (some ⟨gT, 0, none⟩) (k + 1) cT)

end Go.Proofs.YtepneihjhcakhaaGreatDoor
