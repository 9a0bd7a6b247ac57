import Derived.Test.YtepneihjhcakhaaGreatDoorWalkD
import Derived.Test.YtepneihjhcakhaaGreatDoorRangeA
set_option linter.unusedVariables false
set_option linter.unusedSimpArgs false
namespace Go.Proofs.YtepneihjhcakhaaGreatDoor
open Go.RowKit Go.Shelf
attribute [local go_sem] Oper.semAt_some

theorem idx47_cases (l : Bs) : (idx47 l = -1 ∧ ¬ has47 l) ∨ ∃ k : Nat, idx47 l = k ∧ k < l.length ∧ l = l.take k ++ 47 :: l.drop (k + 1) ∧ ¬ has47 (l.take k) := by
  unfold idx47 has47
  induction l with
  | nil => left; exact ⟨rfl, by simp⟩
  | cons b l ih =>
    by_cases hb : b = 47
    · right; subst hb; exact ⟨0, by simp [Lib.indexByte], by simp, by simp, by simp⟩
    · rcases ih with ⟨h1, h2⟩ | ⟨k, h1, h2, h3, h4⟩
      · left
        refine ⟨by simp [Lib.indexByte, hb, h1], by simp [h2]; exact fun e => hb e.symm⟩
      · right
        refine ⟨k + 1, by simp [Lib.indexByte, hb, h1] <;> omega, by simp <;> omega, ?_, ?_⟩
        · simp only [List.take_succ_cons, List.drop_succ_cons, List.cons_append]; exact congrArg _ h3
        · simp [h4]; exact fun e => hb e.symm

def strSize (w : World) (b : Nat) : Nat := match w.cell? ⟨b, 0, none⟩ with | some (.string r) => r.size | _ => 0
theorem strSize_eq {w : World} {b : Nat} {r : ByteArray} (h : w.cell? ⟨b, 0, none⟩ = some (.string r)) : strSize w b = r.size := by simp [strSize, h]

set_option maxRecDepth 100000 in
set_option maxHeartbeats 2000000 in
theorem split1_seq (s : ByteArray) (hs : s.size ≤ 2000000) (bP bS bV : Nat) (T : Nat → Prop) (w : World)
    (hd : bP ≠ bS ∧ bV ≠ bS) (hT : ¬ T bP ∧ ¬ T bS ∧ ¬ T bV)
    (hp : w.cell? ⟨bP, 0, none⟩ = some (.string ⟨#[47]⟩)) (hc : w.cell? ⟨bS, 0, none⟩ = some (.string s)) (hf : w.frozen? ⟨bS, 0, none⟩ = false) (hv : w.cell? ⟨bV, 0, none⟩ = some (.int .i64 0)) :
    SeqK Tryz.prog 116 #[.pointer (some ⟨bP, 0, none⟩), .pointer (some ⟨bS, 0, none⟩), .pointer (some ⟨bV, 0, none⟩)] (fun l => Value.string (sb l)) (fun b => b = bS) T (splitB (bl s)) w := by
  intro n l J Jx W hW hl hJ hJx hY h0
  have lp := World.block_lt_of_cell? w _ hp
  have lc := World.block_lt_of_cell? w _ hc
  have lv := World.block_lt_of_cell? w _ hv
  replace hp := (hW.cell (p := ⟨bP, 0, none⟩) lp).trans hp
  replace hc := (hW.cell (p := ⟨bS, 0, none⟩) lc).trans hc
  replace hf := (hW.frozen (p := ⟨bS, 0, none⟩) lc).trans hf
  replace hv := (hW.cell (p := ⟨bV, 0, none⟩) lv).trans hv
  have hdd : ∀ k : Nat, Fence.wide.depth.isSome = true → 1 ≤ k := fun k h => by simp [Fence.wide] at h
  have hzz : (⟨#[47]⟩ : ByteArray).size = 1 := rfl
  refine callsIn_of_wp Tryz.func116 rfl trivial ?_ rfl
  simp only [Tryz.ntmps116, List.size_toArray, List.length_cons, List.length_nil, Nat.reduceAdd, Nat.reduceSub, Array.replicate_succ, Array.replicate_zero, List.push_toArray, List.append_toArray, List.nil_append, List.cons_append]
  gi_wp2
  gi_loopw [7] (fun _ wr => ∃ (pre : List Bs) (r : ByteArray), splitB (bl s) = pre ++ splitB (bl r) ∧ r.size ≤ 2000000 ∧ J pre wr ∧ wr.cell? ⟨bS, 0, none⟩ = some (.string r) ∧ wr.frozen? ⟨bS, 0, none⟩ = false ∧ wr.cell? ⟨bP, 0, none⟩ = some (.string ⟨#[47]⟩) ∧ wr.cell? ⟨bV, 0, none⟩ = some (.int .i64 0))
    (fun _ wr => strSize wr bS)
  case atStart => exact ⟨[], s, rfl, hs, h0, hc, hf, hp, hv⟩
  case round =>
    clear hp hc hf hv
    obtain ⟨pre, r, hx, hrs, hJs, hc, hf, hp, hv⟩ := hrel
    have HX : Hid (splitB (bl s) = pre ++ splitB (bl r)) := hx
    clear hx
    rcases idx47_cases (bl r) with ⟨hi, hno⟩ | ⟨k, hi, hk, he, hno⟩
    · have HI : Hid (splitB (bl r) = [bl r]) := splitB_none _ hno
      obtain ⟨fn, tmps, assign, body, hy, hR⟩ := hY (n - 1) pre (bl r) wr hJs (by rw [HX.out, HI.out]; exact List.prefix_refl _)
      rw [sb_bl] at hy
      gi_wp2_with (first
        | (refine ⟨trivial, hdd _, ?_⟩; gi_at_call 108; refine (callsIn_wide.2 (index_any _ _)).mono ?_; rw [hi]; rintro e w' ⟨rfl, rfl⟩)
        | (refine ⟨hdd _, ?_⟩; refine hR.mono ?_; clear hR; rintro e W2 (⟨rfl, hJ2, hb2⟩ | ⟨rfl, hx2⟩)))
      · go_end0
        exact ⟨⟨_, rfl⟩, .inl (by rw [HX.out, HI.out]; exact hJ2)⟩
      · go_end0
        exact ⟨⟨_, rfl⟩, .inr ⟨_, by rw [HX.out, HI.out]; exact List.prefix_refl _, hx2⟩⟩
    · rw [bl_len] at hk
      have HI : Hid (splitB (bl r) = (bl r).take k :: splitB ((bl r).drop (k + 1))) := by
        have h1 := splitB_slash ((bl r).take k) ((bl r).drop (k + 1))
        rw [splitB_none _ hno, ← he] at h1; exact h1
      obtain ⟨fn, tmps, assign, body, hy, hR⟩ := hY (n - 1) pre ((bl r).take k) wr hJs (by rw [HX.out, HI.out]; exact ⟨splitB ((bl r).drop (k + 1)), by simp⟩)
      have e1 : sb ((bl r).take k) = r.extract 0 k := bl_inj (by rw [bl_sb, bl_extract]; simp)
      have e2 : bl (r.extract (k + 1) r.size) = (bl r).drop (k + 1) := by
        rw [bl_extract]; exact List.take_of_length_le (by rw [List.length_drop, bl_len]; omega)
      have HE2 : Hid (bl (r.extract (k + 1) r.size) = (bl r).drop (k + 1)) := e2
      rw [e1] at hy
      clear e1 e2
      have HE : Hid (bl r = List.take k (bl r) ++ 47 :: List.drop (k + 1) (bl r)) := he
      clear he
      have hk1 : (k : Int) + 1 ≤ r.size := by omega
      have hR2 := hR.mono (R' := fun e W' => (e = .returned (.bool true) ∧ J (pre ++ [(bl r).take k]) W' ∧ W'.cell? ⟨bS, 0, none⟩ = some (.string r) ∧ W'.frozen? ⟨bS, 0, none⟩ = false ∧ W'.cell? ⟨bP, 0, none⟩ = some (.string ⟨#[47]⟩) ∧ W'.cell? ⟨bV, 0, none⟩ = some (.int .i64 0)) ∨ (e = .returned (.bool false) ∧ Jx (pre ++ [(bl r).take k]) W'))
        (fun e W' h => h.elim (fun ⟨he, hj, hk⟩ => .inl ⟨he, hj, (hk.cell (p := ⟨bS, 0, none⟩) (World.block_lt_of_cell? _ _ hc) hT.2.1).trans hc, (hk.frozen (p := ⟨bS, 0, none⟩) (World.block_lt_of_cell? _ _ hc) hT.2.1).trans hf,
          (hk.cell (p := ⟨bP, 0, none⟩) (World.block_lt_of_cell? _ _ hp) hT.1).trans hp, (hk.cell (p := ⟨bV, 0, none⟩) (World.block_lt_of_cell? _ _ hv) hT.2.2).trans hv⟩) .inr)
      clear hR
      gi_wp2_with (first
        | (refine ⟨trivial, hdd _, ?_⟩; gi_at_call 108; refine (callsIn_wide.2 (index_any _ _)).mono ?_; rw [hi]; rintro e w' ⟨rfl, rfl⟩)
        | (refine ⟨hdd _, ?_⟩; refine hR2.mono ?_; clear hR2; rintro e W2 (⟨rfl, hJ2, hc2, hf2, hp2, hv2⟩ | ⟨rfl, hx2⟩)))
      · go_roundw
        case rel =>
          refine ⟨pre ++ [(bl r).take k], r.extract (k + 1) r.size, by rw [HX.out, HI.out, HE2.out]; simp, by simp; omega, hJ _ _ _ hJ2 ((Keep.refl (fun b => b = bS) _).setCell (p := ⟨bS, 0, none⟩) rfl _), ?_, ?_, ?_, ?_⟩
          · exact World.cell?_setCell_same' _ _ _ (by rw [hc2]; rfl)
          · rw [World.frozen?_setCell]; exact hf2
          · rw [World.cell?_setCell_other _ _ _ _ (by intro e; cases e; exact hd.1 rfl)]; exact hp2
          · rw [World.cell?_setCell_other _ _ _ _ (by intro e; cases e; exact hd.2 rfl)]; exact hv2
        case measure =>
          rw [strSize_eq (World.cell?_setCell_same' _ _ _ (by rw [hc2]; rfl)), strSize_eq hc]
          simp; omega
      · refine bodyPost_ret (results_none rfl _ _ _) rfl ?_
        exact ⟨⟨_, rfl⟩, .inr ⟨_, by rw [HX.out, HI.out]; exact ⟨splitB ((bl r).drop (k + 1)), by simp⟩, hx2⟩⟩

theorem names1_seq (T : Nat → Prop) (w : World) : SeqK Tryz.prog 94 #[] (fun l : Bs => Value.string (sb l)) (fun _ => False) T [] w := by
  intro n l J Jx W hW hl hJ hJx hY h0
  refine callsIn_of_wp Tryz.func94 rfl trivial ?_ rfl
  simp only [Tryz.ntmps94, List.size_toArray, List.length_cons, List.length_nil, Nat.reduceAdd, Nat.reduceSub, Array.replicate_succ, Array.replicate_zero, List.push_toArray, List.append_toArray, List.nil_append, List.cons_append]
  gi_wp2
  go_end0
  exact ⟨⟨_, rfl⟩, .inl h0⟩
end Go.Proofs.YtepneihjhcakhaaGreatDoor
set_option linter.unusedVariables false
set_option linter.unusedSimpArgs false
namespace Go.Proofs.YtepneihjhcakhaaGreatDoor
open Go.RowKit Go.Shelf
attribute [local go_sem] Oper.semAt_some

theorem box_new (W : World) (v : Value) (t : TypeId) : (W.alloc (.cells #[v] t)).cell? ⟨W.heap.size, 0, none⟩ = some v ∧ (W.alloc (.cells #[v] t)).frozen? ⟨W.heap.size, 0, none⟩ = false := by
  have h := World.alloc_heap_new W (.cells #[v] t)
  constructor
  · unfold World.cell?; rw [h]; rfl
  · unfold World.frozen?; rw [h]; rfl

/-- The names that come, as a value that can be gone through: whichever of the two functions it is. -/
theorem names_seq (s : ByteArray) (hs : s.size ≤ 2000000) (w : World) :
    Calls Tryz.prog 72 #[.string s] w fun e w' => ∃ gf lb, e = .returned (.func (.func gf) #[] lb) ∧ (∀ args w, (callFunc gf args).run Tryz.prog w = .ok (.enter gf args) w) ∧
      Below w.heap.size w w' ∧ ∀ T : Nat → Prop, (∀ b, w.heap.size ≤ b → b < w'.heap.size → ¬ T b) →
        ∃ S : Nat → Prop, (∀ b, S b → w.heap.size ≤ b ∧ b < w'.heap.size) ∧ SeqK Tryz.prog gf lb (fun l : Bs => Value.string (sb l)) S T (namesB (bl s)) w' := by
  refine (names_any s w).mono ?_
  rintro e w' (⟨h0, rfl, rfl⟩ | ⟨h0, rfl, rfl⟩)
  · refine ⟨94, #[], rfl, enters_of Tryz.func94 (by kernel_rfl) rfl, Below.refl _ _, fun T _ => ⟨fun _ => False, fun _ h => h.elim, ?_⟩⟩
    rw [show namesB (bl s) = [] by simp [namesB, h0]]
    exact names1_seq T _
  · refine ⟨116, _, rfl, enters_of Tryz.func116 (by kernel_rfl) rfl, by (repeat (first | exact Below.refl _ _ | refine bstep ?_ (by assumption) | refine Below.setCell ?_ (by first | omega | (simp <;> omega)) _ | refine Below.alloc ?_ (by first | omega | (simp <;> omega)) _ | refine Below.drew ?_ | refine below_drewN ?_ _)), fun T hT => ⟨fun b => b = w.heap.size, fun b h => by subst h; exact ⟨Nat.le_refl _, by simp; omega⟩, ?_⟩⟩
    rw [show namesB (bl s) = splitB (bl s) by simp [namesB, h0]]
    refine split1_seq s hs _ _ _ T _ (by omega) ⟨hT _ (by omega) (by simp <;> omega), hT _ (by omega) (by simp <;> omega), hT _ (by omega) (by simp <;> omega)⟩ ?_ ?_ ?_ ?_
    all_goals simp [go_sem]

theorem Box.put {W : World} {b : Nat} {t : TypeId} {v : Value} (h : Box W b t v) (D : Nat) (o : Obj) (hD : b ≠ D) : Box (W.putObj D o) b t v := (World.putObj_heap_other hD).trans h
theorem below_put {B : Nat} {w A : World} (h : Below B w A) (D : Nat) (o : Obj) (hD : B ≤ D) : Below B w (A.putObj D o) :=
  h.trans ⟨rfl, rfl, rfl, by simp, fun k hk => World.putObj_heap_other (by omega)⟩

set_option maxRecDepth 100000 in
set_option maxHeartbeats 2000000 in
theorem valid_any (s : ByteArray) (hs : s.size ≤ 2000000) (w : World) :
    Calls Tryz.prog 63 #[.string s] w fun e w' => e = .returned (.bool (validB (bl s))) ∧ Below w.heap.size w w' := by
  have hdd : ∀ k : Nat, Fence.wide.depth.isSome = true → 1 ≤ k := fun k h => by simp [Fence.wide] at h
  refine (callsIn_wide (n := 3)).1 ?_
  refine callsIn_of_wp_marks Tryz.func63 rfl trivial ?_ rfl
  simp only [Tryz.ntmps63, List.size_toArray, List.length_cons, List.length_nil, Nat.reduceAdd, Nat.reduceSub, Array.replicate_succ, Array.replicate_zero, List.push_toArray, List.append_toArray, List.nil_append, List.cons_append]
  gi_wp2_with ((first | refine ⟨trivial, hdd _, ?_⟩ | refine ⟨trivial, ?_⟩); gi_at_call 72; refine (callsIn_wide.2 (names_seq s hs _)).mono ?_; rintro e W ⟨gf, lb, rfl, eg, hb, hseq⟩)
  obtain ⟨S, hS, hq⟩ := hseq (fun b => b = w.heap.size ∨ W.heap.size ≤ b) (fun b h1 h2 h => by simp at h1; omega)
  have hbx : Box W w.heap.size 4 (.bool false) := (Box.new w 4 _).below hb (by simp)
  have hbw : Below w.heap.size w W := bstep ((Below.refl _ _).alloc (Nat.le_refl _) _) hb
  clear hseq
  have hnS : ∀ b, b ≤ w.heap.size → ¬ (S b ∨ W.heap.size ≤ b) := fun b hb' h => by
    have h2 := hbx.lt
    rcases h with h | h
    · have h1 := (hS _ h).1; simp at h1; omega
    · omega
  refine rf_law (T := fun b => b = w.heap.size) rfl eg hq (Below.refl _ _) rfl (fun b h => (hS b h).2) (fun b h => h ▸ hbx.lt)
    (fun pre A => pre.all nameOK = true ∧ Box A w.heap.size 4 (.bool false) ∧ Below w.heap.size w A)
    (fun c pre A => c = .ret ∧ validB (bl s) = false ∧ Box A w.heap.size 4 (.bool false) ∧ Below w.heap.size w A)
    (fun pre A B hs hk => ⟨hs.1, hs.2.1.keep hk (hnS _ (Nat.le_refl _)), hs.2.2.trans (hk.toBelow hs.2.2.size (fun b hb' => hnS b (by omega)))⟩)
    (fun c pre A B hs hk => ⟨hs.1, hs.2.1, hs.2.2.1.keep hk (hnS _ (Nat.le_refl _)), hs.2.2.2.trans (hk.toBelow hs.2.2.2.size (fun b hb' => hnS b (by omega)))⟩)
    ⟨rfl, hbx, hbw⟩
    (fun x => { tmps := #[.string s, undef, .pointer (some ⟨w.heap.size, 0, none⟩), .string (sb x), .string s, .func (.func gf) #[] lb, .string (sb x), undef, undef, undef], defers := [] }) ?assign ?body ?done ?stop
  case assign =>
    intro l x W K hK
    gi_wp2
    exact hK
  case body =>
    rintro l pre x W2 ⟨hall, hbox, hbel⟩ hsz hpre
    have hmem : x ∈ namesB (bl s) := hpre.subset (by simp)
    have hxl : (sb x).size ≤ maxLen := by
      rw [sb_size]; have := namesB_mem_len _ _ hmem; rw [bl_len] at this; unfold maxLen; omega
    have hv := validName_any (sb x)
    rw [bl_sb] at hv
    have hc := hbox.cell
    have hf := hbox.frozen
    cases hok : nameOK x
    · rw [hok] at hv
      gi_wp2_with ((first | refine ⟨trivial, hdd _, ?_⟩ | refine ⟨trivial, ?_⟩); gi_at_call 82; refine (CallsIn.inRound l (callsIn_wide.2 (hv _ hxl))).mono ?_; rintro e w' ⟨rfl, rfl⟩)
      refine ⟨(Keep.refl (fun b => b = w.heap.size) _).setCell (p := ⟨w.heap.size, 0, none⟩) rfl _, rfl, ?_, hbox.set _, hbel.setCell (Nat.le_refl _) _⟩
      rw [validB, List.all_eq_false]; exact ⟨x, hmem, by simp [hok]⟩
    · rw [hok] at hv
      gi_wp2_with ((first | refine ⟨trivial, hdd _, ?_⟩ | refine ⟨trivial, ?_⟩); gi_at_call 82; refine (CallsIn.inRound l (callsIn_wide.2 (hv _ hxl))).mono ?_; rintro e w' ⟨rfl, rfl⟩)
      exact ⟨Keep.refl _ _, by simp [hall, hok], hbox, hbel⟩
  case done =>
    rintro A ⟨hall, hbox, hbel⟩ hD
    have hc := hbox.cell
    have hf := hbox.frozen
    gi_wp2
    have hlt := hbx.lt
    have hD' : (A.setCell ⟨w.heap.size, 0, none⟩ (.bool true)).heap[W.heap.size]? = some (.deferred (some [])) := (Below.heap_setCell _ _ _ _ (by simp; omega)).trans hD
    have hb2 := ((hbox.set (.bool true)).put W.heap.size (.deferred none) (by omega)).cell
    refine ⟨by simp, .inl ⟨_, _, rfl, run_takeDeferred hD', ?_⟩⟩
    refine ⟨.bool true, by simp [results, Tryz.results63, go_sem, hb2], ret_bool (by rw [validB]; exact hall.symm), below_put (hbel.setCell (Nat.le_refl _) _) _ _ (by omega)⟩
  case stop =>
    rintro c pre A hpre ⟨rfl, hv, hbox, hbel⟩ hD
    gi_wp2
    have hlt := hbx.lt
    have hb2 := (hbox.put W.heap.size (.deferred none) (by omega)).cell
    refine ⟨by simp, .inl ⟨_, _, rfl, run_takeDeferred hD, ?_⟩⟩
    refine ⟨.bool false, by simp [results, Tryz.results63, go_sem, hb2], ret_bool hv.symm, below_put hbel _ _ (by omega)⟩
end Go.Proofs.YtepneihjhcakhaaGreatDoor
