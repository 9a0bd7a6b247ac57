import Derived.Test.YtphclnolomgjoaaGreatDoorC06
import Derived.Test.YtphclnolomgjoaaGreatDoorC27
import Derived.Sort.LoopGhostIn
import Derived.Sort.CutIn
set_option linter.unusedVariables false
set_option linter.unusedSimpArgs false
namespace Go.Proofs.YtphclnolomgjoaaGreatDoor
open Go.RowKit Go.Shelf
attribute [local go_sem] Oper.semAt_some
section
variable {w : World} {nodes : List Node} {rr bt : Nat} {r : Node} {lst vw va ev : Value} {ws as_ : List Pw} {evs : List (Int × Int)}
theorem qfl {F : Fence} {n : Nat} {P : Program} {c : Code} {Q : Exit -> Act -> World -> Prop} {a : Act} {w : World} (h : c.wpIn F n P (Exit.then (fun a w => Q .normal a w) (fun _ _ _ => False)) a w) : c.wpIn F n P Q a w :=
 wpIn_mono h (fun e a w hq => by cases e with | normal => exact hq | _ => exact hq.elim)
set_option maxRecDepth 100000 in
set_option maxHeartbeats 2000000 in
theorem quh (f : Value) (hf : ∃ a b c, f = .func a b c) (w : World) : Calls Tryz.prog 175 #[f] w fun e w' => e = .returned (.pointer (some ⟨w.heap.size, 0, none⟩)) /\ w' = w.alloc (.cells #[f, .slice none 0 0] 254) := by
 obtain ⟨a, b, c, rfl⟩ := hf
 go_enter Tryz.func175, Tryz.ntmps175
 go_wp2_with fail
 go_ret
 exact ⟨rfl, rfl⟩
set_option maxRecDepth 100000 in
set_option maxHeartbeats 2000000 in
theorem qkt (T0 : Tree nodes) (hB : qa7 nodes) {ch : Node -> List Node} (K0 : Kids nodes ch) (h : LdAt w nodes rr bt r lst vw va ev ws as_ evs) (hr : r ∈ nodes) (hrk : r.key = []) {s0 : SS} (R : Rel nodes s0.Ws ws as_) (I : SInv s0) (hev : s0.evs = evs) (hlen : evs.length <= 1000) (k0 : Nat) (hk0 : qcm s0.Ws <= k0) (hk1 : k0 <= 100) :
  Calls Tryz.prog 131 #[.pointer (some ⟨rr, 0, none⟩)] w fun e w' => e = .returned (.tuple #[]) /\ ∃ vw' va' ev' ws' as', LdAt w' nodes rr bt r lst vw' va' ev' ws' as' (iterS (qas (nodes.map Node.ent)) k0 s0).evs /\ Rel nodes (iterS (qas (nodes.map Node.ent)) k0 s0).Ws ws' as' /\ qbu rr bt w w' vw va ev vw' va' ev' /\ (∀ p ∈ ws' ++ as', p ∈ ws ++ as_) := by
 generalize hfin : iterS (qas (nodes.map Node.ent)) k0 s0 = fin
 have HFIN : Hid (iterS (qas (nodes.map Node.ent)) k0 s0 = fin) := hfin
 clear hfin
 have hdd : ∀ k : Nat, Fence.wide.depth.isSome = true -> 1 <= k := fun k h => by simp [Fence.wide] at h
 have hnh := quh (.func (.func 176) #[] #[]) ⟨_, _, _, rfl⟩
 refine (callsIn_wide (n := 3)).1 ?_
 refine callsIn_of_wp_marks Tryz.func131 rfl trivial ?_ rfl
 simp only [Tryz.ntmps131, List.size_toArray, List.length_cons, List.length_nil, Nat.reduceAdd, Nat.reduceSub, Array.replicate_succ, Array.replicate_zero, List.push_toArray, List.append_toArray, List.nil_append, List.cons_append]
 have hhds := fun W (hW : Below w.heap.size w W) => qlb T0 K0 (h.below hW).rw_ hr
 unfold nptr at hhds
 obtain ⟨W0, hW0⟩ : ∃ W0, W0 = ((w.alloc (.cells #[.pointer (some ⟨rr, 0, none⟩)] 186)).alloc (.cells #[.func (.func 176) #[] #[], .slice none 0 0] 254)).alloc (.cells #[.pointer (some ⟨w.heap.size + 1, 0, none⟩)] 223) := ⟨_, rfl⟩
 have hB0 : Below w.heap.size w W0 := by rw [hW0]; exact bel2
 have hs0 : W0.heap.size = w.heap.size + 3 := by rw [hW0]; simp
 have x1 : Box W0 w.heap.size 186 (.pointer (some ⟨rr, 0, none⟩)) := by rw [hW0]; exact ((Box.new w 186 _).alloc _).alloc _
 have hH0 : HqAt W0 (w.heap.size + 1) (.func (.func 176) #[] #[]) (.slice none 0 0) [] := by
  refine ⟨?_, ⟨rfl, .inl ⟨rfl, rfl⟩⟩, by simp [Value.ownBlock]⟩
  have := (Blk.new (w.alloc (.cells #[.pointer (some ⟨rr, 0, none⟩)] 186)) 254 #[.func (.func 176) #[] #[], .slice none 0 0]).alloc (.cells #[.pointer (some ⟨w.heap.size + 1, 0, none⟩)] 223)
  rw [World.size_alloc] at this; rw [hW0]; exact this
 have x3 : Box W0 (w.heap.size + 1 + 1) 223 (.pointer (some ⟨w.heap.size + 1, 0, none⟩)) := by
  have := Box.new ((w.alloc (.cells #[.pointer (some ⟨rr, 0, none⟩)] 186)).alloc (.cells #[.func (.func 176) #[] #[], .slice none 0 0] 254)) 223 (.pointer (some ⟨w.heap.size + 1, 0, none⟩))
  rw [World.size_alloc, World.size_alloc] at this; rw [hW0]; exact this
 have c1 := x1.cell
 rw [hW0] at c1
 gi_wp2_with (first
  | ((first | refine ⟨trivial, hdd _, ?_⟩ | refine ⟨trivial, ?_⟩); gi_at_call 175; refine (callsIn_wide.2 (hnh _)).mono ?_; rintro e W3 ⟨rfl, rfl⟩)
  | ((first | refine ⟨trivial, hdd _, ?_⟩ | refine ⟨trivial, ?_⟩); gi_at_call 169; refine (callsIn_wide.2 (hhds _ (by exact bel1))).mono ?_; rintro e W3 ⟨rfl, rfl, hseq⟩))
 obtain ⟨W, hW⟩ : ∃ W, W = W0.alloc (.cells #[.pointer (some ⟨rr, 0, none⟩)] 186) := ⟨_, rfl⟩
 have hsz : W.heap.size = w.heap.size + 4 := by rw [hW]; simp [hs0]
 have hB1 : Below W0.heap.size W0 W := by rw [hW]; exact bel2
 have hbw : Below w.heap.size w W := qac hB0 hB1
 have z1 := x1.below hB1 x1.lt
 have z3 := x3.below hB1 x3.lt
 have hH1 := hH0.below hB1
 simp only [World.size_alloc] at hseq
 simp only [<- hW0, <- hW] at hseq ⊢
 have hq := hseq (fun b => b = w.heap.size + 1) (fun b e => by omega) (h.lt (fun b e => by omega)).rw_
 have hxl : (qap ws (dfs ch 4 r)).length <= 20 := Nat.le_trans (qjf ws (dfs ch 4 r)) (qoe T0 K0 hr)
 have hxm : ∀ p ∈ qap ws (dfs ch 4 r), p ∈ ws ++ as_ := fun p hp => List.mem_append_left _ (qjl hp)
 have hprm := qgc T0 K0 hr hrk
 generalize dfs ch 4 r = DX at hq hxl hxm hprm
 have hown : ∀ ys : List Ak, ys.Perm ((qap ws DX).map fun p => ⟨p, qc0 nodes as_ p.x⟩) -> qbt (nodes.map Node.ent) s0.Ws (ys.map akx) := fun ys hys => R.qwf T0 hB I.wks hprm hys
 generalize qap ws DX = X at hq hxl hxm hown
 clear hseq hhds hW hW0 c1 x1 x3 hH0 hnh
 have hno : ∀ b, b < W.heap.size -> ¬ (False \/ (W.heap.size <= b /\ b < W.heap.size + 2 + 4)) := fun b hb e => by rcases e with e | e; exact e; omega
 refine qgs (T := fun b => b = w.heap.size + 1) (S := fun _ => False) rfl (enters_of Tryz.func206 (by kernel_rfl) rfl) hq (Below.refl _ _) (fun _ => rfl) (fun b e => e.elim) (fun b e => by omega)
  (fun (pre : List Pw) A => (∃ v ys, HqAt A (w.heap.size + 1) (.func (.func 176) #[] #[]) v ys /\ qbp ltA ys /\ ys.Perm (pre.map fun p => ⟨p, qc0 nodes as_ p.x⟩) /\ (∀ b, v.ownBlock = some b -> W.heap.size + 2 + 4 <= b)) /\ Box A w.heap.size 186 (.pointer (some ⟨rr, 0, none⟩)) /\ Box A (w.heap.size + 1 + 1) 223 (.pointer (some ⟨w.heap.size + 1, 0, none⟩)) /\ Below w.heap.size w A)
  (fun c (pre : List Pw) A => False)
  (fun pre A B hs hk => by
   obtain ⟨⟨v, ys, g1, g2, g3, g4⟩, g5, g6, g7⟩ := hs
   exact ⟨⟨v, ys, g1.keep hk (hno _ (by omega)) (fun b hb e => by have := g4 b hb; rcases e with e | e; exact e; omega), g2, g3, g4⟩, g5.keep hk (hno _ (by omega)), g6.keep hk (hno _ (by omega)), g7.trans (hk.toBelow g7.size (fun b hb' => hno b (by omega)))⟩)
  (fun c pre A B hs hk => hs)
  ⟨⟨_, [], hH1, fun j a b hj ha => by simp at ha, by simp, by simp [Value.ownBlock]⟩, z1, z3, hbw⟩
  (fun x => { tmps := #[.pointer (some ⟨rr, 0, none⟩), .pointer (some ⟨w.heap.size, 0, none⟩), .pointer (some ⟨w.heap.size + 1 + 1, 0, none⟩), .pointer (some ⟨x.blk, 0, none⟩), undef, undef, undef, .pointer (some ⟨w.heap.size + 1, 0, none⟩), .pointer (some ⟨rr, 0, none⟩), .func (.func 206) #[] #[.pointer (some ⟨w.heap.size + 1 + 1 + 1, 0, none⟩)], .pointer (some ⟨x.blk, 0, none⟩), undef, undef, undef, undef, undef, undef, undef, undef, undef, undef, undef, undef, undef, undef, undef, undef, undef, undef, undef, undef, undef, undef, undef, undef, undef, undef, undef, undef, undef, undef, undef, undef, undef, undef, undef, undef, undef, undef, undef, undef, undef, undef, undef], defers := [] }) ?assign ?body ?done ?stop
 case assign =>
  intro l x W K hK
  gi_wp2
  exact hK
 case stop =>
  rintro c pre A hpre hx hD
  exact hx.elim
 case body =>
  rintro l2 pre x W2 ⟨⟨v, ys, g1, g2, g3, g4⟩, g5, g6, g7⟩ hszW hpre
  have hyl : ys.length <= 50 := by
   have := g3.length_eq
   have h2 := hpre.length_le
   simp at this h2
   omega
  have hxin : x ∈ ws ++ as_ := hxm x (hpre.subset (by simp))
  have hask := fun W' (hW' : Below w.heap.size w W') => qjh T0 hB (h.below hW').rd hr hrk (h.below hW').cells.1 ((h.below hW').pin hxin)
  have hpu := fun W' (hW' : Below W2.heap.size W2 W') => qrz qip (g1.below hW') hyl g2 ⟨x, qc0 nodes as_ x.x⟩ ((h.below (qac g7 hW')).befq (h.lt (fun b e => by
   rcases e with e | e
   ·omega
   ·have := g4 b e; omega)) (fun p hp => by
    rcases List.mem_append.1 hp with e | e
    ·obtain ⟨p', hp', rfl⟩ := List.mem_map.1 (g3.mem_iff.1 e)
     exact hxm p' (hpre.subset (List.mem_append_left _ hp'))
    ·simp at e; subst e; exact hxin))
  have c1 := g5.cell
  have c2 := g6.cell
  have HY : Hid (ys.Perm (pre.map fun p => ⟨p, qc0 nodes as_ p.x⟩)) := g3
  have hS4 : ∀ W', Below W2.heap.size W2 W' -> W'.cell? ⟨w.heap.size, 0, none⟩ = some (.pointer (some ⟨rr, 0, none⟩)) /\ W'.cell? ⟨w.heap.size + 1 + 1, 0, none⟩ = some (.pointer (some ⟨w.heap.size + 1, 0, none⟩)) := fun W' hW' => ⟨(g5.below hW' g5.lt).cell, (g6.below hW' g6.lt).cell⟩
  have hnk : ∀ {W' : World}, Keep (fun y => y = w.heap.size + 1 \/ v.ownBlock = some y) W2 W' -> W'.cell? ⟨w.heap.size, 0, none⟩ = some (.pointer (some ⟨rr, 0, none⟩)) /\ W'.cell? ⟨w.heap.size + 1 + 1, 0, none⟩ = some (.pointer (some ⟨w.heap.size + 1, 0, none⟩)) /\ Box W' w.heap.size 186 (.pointer (some ⟨rr, 0, none⟩)) /\ Box W' (w.heap.size + 1 + 1) 223 (.pointer (some ⟨w.heap.size + 1, 0, none⟩)) := fun {W'} hk => by
   have q1 := g5.keep hk (g1.qdy g5 (by decide) (by decide))
   have q2 := g6.keep hk (g1.qdy g6 (by decide) (by decide))
   exact ⟨q1.cell, q2.cell, q1, q2⟩
  generalize hsx : qc0 nodes as_ x.x = sx at hask hpu
  have HSX : Hid (qc0 nodes as_ x.x = sx) := hsx
  clear hsx
  clear g3 hq hown
  unfold akv nptr at hask hpu
  gi_upto_region 4 with fail
  refine qfl ?_
  refine qdk (fun W' => W'.cell? ⟨w.heap.size, 0, none⟩ = some (.pointer (some ⟨rr, 0, none⟩)) /\ W'.cell? ⟨w.heap.size + 1 + 1, 0, none⟩ = some (.pointer (some ⟨w.heap.size + 1, 0, none⟩))) (by kernel_rfl) (by kernel_rfl) (hS4 W2.drew (Below.refl _ _).drew) (fun hS => ?_)
  refine wpAnyH_take (i := 0) (v := .pointer (some ⟨w.heap.size + 1, 0, none⟩)) rfl (by kernel_rfl) (by kernel_rfl) (by kernel_rfl) (fun _ _ _ h => absurd h.1 (by intro e; cases e)) (Or.inl ⟨by rfl, ?_⟩) hS ?_
  ·intro w' hS'
   obtain ⟨s1, s2⟩ := hS'
   go_simp
  try simp only [List.getElem_toArray, List.getElem_cons_zero, List.getElem_cons_succ, Act.put, List.setIfInBounds_toArray, List.set_cons_zero, List.set_cons_succ]
  refine wpAnyH_take (i := 1) (v := .pointer (some ⟨rr, 0, none⟩)) rfl (by kernel_rfl) (by kernel_rfl) (by kernel_rfl) (fun _ _ _ h => absurd h.1 (by intro e; cases e)) (Or.inl ⟨by rfl, ?_⟩) hS ?_
  ·intro w' hS'
   obtain ⟨s1, s2⟩ := hS'
   go_simp
  try simp only [List.getElem_toArray, List.getElem_cons_zero, List.getElem_cons_succ, Act.put, List.setIfInBounds_toArray, List.set_cons_zero, List.set_cons_succ]
  refine wpAnyH_take (i := 2) (v := .pointer (some ⟨x.blk, 0, none⟩)) rfl (by kernel_rfl) (by kernel_rfl) (by kernel_rfl) (fun _ _ _ h => absurd h.1 (by intro e; cases e)) (Or.inl ⟨by rfl, ?_⟩) hS ?_
  ·intro w' hS'
   obtain ⟨s1, s2⟩ := hS'
   go_simp
  try simp only [List.getElem_toArray, List.getElem_cons_zero, List.getElem_cons_succ, Act.put, List.setIfInBounds_toArray, List.set_cons_zero, List.set_cons_succ]
  refine wpAnyH_ready (rs := [3]) (by kernel_rfl) (by simp) ?_
  refine AllReadyH.cons rfl (fun K' hK => ?_) AllReadyH.nil
  rw [if_pos (by rfl)]
  try simp only [List.getElem_toArray, List.getElem_cons_zero, List.getElem_cons_succ]
  go_simp
  refine (hask _ (qac g7 (by exact bel2))).mono ?_
  rintro e W3 ⟨rfl, hb3⟩
  have hB3 : Below W2.heap.size W2 W3 := qac (show Below W2.heap.size W2 W2.drew by exact bel2) hb3
  refine hK.out _ _ (hS4 _ hB3) (fun hS => ?_)
  clear hK
  try simp only [List.getElem_toArray, List.getElem_cons_zero, List.getElem_cons_succ, Act.put, List.setIfInBounds_toArray, List.set_cons_zero, List.set_cons_succ]
  refine wpAnyH_ready (rs := [4]) (by kernel_rfl) (by simp) ?_
  refine AllReadyH.cons rfl (fun K' hK => ?_) AllReadyH.nil
  rw [if_pos (by rfl)]
  try simp only [List.getElem_toArray, List.getElem_cons_zero, List.getElem_cons_succ]
  go_simp
  refine (hpu _ hB3).mono ?_
  rintro e W5 ⟨rfl, v', zs, y1, y2, y3, y4, y5⟩
  have hk5 : Keep (fun y => y = w.heap.size + 1 \/ v.ownBlock = some y) W2 W5 := (Keep.new hB3).trans y4
  obtain ⟨q1, q2, q3, q4⟩ := hnk hk5
  refine hK.out _ _ ⟨q1, q2⟩ (fun hS => ?_)
  clear hK
  refine wpAnyH_done (by kernel_rfl) ⟨rfl, ?_⟩ _
  clear hpu hask hnk hS4
  refine show Keep (fun b => b = w.heap.size + 1 \/ W.heap.size + 2 + 4 <= b) W2 W5 /\ _ from ⟨hk5.mono (fun b e => ?_), ⟨v', zs, y3, y2, ?_, fun b hb => ?_⟩, q3, q4, g7.trans (hk5.toBelow g7.size (fun b hb e => ?_))⟩
  ·rcases e with e | e
   ·exact .inl e
   ·exact .inr (g4 b e)
  ·rw [List.map_append]
   have e : [x].map (fun p => (⟨p, qc0 nodes as_ p.x⟩ : Ak)) = [⟨x, sx⟩] := by rw [<- HSX.out]; rfl
   rw [e]
   exact y1.trans (HY.out.append_right _)
  ·rcases y5 with e | ⟨g, e1, e2⟩
   ·rw [e] at hb; exact g4 b hb
   ·rw [e1] at hb; cases hb; have := hB3.size; omega
  ·rcases e with e | e
   ·omega
   ·have := g4 _ e; omega
 case done =>
  rintro A ⟨⟨v, ys, g1, g2, g3, g4⟩, g5, g6, g7⟩ hD
  have hO := hown ys g3
  have hyl : ys.length <= 20 := by
   have := g3.length_eq
   simp at this
   omega
  have hym : ∀ p ∈ ys, p.p ∈ ws ++ as_ := fun p hp => by
   obtain ⟨p', hp', rfl⟩ := List.mem_map.1 (g3.mem_iff.1 hp)
   exact hxm p' hp'
  have hA := h.below g7
  have ho := h.lt (T := fun y => y = w.heap.size + 1 \/ v.ownBlock = some y) (fun b e => by
   rcases e with e | e
   ·omega
   ·have := g4 b e; omega)
  have c1 := g5.cell
  have c2 := g6.cell
  have hGD : GD nodes rr bt r lst w W.heap.size [] vw va ev ws as_ fin k0 A v ys vw va ev ws as_ s0 := ⟨g1, g2, hym, by rw [hev]; exact hA, R, I, HFIN.out.symm, hk0, by rw [hev]; omega, (qbu.refl _ _ _ _ _ _).below g7, ho, fun b hb => by have := g4 b hb; omega, fun _ e => e, g5, g6, hD, fun x hx => by simp at hx⟩
  have hpop := hGD.pop hO
  generalize 2 * k0 + ys.length = q0 at hpop
  clear hown hxm hq g3 HFIN hGD hO g1 g2 g4 hA ho hyl hym R I hev z1 z3 hH1 hbw hD hk0 hk1 hlen
  gi_wp2_with ((first | refine ⟨trivial, hdd _, ?_⟩ | refine ⟨trivial, ?_⟩); gi_at_call 179; refine (callsIn_wide.2 hpop).mono ?_; rintro e A1 ⟨hp1, hi1, sb1, rfl, hG⟩)
  obtain ⟨A2, hA2⟩ : ∃ A2, A2 = A1.alloc (.cells #[.pointer hp1, .int .i64 hi1] 226) := ⟨_, rfl⟩
  have hF : H1 nodes rr bt r lst w W.heap.size [(A1.heap.size, #[.pointer hp1, .int .i64 hi1])] vw va ev ws as_ fin q0 hp1 hi1 sb1 A2 := by
   obtain ⟨k, v1, ys1, vw1, va1, ev1, ws1, as1, s1, hC, hcase⟩ := hG
   exact ⟨k, v1, ys1, vw1, va1, ev1, ws1, as1, s1, hC.mark (by rw [hA2]; exact bel2) (by rw [hA2]; exact Blk.new _ _ _), hcase⟩
  have hwF : w.heap.size <= A1.heap.size := by
   obtain ⟨k, v1, ys1, vw1, va1, ev1, ws1, as1, s1, hC, hcase⟩ := hG
   have := hC.b1.lt; omega
  simp only [<- hA2]
  clear hA2 hG
  generalize A1.heap.size = F0 at hF hwF ⊢
  gi_loopg [4, 5] q0 (fun q v4 v5 wr => ∃ F hp hi sb, v4 = .pointer (some ⟨F, 0, none⟩) /\ v5 = .bool sb /\ w.heap.size <= F /\ H1 nodes rr bt r lst w W.heap.size [(F, #[.pointer hp, .int .i64 hi])] vw va ev ws as_ fin q hp hi sb wr)
  case atStart => exact ⟨F0, hp1, hi1, sb1, rfl, rfl, hwF, hF⟩
  case round =>
   clear hF hwF hpop c1 c2
   obtain ⟨F, hp, hi, sb, rfl, rfl, hwF, k, v1, ys1, vw1, va1, ev1, ws1, as1, s1, hC, hcase⟩ := hrel
   rcases hcase with ⟨rfl, hfs⟩ | ⟨rfl, hqk, a, rfl, rfl, ham, hO, hmin⟩
   ·have HFS : Hid (fin = s1) := hfs
    clear hfs
    gi_wp2_with fail
    have hd := hC.d
    rw [hsz] at hd
    refine ⟨by simp, .inl ⟨_, _, rfl, run_takeDeferred hd, ?_⟩⟩
    have hkD : Keep (fun b => b = w.heap.size + 4) wr (wr.putObj (w.heap.size + 4) (.deferred none)) := (Keep.refl (fun b => b = w.heap.size + 4) _).putObj rfl _
    refine ⟨.tuple #[], by simp [results, Tryz.results131, go_sem], rfl, vw1, va1, ev1, ws1, as1, ?_, ?_, ⟨hC.st.keep.qbo hkD (fun b hb e => by omega), hC.st.new⟩, hC.sub⟩
    ·rw [HFS.out]; exact hC.ld.keep hkD (hC.ld.outD hd)
    ·rw [HFS.out]; exact hC.rel
   ·have hfit := hC.fits T0 hB ham
    have HQ : Hid (2 * k + ys1.length + 1 <= _) := hqk
    have hcl : ∀ W', Below wr.heap.size wr W' -> W'.cell? ⟨w.heap.size, 0, none⟩ = some (.pointer (some ⟨rr, 0, none⟩)) /\ W'.cell? ⟨w.heap.size + 1 + 1, 0, none⟩ = some (.pointer (some ⟨w.heap.size + 1, 0, none⟩)) /\ W'.cell? ⟨F, 0, none⟩ = some (.pointer (some ⟨a.p.blk, 0, none⟩)) /\ W'.cell? ⟨F, 1, none⟩ = some (.int .i64 a.s) := fun W' hW' => ⟨(hC.below hW').b1.cell, (hC.below hW').b3.cell, (hC.below hW').fblk.cell 0, (hC.below hW').fblk.cell 1⟩
    obtain ⟨e1, e2, e3, e4⟩ := hcl wr (Below.refl _ _)
    cases hfw : qbm (nodes.map Node.ent) s1.Ws a.p.x with
    | false =>
     rw [hfw] at hfit
     have hO2 := hO.drop hfw
     have hpn := fun W' (hW' : Below wr.heap.size wr W') => (hC.below hW').popN hO2 #[.pointer (some ⟨a.p.blk, 0, none⟩), .int .i64 a.s]
     clear hO hmin hqk
     gi_wp2_with (first
      | ((first | refine ⟨trivial, hdd _, ?_⟩ | refine ⟨trivial, ?_⟩); gi_at_call 180; refine (callsIn_wide.2 hfit).mono ?_; rintro e w3 ⟨rfl, hb3⟩; obtain ⟨f1, f2, f3, f4⟩ := hcl w3 hb3; have hp3 := hpn w3 hb3; have f5 := (hcl (w3.alloc (.cells #[.pointer (some ⟨a.p.blk, 0, none⟩), .int .i64 a.s] 226)) (hb3.alloc hb3.size _)).2.1)
      | ((first | refine ⟨trivial, hdd _, ?_⟩ | refine ⟨trivial, ?_⟩); gi_at_call 179; refine (callsIn_wide.2 hp3).mono ?_; rintro e A5 ⟨hp5, hi5, sb5, rfl, hG5⟩; have bF := hG5.blk; have cF := bF.cell; have gF := bF.frozen))
     have hG6 := hG5.setF (vs' := #[.pointer hp5, .int .i64 hi5]) (((Keep.refl (fun b => b = w3.heap.size) A5).setCell (p := ⟨w3.heap.size, 0, none⟩) rfl (.pointer hp5)).setCell (p := ⟨w3.heap.size, 1, none⟩) rfl (.int .i64 hi5)) (by have := (bF.set 0 (.pointer hp5)).set 1 (.int .i64 hi5); simpa using this) (by have := hb3.size; have := hC.b1.lt; omega)
     gi_roundg (2 * k + ys1.length)
     case measure => have := HQ.out; omega
     case rel => exact ⟨_, hp5, hi5, sb5, rfl, rfl, by have := hb3.size; have := hC.b1.lt; omega, hG6⟩
    | true =>
     rw [hfw] at hfit
     obtain ⟨s', i, hi', hev', hR', hI', hO', k', rfl, hit', hms', hbd'⟩ := hC.qw4 T0 ham hO hfw hmin
     obtain ⟨n, hn, hnq, hnk⟩ := hC.ld.lf a.p ham
     have hbdE : s1.evs.length <= 10000 := by have := hC.bd; omega
     have hadm := fun W' (hW' : Below wr.heap.size wr W') => (hC.below hW').ld.admit hbdE hi'
     rw [<- hnk] at hO'
     have hm1 : ∀ p ∈ (ws1.take i ++ ws1.drop (i + 1)) ++ (as1 ++ [a.p]), p ∈ ws1 ++ as1 := fun p hp => by
      rcases List.mem_append.1 hp with h1 | h1
      ·exact List.mem_append_left _ (qbb h1)
      ·rcases List.mem_append.1 h1 with h1 | h1
       ·exact List.mem_append_right _ h1
       ·simp at h1; subst h1; exact List.mem_append_left _ (List.mem_of_getElem? hi')
     have hm2 : ∀ p ∈ ws1 ++ as1, p ∈ (ws1.take i ++ ws1.drop (i + 1)) ++ (as1 ++ [a.p]) := fun p hp => by
      rcases List.mem_append.1 hp with h1 | h1
      ·rcases List.mem_cons.1 ((qb0 hi').mem_iff.1 h1) with rfl | h1
       ·simp
       ·exact List.mem_append_left _ h1
      ·exact List.mem_append_right _ (List.mem_append_left _ h1)
     have hgo : ∀ W' W'' vw2 va2 ev2, Below wr.heap.size wr W' -> LdAt W'' nodes rr bt r lst vw2 va2 ev2 (ws1.take i ++ ws1.drop (i + 1)) (as1 ++ [a.p]) (s1.evs ++ [(1, a.p.x.num)]) -> qbu rr bt W' W'' vw1 va1 ev1 vw2 va2 ev2 -> GD nodes rr bt r lst w W.heap.size [(F, #[.pointer (some ⟨a.p.blk, 0, none⟩), .int .i64 a.s])] vw va ev ws as_ fin k' W'' v1 ys1 vw2 va2 ev2 (ws1.take i ++ ws1.drop (i + 1)) (as1 ++ [a.p]) s' := fun W' W'' vw2 va2 ev2 hW' hl hst => (hC.below hW').qng (by rw [hev']; exact hl) hst hm1 hm2 hR' hI' hit' hms' hbd'
     have ham3 : a.p ∈ (ws1.take i ++ ws1.drop (i + 1)) ++ (as1 ++ [a.p]) := by simp
     unfold nptr at hadm
     clear hO hmin hqk hR' hI' hit' hms' hbd' hm1 hm2 hbdE hev' hi'
     generalize ws1.take i ++ ws1.drop (i + 1) = ws3 at hadm hgo ham3
     generalize as1 ++ [a.p] = as3 at hadm hgo ham3
     gi_upto_region 10 with (first
      | ((first | refine ⟨trivial, hdd _, ?_⟩ | refine ⟨trivial, ?_⟩); gi_at_call 180; refine (callsIn_wide.2 hfit).mono ?_; rintro e w3 ⟨rfl, hb3⟩; obtain ⟨f1, f2, f3, f4⟩ := hcl w3 hb3; have hadm3 := hadm w3 hb3)
      | ((first | refine ⟨trivial, hdd _, ?_⟩ | refine ⟨trivial, ?_⟩); gi_at_call 173; refine (callsIn_wide.2 hadm3).mono ?_; rintro e w4 ⟨rfl, vw2, va2, ev2, n1, n2⟩; have hC4 := hgo _ _ _ _ _ hb3 n1 n2; clear hadm3 hadm hgo n1 n2))
     clear hcl e1 e2 e3 e4 f1 f2 f3 f4 hfit
     have hws4 : w.heap.size <= w4.heap.size := by have := hC4.b1.lt; omega
     have hcl : ∀ {k v ys} (W' : World), GD nodes rr bt r lst w W.heap.size [(F, #[.pointer (some ⟨a.p.blk, 0, none⟩), .int .i64 a.s])] vw va ev ws as_ fin k W' v ys vw2 va2 ev2 ws3 as3 s' -> W'.cell? ⟨w.heap.size, 0, none⟩ = some (.pointer (some ⟨rr, 0, none⟩)) /\ W'.cell? ⟨w.heap.size + 1 + 1, 0, none⟩ = some (.pointer (some ⟨w.heap.size + 1, 0, none⟩)) /\ W'.cell? ⟨F, 0, none⟩ = some (.pointer (some ⟨a.p.blk, 0, none⟩)) /\ W'.cell? ⟨F, 1, none⟩ = some (.int .i64 a.s) /\ W'.cell? ⟨rr, 1, none⟩ = some (.pointer (some ⟨bt, 1, none⟩)) /\ W'.cell? ⟨a.p.blk, 1, none⟩ = some (.pointer (some ⟨a.p.q, 0, none⟩)) := fun W' hg => ⟨hg.b1.cell, hg.b3.cell, hg.fblk.cell 0, hg.fblk.cell 1, hg.ld.cells.2.1, (hg.ld.pin ham3).cells.2.1⟩
     obtain ⟨e1, e2, e3, e4, e5, e6⟩ := hcl w4 hC4
     have hhead : ∀ W', Below w4.heap.size w4 W' -> Calls Tryz.prog 174 #[.pointer (some ⟨bt, 1, none⟩), .pointer (some ⟨a.p.q, 0, none⟩)] W' fun e w' => e = .returned (optP (qbl ws3 n.blk)) /\ Below W'.heap.size W' w' := fun W' hW' => by
      have := (hC4.below hW').ld.rw_.head hn
      rw [show a.p.q = n.blk from hnq.symm]; exact this
     have hb4 : ∀ W', Below w4.heap.size w4 W' -> _ := fun W' hW' => hcl W' (hC4.below hW')
     generalize hov : optP (qbl ws3 n.blk) = ov at hhead
     have HOV : Hid (optP (qbl ws3 n.blk) = ov) := hov
     clear hov
     refine wpIn_wide.2 ?_
     go_region_held3 (fun w' => w'.cell? ⟨w.heap.size, 0, none⟩ = some (.pointer (some ⟨rr, 0, none⟩)) /\ w'.cell? ⟨F, 0, none⟩ = some (.pointer (some ⟨a.p.blk, 0, none⟩)) /\ w'.cell? ⟨rr, 1, none⟩ = some (.pointer (some ⟨bt, 1, none⟩)) /\ w'.cell? ⟨a.p.blk, 1, none⟩ = some (.pointer (some ⟨a.p.q, 0, none⟩))) (go_keep)
      (first | (go_at_call 174; refine (hhead _ ?_).mono ?_; (focus exact bel2); rintro e w5 ⟨rfl, hb5⟩; have hB5 : Below w4.heap.size w4 w5 := qac (by exact bel2) hb5; obtain ⟨f1, f2, f3, f4, f5, f6⟩ := hb4 _ hB5))
     have hC5 := hC4.below hB5
     clear hhead hb4 hC4 e1 e2 e3 e4 e5 e6
     have hws5 : w.heap.size <= w5.heap.size := by have := hC5.b1.lt; omega
     have hcl5 : ∀ W', Below w5.heap.size w5 W' -> _ := fun W' hW' => hcl W' (hC5.below hW')
     have hnn := fun W => qd8 (W := W)
     have hnw := fun W (p : Pw) => qgv (W := W) (x := p)
     cases hhp : qbl ws3 n.blk with
     | none =>
      have hp6 := hC5.popN (hC5.qwj T0 hB hn hhp hO') #[.pointer (some ⟨a.p.blk, 0, none⟩), .int .i64 a.s]
      have f7 := (hcl5 (w5.alloc (.cells #[.pointer (some ⟨a.p.blk, 0, none⟩), .int .i64 a.s] 226)) (by exact bel2)).2.1
      have hn5 := hnn w5
      have hov2 : ov = .pointer none := by rw [<- HOV.out, hhp]; rfl
      subst hov2
      clear hcl5 hcl hnn hnw
      gi_wp2_with ((first | refine ⟨trivial, hdd _, ?_⟩ | refine ⟨trivial, ?_⟩); gi_at_call 179; refine (callsIn_wide.2 hp6).mono ?_; rintro e A7 ⟨hp7, hi7, sb7, rfl, hG7⟩; have bF := hG7.blk; have cF := bF.cell; have gF := bF.frozen)
      have hG8 := hG7.setF (vs' := #[.pointer hp7, .int .i64 hi7]) (((Keep.refl (fun b => b = w5.heap.size) A7).setCell (p := ⟨w5.heap.size, 0, none⟩) rfl (.pointer hp7)).setCell (p := ⟨w5.heap.size, 1, none⟩) rfl (.int .i64 hi7)) (by have := (bF.set 0 (.pointer hp7)).set 1 (.int .i64 hi7); simpa using this) hws5
      gi_roundg (2 * k' + ys1.length)
      case measure => have := HQ.out; omega
      case rel => exact ⟨_, hp7, hi7, sb7, rfl, rfl, hws5, hG8⟩
     | some p =>
      obtain ⟨nk, hpk⟩ := hC5.rel.qcu T0 hB hn hhp
      have hpm : p ∈ ws3 ++ as3 := List.mem_append_left _ (qeu hhp)
      have hask : ∀ W', Below w5.heap.size w5 W' -> _ := fun W' hW' => qjh T0 hB (hC5.below hW').ld.rd hr hrk (hC5.below hW').ld.cells.1 ((hC5.below hW').ld.pin hpm)
      have hpu : ∀ W', Below w5.heap.size w5 W' -> _ := fun W' hW' => (hC5.below hW').qs0 T0 hB hn hhp hO'
      have hn5 := hnw w5 p
      generalize qc0 nodes as3 p.x = sx at hask hpu
      unfold akv nptr at hask hpu
      have hov2 : ov = .pointer (some ⟨p.blk, 0, none⟩) := by rw [<- HOV.out, hhp]; rfl
      subst hov2
      clear hnn hnw
      gi_upto_region 12 with fail
      refine wpIn_wide.2 ?_
      go_region_held3 (fun w' => w'.cell? ⟨w.heap.size, 0, none⟩ = some (.pointer (some ⟨rr, 0, none⟩)) /\ w'.cell? ⟨w.heap.size + 1 + 1, 0, none⟩ = some (.pointer (some ⟨w.heap.size + 1, 0, none⟩))) (go_keep)
       (first
       | (go_at_call 178; refine (hask _ ?_).mono ?_; (focus exact bel2); rintro e w6 ⟨rfl, hb6⟩; have hB6 : Below w5.heap.size w5 w6 := qac (by exact bel2) hb6; obtain ⟨g1, g2, g3, g4, g5', g6'⟩ := hcl5 _ hB6)
       | (go_at_call 177; refine (hpu _ ?_).mono ?_; (focus exact bel2); rintro e w7 ⟨rfl, v7, zs7, hz7, hC7, hO7⟩; obtain ⟨j1, j2, j3, j4, j5, j6⟩ := hcl w7 hC7))
      have hp6 := hC7.popN hO7 #[.pointer (some ⟨a.p.blk, 0, none⟩), .int .i64 a.s]
      have f7 := (hcl _ (hC7.below (show Below w7.heap.size w7 (w7.alloc (.cells #[.pointer (some ⟨a.p.blk, 0, none⟩), .int .i64 a.s] 226)) by exact bel2))).2.1
      have hws7 : w.heap.size <= w7.heap.size := by have := hC7.b1.lt; omega
      clear hask hpu hcl5 hcl
      gi_wp2_with ((first | refine ⟨trivial, hdd _, ?_⟩ | refine ⟨trivial, ?_⟩); gi_at_call 179; refine (callsIn_wide.2 hp6).mono ?_; rintro e A7 ⟨hp7, hi7, sb7, rfl, hG7⟩; have bF := hG7.blk; have cF := bF.cell; have gF := bF.frozen)
      have hG8 := hG7.setF (vs' := #[.pointer hp7, .int .i64 hi7]) (((Keep.refl (fun b => b = w7.heap.size) A7).setCell (p := ⟨w7.heap.size, 0, none⟩) rfl (.pointer hp7)).setCell (p := ⟨w7.heap.size, 1, none⟩) rfl (.int .i64 hi7)) (by have := (bF.set 0 (.pointer hp7)).set 1 (.int .i64 hi7); simpa using this) hws7
      gi_roundg (2 * k' + zs7.length)
      case measure => have := HQ.out; omega
      case rel => exact ⟨_, hp7, hi7, sb7, rfl, rfl, hws7, hG8⟩
end
end Go.Proofs.YtphclnolomgjoaaGreatDoor
namespace Go.Proofs.YtphclnolomgjoaaGreatDoor
open Go.RowKit
structure TwAt (W : World) (nodes : List Node) (bt : Nat) (r : Node) (lst vw va : Value) (ws as_ : List Pw) : Prop where
 ins : ∀ n ∈ nodes, qan W n
 bk : BkAt W bt (nptr r.blk) lst vw va ws as_
 lf : ∀ p ∈ ws ++ as_, ∃ n ∈ nodes, n.blk = p.q /\ n.key = p.x.key
 nm : ∀ p ∈ ws ++ as_, (0 <= p.x.d0 /\ p.x.d0 <= 1000) /\ (0 <= p.x.d1 /\ p.x.d1 <= 1000)
theorem TwAt.below {W W' : World} {nodes : List Node} {bt : Nat} {r : Node} {lst vw va : Value} {ws as_ : List Pw} (h : TwAt W nodes bt r lst vw va ws as_) (hb : Below W.heap.size W W') : TwAt W' nodes bt r lst vw va ws as_ :=
 ⟨fun n hn => (h.ins n hn).below hb, h.bk.keep (T := fun _ => False) (Keep.new hb) id (fun _ _ => id) (fun _ _ => id) (fun _ _ => id), h.lf, h.nm⟩
theorem qgk {f : SS -> Option SS} {I : SS -> Prop} (c : Nat) (hI : ∀ s s', I s -> f s = some s' -> I s' /\ s'.evs.length <= s.evs.length + c) : ∀ (n : Nat) (s : SS), I s -> I (iterS f n s) /\ (iterS f n s).evs.length <= s.evs.length + c * n
 | 0, s, h => ⟨h, by simp [iterS]⟩
 | n + 1, s, h => by
  unfold iterS
  cases hf : f s with
  | none => exact ⟨h, Nat.le_add_right _ _⟩
  | some s' =>
   obtain ⟨h1, h2⟩ := hI s s' h hf
   obtain ⟨h3, h4⟩ := qgk c hI n s' h1
   refine ⟨h3, ?_⟩
   have : c * (n + 1) = c * n + c := by rw [Nat.mul_add, Nat.mul_one]
   simp only
   omega
set_option maxRecDepth 100000 in
set_option maxHeartbeats 2000000 in
theorem qr7 {nodes : List Node} (T0 : Tree nodes) (hB : qa7 nodes) {w : World} {bt : Nat} {r : Node} {lst vw va : Value} {ws as_ : List Pw} (h : TwAt w nodes bt r lst vw va ws as_) (hr : r ∈ nodes) (hrk : r.key = []) {s0 : SS} (R : Rel nodes s0.Ws ws as_) (I : SInv s0) (hev : s0.evs = []) :
  Calls Tryz.prog 79 #[nptr r.blk, .pointer (some ⟨bt, 1, none⟩)] w fun e w' => ∃ vw' va' ev' ws' as', e = .returned ev' /\ TwAt w' nodes bt r lst vw' va' ws' as' /\ w'.ownsRow 0 60 2 ev' (qaj (nodes.map Node.ent) s0).evs.length (qai (qaj (nodes.map Node.ent) s0).evs) /\ Rel nodes (qaj (nodes.map Node.ent) s0).Ws ws' as' /\ Keep (BkT bt vw va) w w' /\ (∀ b, vw'.ownBlock = some b \/ va'.ownBlock = some b -> vw.ownBlock = some b \/ va.ownBlock = some b \/ w.heap.size <= b) /\ (∀ b, ev'.ownBlock = some b -> w.heap.size <= b) /\ (∀ p ∈ ws' ++ as', p ∈ ws ++ as_) := by
 obtain ⟨ch, K0⟩ := T0.ch
 have hwl := I.wks.wks.len
 obtain ⟨I1, b1⟩ := qgk (f := ownStep (nodes.map Node.ent)) (I := SInv) 25 (fun s s' hs hf => ⟨(hs.own hf).1, (hs.own hf).2.2.2.2⟩) s0.Ws.length s0 I
 have hL1 : (qa2 (nodes.map Node.ent) s0).evs.length <= 1000 := by
  unfold qa2
  rw [hev] at b1
  have : 25 * s0.Ws.length <= 600 := by omega
  simp at b1
  omega
 have hI1 : SInv (qa2 (nodes.map Node.ent) s0) := I1
 have hset : qaj (nodes.map Node.ent) s0 = iterS (qas (nodes.map Node.ent)) s0.Ws.length (qa2 (nodes.map Node.ent) s0) := rfl
 have hwl1 : (qa2 (nodes.map Node.ent) s0).Ws.length = s0.Ws.length := by
  unfold qa2
  exact qe6 (I := fun s => SInv s /\ s.Ws.length = s0.Ws.length) (fun s s' hs hf => ⟨(hs.1.own hf).1, by rw [(hs.1.own hf).2.2.2.1]; exact hs.2⟩) _ _ ⟨I, rfl⟩ |>.2
 rw [hset]
 have hbt := h.bk.at_.lt
 have hA0 : LdAt (w.alloc (.cells #[nptr r.blk, .pointer (some ⟨bt, 1, none⟩), .slice none 0 0] 188)) nodes w.heap.size bt r lst vw va (.slice none 0 0) ws as_ [] := by
  have hb0 : Below w.heap.size w (w.alloc (.cells #[nptr r.blk, .pointer (some ⟨bt, 1, none⟩), .slice none 0 0] 188)) := by exact bel2
  exact ⟨fun n hn => (h.ins n hn).below hb0, ⟨h.bk.keep (T := fun _ => False) (Keep.new hb0) id (fun _ _ => id) (fun _ _ => id) (fun _ _ => id), ⟨Blk.new _ _ _, ⟨rfl, .inl ⟨rfl, rfl⟩⟩⟩⟩, h.lf, h.nm⟩
 have hgive := ql0 T0 hB K0 hA0 hr hrk R I hev (by simp)
 have hlend := fun W vw' va' ev' ws' as' (hl : LdAt W nodes w.heap.size bt r lst vw' va' ev' ws' as' (qa2 (nodes.map Node.ent) s0).evs) (hR : Rel nodes (qa2 (nodes.map Node.ent) s0).Ws ws' as') => qkt T0 hB K0 hl hr hrk hR hI1 rfl hL1 s0.Ws.length (by rw [<- hwl1]; exact qom _) (by omega)
 generalize iterS (qas (nodes.map Node.ent)) s0.Ws.length (qa2 (nodes.map Node.ent) s0) = fin at hlend ⊢
 generalize qa2 (nodes.map Node.ent) s0 = mid at hgive hlend
 clear hset
 unfold nptr at hgive ⊢
 go_enter Tryz.func79, Tryz.ntmps79
 go_wp2_with fail
 refine hgive.mono ?_
 rintro e w2 ⟨rfl, vw1, va1, ev1, ws1, as1, m1, m2, m3, m4⟩
 have hl2 := hlend _ _ _ _ _ _ m1 m2
 clear hgive hlend
 go_wp2_with fail
 refine hl2.mono ?_
 rintro e w3 ⟨rfl, vw2, va2, ev2, ws2, as2, n1, n2, n3, n4⟩
 have c2 := n1.cells.2.2.1
 clear hl2
 go_wp2_with fail
 go_ret
 have hst := m3.trans n3
 have hb0 : Below w.heap.size w (w.alloc (.cells #[.pointer (some ⟨r.blk, 0, none⟩), .pointer (some ⟨bt, 1, none⟩), .slice none 0 0] 188)) := by exact bel2
 refine ⟨vw2, va2, ev2, ws2, as2, rfl, ⟨n1.ins, n1.ld.bk, n1.lf, n1.nm⟩, n1.ld.rnd.row, n2, (Keep.new hb0).qbo hst.keep (fun b hb e => ?_), fun b e => ?_, fun b e => ?_, fun p hp => m4 p (n4 p hp)⟩
 ·rcases e with e | e | e
  ·omega
  ·exact e
  ·cases e
 ·rcases hst.new.bk b e with e | e | e
  ·exact .inl e
  ·exact .inr (.inl e)
  ·simp at e; exact .inr (.inr (by omega))
 ·rcases hst.new.ev b e with e | e
  ·cases e
  ·simp at e; omega
set_option maxRecDepth 100000 in
set_option maxHeartbeats 2000000 in
theorem qf6 {nodes : List Node} (T0 : Tree nodes) (hB : qa7 nodes) {w : World} {bt : Nat} {r : Node} {lst vw va : Value} {ws as_ : List Pw} (h : TwAt w nodes bt r lst vw va ws as_) (hr : r ∈ nodes) (hrk : r.key = []) {s0 : SS} (R : Rel nodes s0.Ws ws as_) (I : SInv s0) (hev : s0.evs = []) :
  Calls Tryz.prog 51 #[.pointer (some ⟨bt, 0, none⟩), .int .i64 0] w fun e w' => ∃ vw' va' ev' ws' as', e = .returned (.tuple #[ev', .int .i64 0]) /\ TwAt w' nodes bt r lst vw' va' ws' as' /\ w'.ownsRow 0 60 2 ev' (qaj (nodes.map Node.ent) s0).evs.length (qai (qaj (nodes.map Node.ent) s0).evs) /\ Rel nodes (qaj (nodes.map Node.ent) s0).Ws ws' as' /\ Keep (BkT bt vw va) w w' /\ (∀ b, vw'.ownBlock = some b \/ va'.ownBlock = some b -> vw.ownBlock = some b \/ va.ownBlock = some b \/ w.heap.size <= b) /\ (∀ b, ev'.ownBlock = some b -> w.heap.size <= b) /\ (∀ p ∈ ws' ++ as', p ∈ ws ++ as_) := by
 have hlook := fun W (hW : Below w.heap.size w W) => (qr7 T0 hB (h.below hW) hr hrk R I hev).mono (R' := fun e w' => ∃ vw' va' ev' ws' as', e = .returned ev' /\ w'.cell? ⟨bt, 0, none⟩ = some (.pointer (some ⟨r.blk, 0, none⟩)) /\ TwAt w' nodes bt r lst vw' va' ws' as' /\ w'.ownsRow 0 60 2 ev' (qaj (nodes.map Node.ent) s0).evs.length (qai (qaj (nodes.map Node.ent) s0).evs) /\ Rel nodes (qaj (nodes.map Node.ent) s0).Ws ws' as' /\ Keep (BkT bt vw va) w w' /\ (∀ b, vw'.ownBlock = some b \/ va'.ownBlock = some b -> vw.ownBlock = some b \/ va.ownBlock = some b \/ w.heap.size <= b) /\ (∀ b, ev'.ownBlock = some b -> w.heap.size <= b) /\ (∀ p ∈ ws' ++ as', p ∈ ws ++ as_)) (fun e w' ⟨vw', va', ev', ws', as', h1, h2, h3, h4, h5, h6, h7, h8⟩ => ⟨vw', va', ev', ws', as', h1, h2.bk.at_.cell 0, h2, h3, h4, (Keep.new hW).trans h5, fun b e => (h6 b e).imp id (fun e => e.imp id (fun e => Nat.le_trans hW.size e)), fun b e => Nat.le_trans hW.size (h7 b e), h8⟩)
 have c0 := h.bk.at_.cell 0
 simp only [List.getElem?_toArray, List.getElem?_cons_zero] at c0
 generalize qaj (nodes.map Node.ent) s0 = fin at hlook ⊢
 unfold nptr at hlook c0
 go_enter Tryz.func51, Tryz.ntmps51
 go_upto_region 3 with fail
 go_region_held3 (fun w' => w'.cell? ⟨bt, 0, none⟩ = some (.pointer (some ⟨r.blk, 0, none⟩))) (go_keep)
  (first | (go_at_call 79; refine (hlook _ ?_).mono ?_; (focus exact bel2); rintro e w2 ⟨vw2, va2, ev2, ws2, as2, rfl, c2, m1⟩))
 clear hlook
 go_wp2_with fail
 exact bodyPost_ret (v := .tuple #[ev2, .int .i64 0]) (by simp [results, Tryz.results51, go_sem]) rfl ⟨_, _, _, _, _, rfl, m1⟩
set_option maxRecDepth 100000 in
set_option maxHeartbeats 2000000 in
theorem qgg {w : World} {bt : Nat} {x : Int} (hx : x ≠ 0) :
  Calls Tryz.prog 51 #[.pointer (some ⟨bt, 0, none⟩), .int .i64 x] w fun e w' => e = .returned (.tuple #[.slice none 0 0, .int .i64 x]) /\ w' = w := by
 have hx2 : (x == 0) = false := by simp [hx]
 go_enter Tryz.func51, Tryz.ntmps51
 go_wp2_with fail
 exact bodyPost_ret (v := .tuple #[.slice none 0 0, .int .i64 x]) (by simp [results, Tryz.results51, go_sem]) rfl ⟨rfl, rfl⟩
end Go.Proofs.YtphclnolomgjoaaGreatDoor
