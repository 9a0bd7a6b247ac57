import Derived.Test.YtphclnolomgjoaaGreatDoorC06
import Derived.Test.YtphclnolomgjoaaGreatDoorC22
import Derived.Test.YtphclnolomgjoaaGreatDoorC20
import Derived.Sort.CutIn
set_option linter.unusedVariables false
set_option linter.unusedSimpArgs false
namespace Go.Proofs.YtphclnolomgjoaaGreatDoor
open Go.RowKit Go.Shelf
attribute [local go_sem] Oper.semAt_some
set_option maxRecDepth 100000 in
set_option maxHeartbeats 2000000 in
theorem qug {nodes : List Node} (T : Tree nodes) (hB : qa7 nodes) {w : World} {bt rr : Nat} {va : Value} {l : List Pw} (h : Rd w nodes bt rr va l) {p q : Pw} (hp : PwIn w nodes p) (hq : PwIn w nodes q) {n m : Node} (hn : n ∈ nodes) (hnq : n.blk = p.q) (hm : m ∈ nodes) (hmq : m.blk = q.q) (hmk : m.key = q.x.key) :
  Calls Tryz.prog 231 #[.pointer (some ⟨rr, 0, none⟩), nptr q.blk, nptr p.blk] w fun e w' => e = .returned (.bool ((ups nodes 4 n).any (qgt nodes l p.x q.x))) /\ Below w.heap.size w w' := by
 have hdd : ∀ k : Nat, Fence.wide.depth.isSome = true -> 1 <= k := fun k h => by simp [Fence.wide] at h
 have hup : ∀ W, (∀ n ∈ nodes, qan W n) -> _ := fun W hW => qrs T hn W hW
 have hmem := qhy T 4 n hn (T.ok n hn).2
 have hpl := hp.at_.lt
 have hql := hq.at_.lt
 have hpc := fun W (hW : Below w.heap.size w W) => (hp.below hW).cells.2
 have hqc := fun W (hW : Below w.heap.size w W) => (hq.below hW).cells.2
 have hus := fun W (hW : Below w.heap.size w W) => (h.below hW).qvn T hB hm
 have hno := fun W (hW : Below w.heap.size w W) => qcz T hm W (h.below hW).ins
 have hbk := fun W (hW : Below w.heap.size w W) => (h.below hW).bk
 have hrr : rr < w.heap.size := World.block_lt_of_cell? _ _ h.bk
 have ubd := h.ubd m.key
 have nbd := qna T m.key
 have HO : Hid (∀ x : Node, qgt nodes l p.x q.x x = (x.key.isPrefixOf m.key && !((min (min (shq0 nodes l x p.x.d0) (abv (ws0 (pun l m.key)) (pn0 nodes m.key))) q.x.d0 == 0) && (min (min (shq1 nodes l x p.x.d1) (abv (ws1 (pun l m.key)) (pn1 nodes m.key))) q.x.d1 == 0)))) := fun x => by rw [hmk]; rfl
 rw [hnq] at hup
 rw [hmq] at hus hno
 generalize ws0 (pun l m.key) = u0 at *
 generalize ws1 (pun l m.key) = u1 at *
 generalize pn0 nodes m.key = n0 at *
 generalize pn1 nodes m.key = n1 at *
 have habv := fun W => qhu u0 u1 n0 n1 W (by omega) (by omega) (by omega) (by omega) (by omega) (by omega) (by omega) (by omega)
 have bbd : (0 <= abv u0 n0 /\ abv u0 n0 <= 100000) /\ (0 <= abv u1 n1 /\ abv u1 n1 <= 100000) := by unfold abv; omega
 generalize abv u0 n0 = o0 at *
 generalize abv u1 n1 = o1 at *
 generalize hX : ups nodes 4 n = X at hup hmem ⊢
 refine (callsIn_wide (n := 3)).1 ?_
 refine callsIn_of_wp_marks Tryz.func231 rfl trivial ?_ rfl
 unfold nptr at hup hus hno ⊢
 simp only [Tryz.ntmps231, List.size_toArray, List.length_cons, List.length_nil, Nat.reduceAdd, Nat.reduceSub, Array.replicate_succ, Array.replicate_zero, List.push_toArray, List.append_toArray, List.nil_append, List.cons_append]
 gi_upto_region 1 with fail
 obtain ⟨W0, hW0⟩ : ∃ W0, W0 = ((((w.alloc (.cells #[.pointer (some ⟨rr, 0, none⟩)] 186)).alloc (.cells #[.pointer (some ⟨q.blk, 0, none⟩)] 95)).alloc (.cells #[.pointer (some ⟨p.blk, 0, none⟩)] 95)).alloc (.cells #[.bool false] 4)) := ⟨_, rfl⟩
 have hB0 : Below w.heap.size w W0 := by rw [hW0]; exact bel1
 have x1 : Box W0 w.heap.size 186 (.pointer (some ⟨rr, 0, none⟩)) := by rw [hW0]; exact (((Box.new w 186 _).alloc _).alloc _).alloc _
 have x2 : Box W0 (w.heap.size + 1) 95 (.pointer (some ⟨q.blk, 0, none⟩)) := by
  have := ((Box.new (w.alloc (.cells #[.pointer (some ⟨rr, 0, none⟩)] 186)) 95 (.pointer (some ⟨q.blk, 0, none⟩))).alloc (.cells #[.pointer (some ⟨p.blk, 0, none⟩)] 95)).alloc (.cells #[.bool false] 4)
  rw [World.size_alloc] at this; rw [hW0]; exact this
 have x3 : Box W0 (w.heap.size + 1 + 1) 95 (.pointer (some ⟨p.blk, 0, none⟩)) := by
  have := (Box.new ((w.alloc (.cells #[.pointer (some ⟨rr, 0, none⟩)] 186)).alloc (.cells #[.pointer (some ⟨q.blk, 0, none⟩)] 95)) 95 (.pointer (some ⟨p.blk, 0, none⟩))).alloc (.cells #[.bool false] 4)
  rw [World.size_alloc, World.size_alloc] at this; rw [hW0]; exact this
 have x4 : Box W0 (w.heap.size + 1 + 1 + 1) 4 (.bool false) := by
  have := Box.new (((w.alloc (.cells #[.pointer (some ⟨rr, 0, none⟩)] 186)).alloc (.cells #[.pointer (some ⟨q.blk, 0, none⟩)] 95)).alloc (.cells #[.pointer (some ⟨p.blk, 0, none⟩)] 95)) 4 (.bool false)
  rw [World.size_alloc, World.size_alloc, World.size_alloc] at this; rw [hW0]; exact this
 have hs0 : W0.heap.size = w.heap.size + 4 := by rw [hW0]; simp
 rw [<- hW0]
 clear hW0
 have hrd : ∀ W, Below W0.heap.size W0 W -> W.cell? ⟨rr, 1, none⟩ = some (.pointer (some ⟨bt, 1, none⟩)) /\ W.cell? ⟨w.heap.size, 0, none⟩ = some (.pointer (some ⟨rr, 0, none⟩)) /\ W.cell? ⟨w.heap.size + 1, 0, none⟩ = some (.pointer (some ⟨q.blk, 0, none⟩)) /\ W.cell? ⟨q.blk, 1, none⟩ = some (.pointer (some ⟨q.q, 0, none⟩)) := fun W hW => ⟨hbk _ (qac hB0 hW), (x1.below hW x1.lt).cell, (x2.below hW x2.lt).cell, (hqc _ (qac hB0 hW)).1⟩
 obtain ⟨r1, r2, r3, r4⟩ := hrd W0 (Below.refl _ _)
 have d0a : ¬ (rr = W0.heap.size) := (by omega)
 have d0b : ¬ (W0.heap.size = rr) := (by omega)
 have d1a : ¬ (w.heap.size = W0.heap.size) := (by omega)
 have d1b : ¬ (W0.heap.size = w.heap.size) := (by omega)
 have d2a : ¬ (w.heap.size + 1 = W0.heap.size) := (by omega)
 have d2b : ¬ (W0.heap.size = w.heap.size + 1) := (by omega)
 have d3a : ¬ (q.blk = W0.heap.size) := (by omega)
 have d3b : ¬ (W0.heap.size = q.blk) := (by omega)
 have hs1 : w.heap.size + 4 <= W0.heap.size := by omega
 have HS0 : Hid (W0.heap.size = w.heap.size + 4) := hs0
 clear hs0
 refine wpIn_wide.2 ?_
 go_cut [7] from 10 to 25 (fun c wx => ∃ b7, c = .pointer (some ⟨b7, 0, none⟩) /\ Below W0.heap.size W0 wx /\ Blk wx b7 35 #[.int .i64 o0, .int .i64 o1] /\ W0.heap.size <= b7)
 case first =>
  go_region_held3 (fun w' => w'.cell? ⟨rr, 1, none⟩ = some (.pointer (some ⟨bt, 1, none⟩)) /\ w'.cell? ⟨w.heap.size, 0, none⟩ = some (.pointer (some ⟨rr, 0, none⟩)) /\ w'.cell? ⟨w.heap.size + 1, 0, none⟩ = some (.pointer (some ⟨q.blk, 0, none⟩)) /\ w'.cell? ⟨q.blk, 1, none⟩ = some (.pointer (some ⟨q.q, 0, none⟩))) (go_keep)
   (first
   | (go_at_call 106; refine (hus _ (qac hB0 ?_)).mono ?_; (focus exact bel2); rintro e w1 ⟨rfl, hb1⟩; have hB1 : Below W0.heap.size W0 w1 := qac (by exact bel2) hb1; obtain ⟨s1, s2, s3, s4⟩ := hrd _ hB1; have hz1 := hB1.size; have m0a : ¬ (rr = w1.heap.size) := (by omega); have m0b : ¬ (w1.heap.size = rr) := (by omega); have m1a : ¬ (w.heap.size = w1.heap.size) := (by omega); have m1b : ¬ (w1.heap.size = w.heap.size) := (by omega); have m2a : ¬ (w.heap.size + 1 = w1.heap.size) := (by omega); have m2b : ¬ (w1.heap.size = w.heap.size + 1) := (by omega); have m3a : ¬ (q.blk = w1.heap.size) := (by omega); have m3b : ¬ (w1.heap.size = q.blk) := (by omega); (try (have b71 : Blk w1 W0.heap.size 35 #[.int .i64 0, .int .i64 0] := Blk.below (by first | (with_reducible exact Blk.new' (by simp)) | (with_reducible exact Blk.drew (Blk.new' (by simp)))) hb1 (by simp))))
   | (go_at_call 85; refine (hno _ (qac hB0 ?_)).mono ?_; (focus exact bel2); rintro e w2 ⟨rfl, hb2⟩; have hB2 : Below W0.heap.size W0 w2 := qac (by exact bel2) hb2; obtain ⟨t1, t2, t3, t4⟩ := hrd _ hB2; have hz2 := hB2.size; have q0a : ¬ (rr = w2.heap.size) := (by omega); have q0b : ¬ (w2.heap.size = rr) := (by omega); have q1a : ¬ (w.heap.size = w2.heap.size) := (by omega); have q1b : ¬ (w2.heap.size = w.heap.size) := (by omega); have q2a : ¬ (w.heap.size + 1 = w2.heap.size) := (by omega); have q2b : ¬ (w2.heap.size = w.heap.size + 1) := (by omega); have q3a : ¬ (q.blk = w2.heap.size) := (by omega); have q3b : ¬ (w2.heap.size = q.blk) := (by omega); (try (have b72 : Blk w2 W0.heap.size 35 #[.int .i64 0, .int .i64 0] := Blk.below (by with_reducible exact b71) hb2 (by have := b71.lt; omega))); (try (have b72 : Blk w2 w1.heap.size 35 #[.int .i64 0, .int .i64 0] := Blk.below (by first | (with_reducible exact Blk.new' (by simp)) | (with_reducible exact Blk.drew (Blk.new' (by simp)))) hb2 (by simp))))
   | (go_at_call 189; refine (habv _).mono ?_; rintro e w3 ⟨rfl, hb3⟩; have hB3 : Below W0.heap.size W0 w3 := qac (by exact bel2) hb3; obtain ⟨v1, v2, v3, v4⟩ := hrd _ hB3; have hz3 := hB3.size; have p0a : ¬ (rr = w3.heap.size) := (by omega); have p0b : ¬ (w3.heap.size = rr) := (by omega); have p1a : ¬ (w.heap.size = w3.heap.size) := (by omega); have p1b : ¬ (w3.heap.size = w.heap.size) := (by omega); have p2a : ¬ (w.heap.size + 1 = w3.heap.size) := (by omega); have p2b : ¬ (w3.heap.size = w.heap.size + 1) := (by omega); have p3a : ¬ (q.blk = w3.heap.size) := (by omega); have p3b : ¬ (w3.heap.size = q.blk) := (by omega); (try (have b73 : Blk w3 W0.heap.size 35 #[.int .i64 0, .int .i64 0] := Blk.below (by with_reducible exact b72) hb3 (by have := b72.lt; omega); have c7 := b73.cell; have g7 := b73.frozen)); (try (have b73 : Blk w3 w1.heap.size 35 #[.int .i64 0, .int .i64 0] := Blk.below (by with_reducible exact b72) hb3 (by have := b72.lt; omega); have c7 := b73.cell; have g7 := b73.frozen)); (try (have b73 : Blk w3 w2.heap.size 35 #[.int .i64 0, .int .i64 0] := Blk.below (by first | (with_reducible exact Blk.new' (by simp)) | (with_reducible exact Blk.drew (Blk.new' (by simp)))) hb3 (by simp); have c7 := b73.cell; have g7 := b73.frozen))))
  all_goals go_wp2_with fail
  ·go_meet
   exact ⟨_, rfl, hB3.alloc hz3 _, Blk.new' rfl, hz3⟩
  ·go_meet
   exact ⟨_, rfl, qbk hB3 (by omega) .., qc4 b73 .., by omega⟩
  ·go_meet
   exact ⟨_, rfl, qbk hB3 (by omega) .., qc4 b73 .., by omega⟩
  ·go_meet
   exact ⟨_, rfl, qbk hB3 (by omega) .., qc4 b73 .., by omega⟩
 case rest =>
  obtain ⟨b7, rfl, hBc, b7c, hlt7⟩ := hcut
  clear r1 r2 r3 r4 hus hno habv hrd d0a d0b d1a d1b d2a d2b d3a d3b ubd nbd
  have hBw : Below w.heap.size w wc := qac hB0 hBc
  have y1 := x1.below hBc x1.lt
  have y2 := x2.below hBc x2.lt
  have y3 := x3.below hBc x3.lt
  have y4 := x4.below hBc x4.lt
  have c3 := y3.cell
  obtain ⟨e1, _, _⟩ := hpc _ hBw
  gi_wp2_with ((first | refine ⟨trivial, hdd _, ?_⟩ | refine ⟨trivial, ?_⟩); gi_at_call 191; refine (callsIn_wide.2 (hup _ (fun n hn => (h.ins n hn).below hBw))).mono ?_; rintro e W ⟨rfl, rfl, hseq⟩)
  obtain ⟨W, hW⟩ : ∃ W, W = wc.alloc (.cells #[.pointer (some ⟨p.q, 0, none⟩)] 97) := ⟨_, rfl⟩
  have hszc : w.heap.size + 4 <= wc.heap.size := by have := hBc.size; omega
  have hsz : W.heap.size = wc.heap.size + 1 := by rw [hW]; simp
  have z1 : Box W w.heap.size 186 (.pointer (some ⟨rr, 0, none⟩)) := by rw [hW]; exact y1.alloc _
  have z2 : Box W (w.heap.size + 1) 95 (.pointer (some ⟨q.blk, 0, none⟩)) := by rw [hW]; exact y2.alloc _
  have z3 : Box W (w.heap.size + 1 + 1) 95 (.pointer (some ⟨p.blk, 0, none⟩)) := by rw [hW]; exact y3.alloc _
  have z4 : Box W (w.heap.size + 1 + 1 + 1) 4 (.bool false) := by rw [hW]; exact y4.alloc _
  have z7 : Blk W b7 35 #[.int .i64 o0, .int .i64 o1] := by rw [hW]; exact b7c.alloc _
  have hbw : Below w.heap.size w W := by rw [hW]; exact hBw.alloc hBw.size _
  have hl7 := b7c.lt
  simp only [<- hW] at hseq ⊢
  have hq2 := hseq (fun b => b = w.heap.size + 1 + 1 + 1 \/ W.heap.size <= b) (fun k hk => ⟨fun e => by have := (h.ins k hk).lt; omega, fun g hg e => by have := ((h.ins k hk).row.lt g hg).2; omega⟩)
  clear hseq hup hW x1 x2 x3 x4 y1 y2 y3 y4 c3 e1 b7c
  have hno : ∀ b, b < W.heap.size -> ¬ (False \/ W.heap.size <= b) := fun b hb e => by rcases e with e | e; exact e; omega
  refine qgy (T := fun b => b = w.heap.size + 1 + 1 + 1) (S := fun _ => False) rfl (enters_of Tryz.func223 (by kernel_rfl) rfl) hq2 (Below.refl _ _) rfl (fun b e => e.elim) (fun b e => by omega)
   (fun pre A => pre.any (qgt nodes l p.x q.x) = false /\ (Box A w.heap.size 186 (.pointer (some ⟨rr, 0, none⟩)) /\ Box A (w.heap.size + 1) 95 (.pointer (some ⟨q.blk, 0, none⟩)) /\ Box A (w.heap.size + 1 + 1) 95 (.pointer (some ⟨p.blk, 0, none⟩)) /\ Box A (w.heap.size + 1 + 1 + 1) 4 (.bool false) /\ Blk A b7 35 #[.int .i64 o0, .int .i64 o1]) /\ Below w.heap.size w A)
   (fun c pre A => c = .ret /\ pre.any (qgt nodes l p.x q.x) = true /\ Box A (w.heap.size + 1 + 1 + 1) 4 (.bool true) /\ Below w.heap.size w A)
   (fun pre A B hs hk => ⟨hs.1, ⟨hs.2.1.1.keep hk (hno _ (by omega)), hs.2.1.2.1.keep hk (hno _ (by omega)), hs.2.1.2.2.1.keep hk (hno _ (by omega)), hs.2.1.2.2.2.1.keep hk (hno _ (by omega)), hs.2.1.2.2.2.2.keep hk (hno _ (by omega))⟩, hs.2.2.trans (hk.toBelow hs.2.2.size (fun b hb' => hno b (by omega)))⟩)
   (fun c pre A B hs hk => ⟨hs.1, hs.2.1, hs.2.2.1.keep hk (hno _ (by omega)), hs.2.2.2.trans (hk.toBelow hs.2.2.2.size (fun b hb' => hno b (by omega)))⟩)
   ⟨rfl, ⟨z1, z2, z3, z4, z7⟩, hbw⟩
   (fun x => { tmps := #[.pointer (some ⟨rr, 0, none⟩), .pointer (some ⟨q.blk, 0, none⟩), .pointer (some ⟨p.blk, 0, none⟩), .pointer (some ⟨w.heap.size, 0, none⟩), .pointer (some ⟨w.heap.size + 1, 0, none⟩), .pointer (some ⟨w.heap.size + 1 + 1, 0, none⟩), .pointer (some ⟨w.heap.size + 1 + 1 + 1, 0, none⟩), .pointer (some ⟨b7, 0, none⟩), .pointer (some ⟨x.blk, 0, none⟩), undef, u10, u11, u12, u13, u14, u15, u16, u17, u18, u19, u20, u21, u22, u23, u24, .pointer (some ⟨p.blk, 0, none⟩), .pointer (some ⟨p.blk, 0, none⟩), .pointer (some ⟨p.blk, 1, none⟩), .pointer (some ⟨p.q, 0, none⟩), .func (.func 223) #[] #[.pointer (some ⟨wc.heap.size, 0, none⟩)], .pointer (some ⟨x.blk, 0, none⟩), undef, undef, undef, undef, undef, undef, undef, undef, undef, undef, undef, undef, undef, undef, undef, undef, undef, undef, undef, undef, undef, undef, undef, undef, undef], defers := [] }) ?assign ?body ?done ?stop
  case assign =>
   intro l x W K hK
   gi_wp2
   exact hK
  case body =>
   rintro l2 pre x W2 ⟨hall, ⟨k1, k2, k3, k4, k7⟩, hbel⟩ hszW hpre
   have hxm := ((hmem x).1 (hpre.subset (by simp))).1
   have hsx2 : ∀ W, Below w.heap.size w W -> Calls Tryz.prog 216 #[.pointer (some ⟨rr, 0, none⟩), .pointer (some ⟨x.blk, 0, none⟩), .agg #[.int .i64 p.x.d0, .int .i64 p.x.d1]] W fun e w' => e = .returned (.agg #[.int .i64 (shq0 nodes l x p.x.d0), .int .i64 (shq1 nodes l x p.x.d1)]) /\ Below W.heap.size W w' := fun W hW => qjp T hB (h.below hW) hxm p.x.d0 p.x.d1 hp.num.1 hp.num.2
   have hin : ∀ W, Below w.heap.size w W -> Calls Tryz.prog 142 #[.pointer (some ⟨q.q, 0, none⟩), .pointer (some ⟨x.blk, 0, none⟩)] W fun e w' => e = .returned (.bool (x.key.isPrefixOf m.key)) /\ Below W.heap.size W w' := fun W hW => by
    have := qsg T hB hm hxm W (h.below hW).ins
    rw [hmq] at this; exact this
   have sbd : (0 <= shq0 nodes l x p.x.d0 /\ shq0 nodes l x p.x.d0 <= 100000) /\ (0 <= shq1 nodes l x p.x.d1 /\ shq1 nodes l x p.x.d1 <= 100000) := by
    have u1 := h.ubd x.key
    have u2 := qna T x.key
    have u3 := T.num x hxm
    have u4 := hp.num
    unfold shq0 shq1 abv
    omega
   have HOX : Hid (qgt nodes l p.x q.x x = _) := HO.out x
   generalize shq0 nodes l x p.x.d0 = s0 at hsx2 HOX sbd
   generalize shq1 nodes l x p.x.d1 = s1 at hsx2 HOX sbd
   generalize x.key.isPrefixOf m.key = inb at hin HOX
   have hqn := hq.num
   have hle := fun W sb (hs : Blk W sb 35 #[.int .i64 o0, .int .i64 o1, .int .i64 q.x.d0, .int .i64 q.x.d1]) => qqo s0 s1 o0 o1 q.x.d0 q.x.d1 W hs (by omega) (by omega) (by omega) (by omega) (by omega) (by omega) (by omega) (by omega) (by omega) (by omega) (by omega) (by omega)
   generalize min (min s0 o0) q.x.d0 = e0 at hle HOX
   generalize min (min s1 o1) q.x.d1 = e1 at hle HOX
   have hneq := fun W => qwk e0 e1 0 0 W
   have HALL : Hid (pre.any (qgt nodes l p.x q.x) = false) := hall
   have l1 := k1.lt
   have l2' := k2.lt
   have l3 := k3.lt
   have l4 := k4.lt
   have l7 := k7.lt
   have lp := (hp.below hbel).at_.lt
   have lq := (hq.below hbel).at_.lt
   obtain ⟨p1, p2, p3⟩ := hpc _ hbel
   obtain ⟨q1, q2, q3⟩ := hqc _ hbel
   have hmix : Tryz.prog.follows .mixedOrders = true := by kernel_rfl
   clear hall hmem hq2 hpre hdd HO
   have hS4 : ∀ W', Below W2.heap.size W2 W' -> W'.cell? ⟨w.heap.size, 0, none⟩ = some (.pointer (some ⟨rr, 0, none⟩)) /\ W'.cell? ⟨w.heap.size + 1 + 1, 0, none⟩ = some (.pointer (some ⟨p.blk, 0, none⟩)) /\ W'.cell? ⟨p.blk, 2, none⟩ = some (.int .i64 p.x.d0) /\ W'.cell? ⟨p.blk, 3, none⟩ = some (.int .i64 p.x.d1) /\ Below W2.heap.size W2 W' := fun W' hW' => ⟨(k1.below hW' l1).cell, (k3.below hW' l3).cell, (hW'.cell (p := ⟨p.blk, 2, none⟩) lp).trans p2, (hW'.cell (p := ⟨p.blk, 3, none⟩) lp).trans p3, hW'⟩
   have hend0 : ∀ W', Below W2.heap.size W2 W' -> ∃ (_ : Box W' (w.heap.size + 1 + 1 + 1) 4 (.bool false)), (Box W' w.heap.size 186 (.pointer (some ⟨rr, 0, none⟩)) /\ Box W' (w.heap.size + 1) 95 (.pointer (some ⟨q.blk, 0, none⟩)) /\ Box W' (w.heap.size + 1 + 1) 95 (.pointer (some ⟨p.blk, 0, none⟩)) /\ Box W' (w.heap.size + 1 + 1 + 1) 4 (.bool false) /\ Blk W' b7 35 #[.int .i64 o0, .int .i64 o1]) := fun W' hW' => ⟨k4.below hW' l4, k1.below hW' l1, k2.below hW' l2', k3.below hW' l3, k4.below hW' l4, k7.below hW' l7⟩
   have HS4 : Hid (∀ W', Below W2.heap.size W2 W' -> W'.cell? ⟨w.heap.size, 0, none⟩ = some (.pointer (some ⟨rr, 0, none⟩)) /\ W'.cell? ⟨w.heap.size + 1 + 1, 0, none⟩ = some (.pointer (some ⟨p.blk, 0, none⟩)) /\ W'.cell? ⟨p.blk, 2, none⟩ = some (.int .i64 p.x.d0) /\ W'.cell? ⟨p.blk, 3, none⟩ = some (.int .i64 p.x.d1) /\ Below W2.heap.size W2 W') := hS4
   gi_upto_region 4 with fail
   refine wpIn_mono (Q := Exit.then (fun a4 W4 => ∃ b9 : Nat, a4 = { tmps := #[.pointer (some ⟨rr, 0, none⟩), .pointer (some ⟨q.blk, 0, none⟩), .pointer (some ⟨p.blk, 0, none⟩), .pointer (some ⟨w.heap.size, 0, none⟩), .pointer (some ⟨w.heap.size + 1, 0, none⟩), .pointer (some ⟨w.heap.size + 1 + 1, 0, none⟩), .pointer (some ⟨w.heap.size + 1 + 1 + 1, 0, none⟩), .pointer (some ⟨b7, 0, none⟩), .pointer (some ⟨x.blk, 0, none⟩), .pointer (some ⟨b9, 0, none⟩), u10, u11, u12, u13, u14, u15, u16, u17, u18, u19, u20, u21, u22, u23, u24, .pointer (some ⟨p.blk, 0, none⟩), .pointer (some ⟨p.blk, 0, none⟩), .pointer (some ⟨p.blk, 1, none⟩), .pointer (some ⟨p.q, 0, none⟩), .func (.func 223) #[] #[.pointer (some ⟨wc.heap.size, 0, none⟩)], .pointer (some ⟨x.blk, 0, none⟩), .pointer (some ⟨rr, 0, none⟩), .pointer (some ⟨x.blk, 0, none⟩), .pointer (some ⟨p.blk, 0, none⟩), .pointer (some ⟨p.blk, 0, none⟩), .pointer (some ⟨p.blk, 2, none⟩), .agg #[.int .i64 p.x.d0, .int .i64 p.x.d1], .agg #[.int .i64 s0, .int .i64 s1], undef, undef, undef, undef, undef, undef, undef, undef, undef, undef, undef, undef, undef, undef, undef, undef, undef, undef], defers := [] } /\ Below W2.heap.size W2 W4 /\ Blk W4 b9 35 #[.int .i64 s0, .int .i64 s1] /\ W2.heap.size <= b9) (fun _ _ _ => False)) ?r4 ?r5
   case r4 =>
    refine qdk (fun W' => W'.cell? ⟨w.heap.size, 0, none⟩ = some (.pointer (some ⟨rr, 0, none⟩)) /\ W'.cell? ⟨w.heap.size + 1 + 1, 0, none⟩ = some (.pointer (some ⟨p.blk, 0, none⟩)) /\ W'.cell? ⟨p.blk, 2, none⟩ = some (.int .i64 p.x.d0) /\ W'.cell? ⟨p.blk, 3, none⟩ = some (.int .i64 p.x.d1) /\ Below W2.heap.size W2 W') (by kernel_rfl) (by kernel_rfl) (hS4 _ (by exact bel2)) (fun hS => ?_)
    refine wpAnyH_take (i := 0) (v := .pointer (some ⟨rr, 0, none⟩)) rfl (by kernel_rfl) (by kernel_rfl) (by kernel_rfl) (fun _ _ _ h => absurd h.1 (by intro e; cases e)) (Or.inl ⟨by rfl, ?_⟩) hS ?_
    ·intro w' hS'
     obtain ⟨s1, s2, s3, s4, s5⟩ := hS'
     go_simp
    try simp only [List.getElem_toArray, List.getElem_cons_zero, List.getElem_cons_succ, Act.put, List.setIfInBounds_toArray, List.set_cons_zero, List.set_cons_succ]
    refine wpAnyH_take (i := 1) (v := .pointer (some ⟨x.blk, 0, none⟩)) rfl (by kernel_rfl) (by kernel_rfl) (by kernel_rfl) (fun _ _ _ h => absurd h.1 (by intro e; cases e)) (Or.inl ⟨by rfl, ?_⟩) hS ?_
    ·intro w' hS'
     obtain ⟨s1, s2, s3, s4, s5⟩ := hS'
     go_simp
    try simp only [List.getElem_toArray, List.getElem_cons_zero, List.getElem_cons_succ, Act.put, List.setIfInBounds_toArray, List.set_cons_zero, List.set_cons_succ]
    refine wpAnyH_take (i := 2) (v := .pointer (some ⟨p.blk, 0, none⟩)) rfl (by kernel_rfl) (by kernel_rfl) (by kernel_rfl) (fun _ _ _ h => absurd h.1 (by intro e; cases e)) (Or.inl ⟨by rfl, ?_⟩) hS ?_
    ·intro w' hS'
     obtain ⟨s1, s2, s3, s4, s5⟩ := hS'
     go_simp
    try simp only [List.getElem_toArray, List.getElem_cons_zero, List.getElem_cons_succ, Act.put, List.setIfInBounds_toArray, List.set_cons_zero, List.set_cons_succ]
    refine wpAnyH_take (i := 3) (v := .pointer (some ⟨p.blk, 0, none⟩)) rfl (by kernel_rfl) (by kernel_rfl) (by kernel_rfl) (fun _ _ _ h => absurd h.1 (by intro e; cases e)) (Or.inl ⟨by rfl, ?_⟩) hS ?_
    ·intro w' hS'
     obtain ⟨s1, s2, s3, s4, s5⟩ := hS'
     go_simp
    try simp only [List.getElem_toArray, List.getElem_cons_zero, List.getElem_cons_succ, Act.put, List.setIfInBounds_toArray, List.set_cons_zero, List.set_cons_succ]
    refine wpAnyH_take (i := 4) (v := .pointer (some ⟨p.blk, 2, none⟩)) rfl (by kernel_rfl) (by kernel_rfl) (by kernel_rfl) (fun _ _ _ h => absurd h.1 (by intro e; cases e)) (Or.inl ⟨by rfl, ?_⟩) hS ?_
    ·intro w' hS'
     obtain ⟨s1, s2, s3, s4, s5⟩ := hS'
     go_simp
    try simp only [List.getElem_toArray, List.getElem_cons_zero, List.getElem_cons_succ, Act.put, List.setIfInBounds_toArray, List.set_cons_zero, List.set_cons_succ]
    refine wpAnyH_take (i := 5) (v := .agg #[.int .i64 p.x.d0, .int .i64 p.x.d1]) rfl (by kernel_rfl) (by kernel_rfl) (by kernel_rfl) (fun _ _ _ h => absurd h.1 (by intro e; cases e)) (Or.inl ⟨by rfl, ?_⟩) hS ?_
    ·intro w' hS'
     obtain ⟨s1, s2, s3, s4, s5⟩ := hS'
     go_simp
    try simp only [List.getElem_toArray, List.getElem_cons_zero, List.getElem_cons_succ, Act.put, List.setIfInBounds_toArray, List.set_cons_zero, List.set_cons_succ]
    refine wpAnyH_ready (rs := [6, 7]) (by kernel_rfl) (by simp) ?_
    refine AllReadyH.cons rfl (fun K' hK => ?_) (AllReadyH.cons rfl (fun K' hK => ?_) AllReadyH.nil)
    ·rw [if_pos (by rfl)]
     try simp only [List.getElem_toArray, List.getElem_cons_zero, List.getElem_cons_succ]
     go_simp
     refine (hsx2 _ (qac hbel (by exact bel2))).mono ?_
     rintro e W3 ⟨rfl, hbA⟩
     have hb3 : Below W2.heap.size W2 W3 := qac (show Below W2.heap.size W2 W2.drew by exact bel2) hbA
     have hz3 := hb3.size
     refine hK.out _ _ (hS4 _ hb3) (fun hS => ?_)
     clear hK
     try simp only [List.getElem_toArray, List.getElem_cons_zero, List.getElem_cons_succ, Act.put, List.setIfInBounds_toArray, List.set_cons_zero, List.set_cons_succ]
     refine wpAnyH_ready (rs := [7]) (by kernel_rfl) (by simp) ?_
     refine AllReadyH.cons rfl (fun K' hK => ?_) AllReadyH.nil
     rw [if_pos (by rfl)]
     try simp only [List.getElem_toArray, List.getElem_cons_zero, List.getElem_cons_succ]
     go_simp
     refine hK.out _ _ (hS4 _ (by exact bel2)) (fun hS => ?_)
     clear hK
     try simp only [List.getElem_toArray, List.getElem_cons_zero, List.getElem_cons_succ, Act.put, List.setIfInBounds_toArray, List.set_cons_zero, List.set_cons_succ]
     refine wpAnyH_ready (rs := [8]) (by kernel_rfl) (by simp) ?_
     refine AllReadyH.cons rfl (fun K' hK => ?_) AllReadyH.nil
     rw [if_pos (by rfl)]
     try simp only [List.getElem_toArray, List.getElem_cons_zero, List.getElem_cons_succ]
     go_simp
     refine hK.out _ _ (hS4 _ (by exact bel2)) (fun hS => ?_)
     clear hK
     refine wpAnyH_done (by kernel_rfl) ⟨rfl, ?_⟩ _
     exact ⟨W3.heap.size, rfl, hb3.alloc hz3 _, Blk.new' rfl, hz3⟩
    ·rw [if_pos (by rfl)]
     try simp only [List.getElem_toArray, List.getElem_cons_zero, List.getElem_cons_succ]
     go_simp
     refine hK.out _ _ (hS4 _ (by exact bel2)) (fun hS => ?_)
     clear hK
     try simp only [List.getElem_toArray, List.getElem_cons_zero, List.getElem_cons_succ, Act.put, List.setIfInBounds_toArray, List.set_cons_zero, List.set_cons_succ]
     refine wpAnyH_ready (rs := [6]) (by kernel_rfl) (by simp) ?_
     refine AllReadyH.cons rfl (fun K' hK => ?_) AllReadyH.nil
     rw [if_pos (by rfl)]
     try simp only [List.getElem_toArray, List.getElem_cons_zero, List.getElem_cons_succ]
     go_simp
     refine (hsx2 _ (qac hbel (by exact bel2))).mono ?_
     rintro e W3 ⟨rfl, hbA⟩
     have b9 : Blk W3 W2.heap.size 35 #[.int .i64 0, .int .i64 0] := Blk.below (by first | (with_reducible exact Blk.new' (by simp)) | (with_reducible exact Blk.drew (Blk.new' (by simp))) | (exact Blk.new W2.drew 35 _)) hbA (by simp)
     have hb3 : Below W2.heap.size W2 W3 := qac (by exact bel2) hbA
     have hz3 := hb3.size
     have c9 := b9.cell
     have f9 := b9.frozen
     refine hK.out _ _ (hS4 _ hb3) (fun hS => ?_)
     clear hK
     try simp only [List.getElem_toArray, List.getElem_cons_zero, List.getElem_cons_succ, Act.put, List.setIfInBounds_toArray, List.set_cons_zero, List.set_cons_succ]
     refine wpAnyH_ready (rs := [8]) (by kernel_rfl) (by simp) ?_
     refine AllReadyH.cons rfl (fun K' hK => ?_) AllReadyH.nil
     rw [if_pos (by rfl)]
     try simp only [List.getElem_toArray, List.getElem_cons_zero, List.getElem_cons_succ]
     go_simp
     refine hK.out _ _ (hS4 _ (qbk hb3 (Nat.le_refl _) ..)) (fun hS => ?_)
     clear hK
     refine wpAnyH_done (by kernel_rfl) ⟨rfl, ?_⟩ _
     exact ⟨W2.heap.size, rfl, qbk hb3 (Nat.le_refl _) .., qc4 b9 .., Nat.le_refl _⟩
   case r5 =>
    intro e a4 W4 hq4
    cases e with
    | normal =>
     obtain ⟨b9, rfl, hb4, b9c, hl9⟩ := hq4
     clear hS4 HS4 hsx2
     have hB4 : Below w.heap.size w W4 := qac hbel hb4
     obtain ⟨g4, g1, g2, g3, _, g7⟩ := hend0 _ hb4
     obtain ⟨q1', q2', q3'⟩ := hqc _ hB4
     have lb9 := b9c.lt
     have hz4 := hb4.size
     have hS5 : ∀ W', Below W4.heap.size W4 W' -> W'.cell? ⟨w.heap.size + 1, 0, none⟩ = some (.pointer (some ⟨q.blk, 0, none⟩)) /\ W'.cell? ⟨q.blk, 1, none⟩ = some (.pointer (some ⟨q.q, 0, none⟩)) /\ W'.cell? ⟨q.blk, 2, none⟩ = some (.int .i64 q.x.d0) /\ W'.cell? ⟨q.blk, 3, none⟩ = some (.int .i64 q.x.d1) /\ W'.cell? ⟨b9, 0, none⟩ = some (.int .i64 s0) /\ W'.cell? ⟨b9, 1, none⟩ = some (.int .i64 s1) /\ W'.cell? ⟨b7, 0, none⟩ = some (.int .i64 o0) /\ W'.cell? ⟨b7, 1, none⟩ = some (.int .i64 o1) /\ Below W4.heap.size W4 W' := fun W' hW' => ⟨(g2.below hW' g2.lt).cell, (hW'.cell (p := ⟨q.blk, 1, none⟩) (Nat.lt_of_lt_of_le lq hz4)).trans q1', (hW'.cell (p := ⟨q.blk, 2, none⟩) (Nat.lt_of_lt_of_le lq hz4)).trans q2', (hW'.cell (p := ⟨q.blk, 3, none⟩) (Nat.lt_of_lt_of_le lq hz4)).trans q3', (b9c.below hW' lb9).cell 0, (b9c.below hW' lb9).cell 1, (g7.below hW' g7.lt).cell 0, (g7.below hW' g7.lt).cell 1, hW'⟩
     have hend := fun W' (hW' : Below W4.heap.size W4 W') => hend0 W' (qac hb4 hW')
     clear k1 k2 k3 k4 k7 p1 p2 p3 q1 q2 q3 g1 g2 g3 g4 g7 q1' q2' q3' b9c hend0
     gi_upto_region 5 with fail
     refine qdk (fun W' => W'.cell? ⟨w.heap.size + 1, 0, none⟩ = some (.pointer (some ⟨q.blk, 0, none⟩)) /\ W'.cell? ⟨q.blk, 1, none⟩ = some (.pointer (some ⟨q.q, 0, none⟩)) /\ W'.cell? ⟨q.blk, 2, none⟩ = some (.int .i64 q.x.d0) /\ W'.cell? ⟨q.blk, 3, none⟩ = some (.int .i64 q.x.d1) /\ W'.cell? ⟨b9, 0, none⟩ = some (.int .i64 s0) /\ W'.cell? ⟨b9, 1, none⟩ = some (.int .i64 s1) /\ W'.cell? ⟨b7, 0, none⟩ = some (.int .i64 o0) /\ W'.cell? ⟨b7, 1, none⟩ = some (.int .i64 o1) /\ Below W4.heap.size W4 W') (by kernel_rfl) (by kernel_rfl) (hS5 _ (by exact bel2)) (fun hS => ?_)
     refine wpAnyH_take (i := 0) (v := .pointer (some ⟨q.blk, 0, none⟩)) rfl (by kernel_rfl) (by kernel_rfl) (by kernel_rfl) (fun _ _ _ h => absurd h.1 (by intro e; cases e)) (Or.inl ⟨by rfl, ?_⟩) hS ?_
     ·intro w' hS'
      obtain ⟨s1, s2, s3, s4, s5, s6, s7, s8, s9⟩ := hS'
      go_simp
     try simp only [List.getElem_toArray, List.getElem_cons_zero, List.getElem_cons_succ, Act.put, List.setIfInBounds_toArray, List.set_cons_zero, List.set_cons_succ]
     refine wpAnyH_take (i := 1) (v := .pointer (some ⟨q.blk, 0, none⟩)) rfl (by kernel_rfl) (by kernel_rfl) (by kernel_rfl) (fun _ _ _ h => absurd h.1 (by intro e; cases e)) (Or.inl ⟨by rfl, ?_⟩) hS ?_
     ·intro w' hS'
      obtain ⟨s1, s2, s3, s4, s5, s6, s7, s8, s9⟩ := hS'
      go_simp
     try simp only [List.getElem_toArray, List.getElem_cons_zero, List.getElem_cons_succ, Act.put, List.setIfInBounds_toArray, List.set_cons_zero, List.set_cons_succ]
     refine wpAnyH_take (i := 2) (v := .pointer (some ⟨q.blk, 1, none⟩)) rfl (by kernel_rfl) (by kernel_rfl) (by kernel_rfl) (fun _ _ _ h => absurd h.1 (by intro e; cases e)) (Or.inl ⟨by rfl, ?_⟩) hS ?_
     ·intro w' hS'
      obtain ⟨s1, s2, s3, s4, s5, s6, s7, s8, s9⟩ := hS'
      go_simp
     try simp only [List.getElem_toArray, List.getElem_cons_zero, List.getElem_cons_succ, Act.put, List.setIfInBounds_toArray, List.set_cons_zero, List.set_cons_succ]
     refine wpAnyH_take (i := 3) (v := .pointer (some ⟨q.q, 0, none⟩)) rfl (by kernel_rfl) (by kernel_rfl) (by kernel_rfl) (fun _ _ _ h => absurd h.1 (by intro e; cases e)) (Or.inl ⟨by rfl, ?_⟩) hS ?_
     ·intro w' hS'
      obtain ⟨s1, s2, s3, s4, s5, s6, s7, s8, s9⟩ := hS'
      go_simp
     try simp only [List.getElem_toArray, List.getElem_cons_zero, List.getElem_cons_succ, Act.put, List.setIfInBounds_toArray, List.set_cons_zero, List.set_cons_succ]
     refine wpAnyH_take (i := 4) (v := .pointer (some ⟨x.blk, 0, none⟩)) rfl (by kernel_rfl) (by kernel_rfl) (by kernel_rfl) (fun _ _ _ h => absurd h.1 (by intro e; cases e)) (Or.inl ⟨by rfl, ?_⟩) hS ?_
     ·intro w' hS'
      obtain ⟨s1, s2, s3, s4, s5, s6, s7, s8, s9⟩ := hS'
      go_simp
     try simp only [List.getElem_toArray, List.getElem_cons_zero, List.getElem_cons_succ, Act.put, List.setIfInBounds_toArray, List.set_cons_zero, List.set_cons_succ]
     refine wpAnyH_ready (rs := [5]) (by kernel_rfl) (by simp) ?_
     refine AllReadyH.cons rfl (fun K' hK => ?_) AllReadyH.nil
     rw [if_pos (by rfl)]
     try simp only [List.getElem_toArray, List.getElem_cons_zero, List.getElem_cons_succ]
     go_simp
     refine (hin _ (qac hB4 (by exact bel2))).mono ?_
     rintro e W5 ⟨rfl, hbA⟩
     have hb5 : Below W4.heap.size W4 W5 := qac (show Below W4.heap.size W4 W4.drew by exact bel2) hbA
     have hz5 := hb5.size
     refine hK.out _ _ (hS5 _ hb5) (fun hS => ?_)
     clear hK
     try simp only [List.getElem_toArray, List.getElem_cons_zero, List.getElem_cons_succ, Act.put, List.setIfInBounds_toArray, List.set_cons_zero, List.set_cons_succ]
     cases inb
     ·refine wpAnyH_take (i := 6) (v := .bool false) rfl (by kernel_rfl) (by kernel_rfl) (by kernel_rfl) (fun _ _ _ h => absurd h.1 (by intro e; cases e)) (Or.inl ⟨by rfl, ?_⟩) hS ?_
      ·intro w' hS'
       obtain ⟨s1, s2, s3, s4, s5, s6, s7, s8, s9⟩ := hS'
       go_simp
      try simp only [List.getElem_toArray, List.getElem_cons_zero, List.getElem_cons_succ, Act.put, List.setIfInBounds_toArray, List.set_cons_zero, List.set_cons_succ]
      refine wpAnyH_take (i := 7) (v := undef) rfl (by kernel_rfl) (by kernel_rfl) (by kernel_rfl) (fun _ _ _ h => absurd h.1 (by intro e; cases e)) (Or.inr ⟨by rfl, rfl⟩) hS ?_
      try simp only [List.getElem_toArray, List.getElem_cons_zero, List.getElem_cons_succ, Act.put, List.setIfInBounds_toArray, List.set_cons_zero, List.set_cons_succ]
      refine wpAnyH_take (i := 8) (v := undef) rfl (by kernel_rfl) (by kernel_rfl) (by kernel_rfl) (fun _ _ _ h => absurd h.1 (by intro e; cases e)) (Or.inr ⟨by rfl, rfl⟩) hS ?_
      try simp only [List.getElem_toArray, List.getElem_cons_zero, List.getElem_cons_succ, Act.put, List.setIfInBounds_toArray, List.set_cons_zero, List.set_cons_succ]
      refine wpAnyH_take (i := 9) (v := undef) rfl (by kernel_rfl) (by kernel_rfl) (by kernel_rfl) (fun _ _ _ h => absurd h.1 (by intro e; cases e)) (Or.inr ⟨by rfl, rfl⟩) hS ?_
      try simp only [List.getElem_toArray, List.getElem_cons_zero, List.getElem_cons_succ, Act.put, List.setIfInBounds_toArray, List.set_cons_zero, List.set_cons_succ]
      refine wpAnyH_take (i := 10) (v := undef) rfl (by kernel_rfl) (by kernel_rfl) (by kernel_rfl) (fun _ _ _ h => absurd h.1 (by intro e; cases e)) (Or.inr ⟨by rfl, rfl⟩) hS ?_
      try simp only [List.getElem_toArray, List.getElem_cons_zero, List.getElem_cons_succ, Act.put, List.setIfInBounds_toArray, List.set_cons_zero, List.set_cons_succ]
      refine wpAnyH_take (i := 11) (v := undef) rfl (by kernel_rfl) (by kernel_rfl) (by kernel_rfl) (fun _ _ _ h => absurd h.1 (by intro e; cases e)) (Or.inr ⟨by rfl, rfl⟩) hS ?_
      try simp only [List.getElem_toArray, List.getElem_cons_zero, List.getElem_cons_succ, Act.put, List.setIfInBounds_toArray, List.set_cons_zero, List.set_cons_succ]
      refine wpAnyH_take (i := 12) (v := undef) rfl (by kernel_rfl) (by kernel_rfl) (by kernel_rfl) (fun _ _ _ h => absurd h.1 (by intro e; cases e)) (Or.inr ⟨by rfl, rfl⟩) hS ?_
      try simp only [List.getElem_toArray, List.getElem_cons_zero, List.getElem_cons_succ, Act.put, List.setIfInBounds_toArray, List.set_cons_zero, List.set_cons_succ]
      refine wpAnyH_take (i := 13) (v := undef) rfl (by kernel_rfl) (by kernel_rfl) (by kernel_rfl) (fun _ _ _ h => absurd h.1 (by intro e; cases e)) (Or.inr ⟨by rfl, rfl⟩) hS ?_
      try simp only [List.getElem_toArray, List.getElem_cons_zero, List.getElem_cons_succ, Act.put, List.setIfInBounds_toArray, List.set_cons_zero, List.set_cons_succ]
      refine wpAnyH_take (i := 14) (v := undef) rfl (by kernel_rfl) (by kernel_rfl) (by kernel_rfl) (fun _ _ _ h => absurd h.1 (by intro e; cases e)) (Or.inr ⟨by rfl, rfl⟩) hS ?_
      try simp only [List.getElem_toArray, List.getElem_cons_zero, List.getElem_cons_succ, Act.put, List.setIfInBounds_toArray, List.set_cons_zero, List.set_cons_succ]
      refine wpAnyH_take (i := 15) (v := undef) rfl (by kernel_rfl) (by kernel_rfl) (by kernel_rfl) (fun _ _ _ h => absurd h.1 (by intro e; cases e)) (Or.inr ⟨by rfl, rfl⟩) hS ?_
      try simp only [List.getElem_toArray, List.getElem_cons_zero, List.getElem_cons_succ, Act.put, List.setIfInBounds_toArray, List.set_cons_zero, List.set_cons_succ]
      refine wpAnyH_take (i := 16) (v := undef) rfl (by kernel_rfl) (by kernel_rfl) (by kernel_rfl) (fun _ _ _ h => absurd h.1 (by intro e; cases e)) (Or.inr ⟨by rfl, rfl⟩) hS ?_
      try simp only [List.getElem_toArray, List.getElem_cons_zero, List.getElem_cons_succ, Act.put, List.setIfInBounds_toArray, List.set_cons_zero, List.set_cons_succ]
      refine wpAnyH_take (i := 17) (v := .bool false) rfl (by kernel_rfl) (by kernel_rfl) (by kernel_rfl) (fun _ _ _ h => absurd h.1 (by intro e; cases e)) (Or.inl ⟨by rfl, ?_⟩) hS ?_
      ·intro w' hS'
       obtain ⟨s1, s2, s3, s4, s5, s6, s7, s8, s9⟩ := hS'
       go_simp
      try simp only [List.getElem_toArray, List.getElem_cons_zero, List.getElem_cons_succ, Act.put, List.setIfInBounds_toArray, List.set_cons_zero, List.set_cons_succ]
      refine wpAnyH_done (by kernel_rfl) ⟨rfl, ?_⟩ _
      obtain ⟨g4, hg4⟩ := hend _ hb5
      have kc := g4.cell
      have kf := g4.frozen
      gi_wp2_with fail
      refine ⟨Keep.new (qac hb4 hb5), ?_, hg4, qac hbel (qac hb4 hb5)⟩
      rw [List.any_append, HALL.out]
      simp [HOX.out]
     ·refine wpAnyH_take (i := 6) (v := .bool true) rfl (by kernel_rfl) (by kernel_rfl) (by kernel_rfl) (fun _ _ _ h => absurd h.1 (by intro e; cases e)) (Or.inl ⟨by rfl, ?_⟩) hS ?_
      ·intro w' hS'
       obtain ⟨s1, s2, s3, s4, s5, s6, s7, s8, s9⟩ := hS'
       go_simp
      try simp only [List.getElem_toArray, List.getElem_cons_zero, List.getElem_cons_succ, Act.put, List.setIfInBounds_toArray, List.set_cons_zero, List.set_cons_succ]
      refine wpAnyH_take (i := 7) (v := .agg #[.int .i64 s0, .int .i64 s1]) rfl (by kernel_rfl) (by kernel_rfl) (by kernel_rfl) (fun _ _ _ h => absurd h.1 (by intro e; cases e)) (Or.inl ⟨by rfl, ?_⟩) hS ?_
      ·intro w' hS'
       obtain ⟨s1, s2, s3, s4, s5, s6, s7, s8, s9⟩ := hS'
       go_simp
      try simp only [List.getElem_toArray, List.getElem_cons_zero, List.getElem_cons_succ, Act.put, List.setIfInBounds_toArray, List.set_cons_zero, List.set_cons_succ]
      refine wpAnyH_take (i := 8) (v := .agg #[.int .i64 o0, .int .i64 o1]) rfl (by kernel_rfl) (by kernel_rfl) (by kernel_rfl) (fun _ _ _ h => absurd h.1 (by intro e; cases e)) (Or.inl ⟨by rfl, ?_⟩) hS ?_
      ·intro w' hS'
       obtain ⟨s1, s2, s3, s4, s5, s6, s7, s8, s9⟩ := hS'
       go_simp
      try simp only [List.getElem_toArray, List.getElem_cons_zero, List.getElem_cons_succ, Act.put, List.setIfInBounds_toArray, List.set_cons_zero, List.set_cons_succ]
      refine wpAnyH_take (i := 9) (v := .pointer (some ⟨q.blk, 0, none⟩)) rfl (by kernel_rfl) (by kernel_rfl) (by kernel_rfl) (fun _ _ _ h => absurd h.1 (by intro e; cases e)) (Or.inl ⟨by rfl, ?_⟩) hS ?_
      ·intro w' hS'
       obtain ⟨s1, s2, s3, s4, s5, s6, s7, s8, s9⟩ := hS'
       go_simp
      try simp only [List.getElem_toArray, List.getElem_cons_zero, List.getElem_cons_succ, Act.put, List.setIfInBounds_toArray, List.set_cons_zero, List.set_cons_succ]
      refine wpAnyH_take (i := 10) (v := .pointer (some ⟨q.blk, 0, none⟩)) rfl (by kernel_rfl) (by kernel_rfl) (by kernel_rfl) (fun _ _ _ h => absurd h.1 (by intro e; cases e)) (Or.inl ⟨by rfl, ?_⟩) hS ?_
      ·intro w' hS'
       obtain ⟨s1, s2, s3, s4, s5, s6, s7, s8, s9⟩ := hS'
       go_simp
      try simp only [List.getElem_toArray, List.getElem_cons_zero, List.getElem_cons_succ, Act.put, List.setIfInBounds_toArray, List.set_cons_zero, List.set_cons_succ]
      refine wpAnyH_take (i := 11) (v := .pointer (some ⟨q.blk, 2, none⟩)) rfl (by kernel_rfl) (by kernel_rfl) (by kernel_rfl) (fun _ _ _ h => absurd h.1 (by intro e; cases e)) (Or.inl ⟨by rfl, ?_⟩) hS ?_
      ·intro w' hS'
       obtain ⟨s1, s2, s3, s4, s5, s6, s7, s8, s9⟩ := hS'
       go_simp
      try simp only [List.getElem_toArray, List.getElem_cons_zero, List.getElem_cons_succ, Act.put, List.setIfInBounds_toArray, List.set_cons_zero, List.set_cons_succ]
      refine wpAnyH_take (i := 12) (v := .agg #[.int .i64 q.x.d0, .int .i64 q.x.d1]) rfl (by kernel_rfl) (by kernel_rfl) (by kernel_rfl) (fun _ _ _ h => absurd h.1 (by intro e; cases e)) (Or.inl ⟨by rfl, ?_⟩) hS ?_
      ·intro w' hS'
       obtain ⟨s1, s2, s3, s4, s5, s6, s7, s8, s9⟩ := hS'
       go_simp
      try simp only [List.getElem_toArray, List.getElem_cons_zero, List.getElem_cons_succ, Act.put, List.setIfInBounds_toArray, List.set_cons_zero, List.set_cons_succ]
      refine wpAnyH_take (i := 15) (v := .agg #[.int .i64 0, .int .i64 0]) rfl (by kernel_rfl) (by kernel_rfl) (by kernel_rfl) (fun _ _ _ h => absurd h.1 (by intro e; cases e)) (Or.inl ⟨by rfl, ?_⟩) hS ?_
      ·intro w' hS'
       obtain ⟨s1, s2, s3, s4, s5, s6, s7, s8, s9⟩ := hS'
       go_simp
      try simp only [List.getElem_toArray, List.getElem_cons_zero, List.getElem_cons_succ, Act.put, List.setIfInBounds_toArray, List.set_cons_zero, List.set_cons_succ]
      refine wpAnyH_ready (rs := [13]) (by kernel_rfl) (by simp) ?_
      refine AllReadyH.cons rfl (fun K' hK => ?_) AllReadyH.nil
      rw [if_pos (by rfl)]
      try simp only [List.getElem_toArray, List.getElem_cons_zero, List.getElem_cons_succ]
      go_simp
      refine hK.out _ _ (hS5 _ (by exact bel2)) (fun hS => ?_)
      clear hK
      try simp only [List.getElem_toArray, List.getElem_cons_zero, List.getElem_cons_succ, Act.put, List.setIfInBounds_toArray, List.set_cons_zero, List.set_cons_succ]
      refine wpAnyH_ready (rs := [14]) (by kernel_rfl) (by simp) ?_
      refine AllReadyH.cons rfl (fun K' hK => ?_) AllReadyH.nil
      rw [if_pos (by rfl)]
      try simp only [List.getElem_toArray, List.getElem_cons_zero, List.getElem_cons_succ]
      go_simp
      refine (hle _ _ (Blk.new _ 35 _)).mono ?_
      rintro e W6 ⟨rfl, hbL⟩
      have hb6 : Below W4.heap.size W4 W6 := qac (by exact bel2) hbL
      refine hK.out _ _ (hS5 _ hb6) (fun hS => ?_)
      clear hK
      try simp only [List.getElem_toArray, List.getElem_cons_zero, List.getElem_cons_succ, Act.put, List.setIfInBounds_toArray, List.set_cons_zero, List.set_cons_succ]
      refine wpAnyH_take (i := 16) (v := .bool (!(e0 == 0 && e1 == 0))) rfl (by kernel_rfl) (by kernel_rfl) (by kernel_rfl) (fun _ _ _ h => absurd h.1 (by intro e; cases e)) (Or.inl ⟨by rfl, ?_⟩) hS ?_
      ·intro w' hS'
       obtain ⟨s1, s2, s3, s4, s5, s6, s7, s8, s9⟩ := hS'
       go_simp
      try simp only [List.getElem_toArray, List.getElem_cons_zero, List.getElem_cons_succ, Act.put, List.setIfInBounds_toArray, List.set_cons_zero, List.set_cons_succ]
      refine wpAnyH_take (i := 17) (v := .bool (!(e0 == 0 && e1 == 0))) rfl (by kernel_rfl) (by kernel_rfl) (by kernel_rfl) (fun _ _ _ h => absurd h.1 (by intro e; cases e)) (Or.inl ⟨by rfl, ?_⟩) hS ?_
      ·intro w' hS'
       obtain ⟨s1, s2, s3, s4, s5, s6, s7, s8, s9⟩ := hS'
       go_simp
      try simp only [List.getElem_toArray, List.getElem_cons_zero, List.getElem_cons_succ, Act.put, List.setIfInBounds_toArray, List.set_cons_zero, List.set_cons_succ]
      refine wpAnyH_done (by kernel_rfl) ⟨rfl, ?_⟩ _
      generalize hbv : (e0 == 0 && e1 == 0) = bv at HOX
      clear hbv hneq
      obtain ⟨g4, hg4⟩ := hend _ hb6
      have kc := g4.cell
      have kf := g4.frozen
      cases bv
      ·gi_wp2_with fail
       refine ⟨((Keep.new (T := fun b => b = w.heap.size + 1 + 1 + 1) (qac hb4 hb6)).setCell (p := ⟨w.heap.size + 1 + 1 + 1, 0, none⟩) rfl _), rfl, ?_, g4.set _, (qac hbel (qac hb4 hb6)).setCell (by simp; omega) _⟩
       rw [List.any_append, HALL.out]
       simp [HOX.out]
      ·gi_wp2_with fail
       refine ⟨Keep.new (qac hb4 hb6), ?_, hg4, qac hbel (qac hb4 hb6)⟩
       rw [List.any_append, HALL.out]
       simp [HOX.out]
    | _ => exact hq4.elim
  case done =>
   rintro A ⟨hall, ⟨k1, k2, k3, k4, k7⟩, hbel⟩ hD
   have hc := k4.cell
   have hf := k4.frozen
   gi_wp2
   have hD' : (A.setCell ⟨w.heap.size + 1 + 1 + 1, 0, none⟩ (.bool false)).heap[W.heap.size]? = some (.deferred (some [])) := (Below.heap_setCell _ _ _ _ (by simp; omega)).trans hD
   have hb2 := ((k4.set (.bool false)).put W.heap.size (.deferred none) (by omega)).cell
   refine ⟨by simp, .inl ⟨_, _, rfl, run_takeDeferred hD', ?_⟩⟩
   exact ⟨.bool false, by simp [results, Tryz.results231, go_sem, hb2], qa9 hall.symm, qa8 (hbel.setCell (by simp; omega) _) _ _ (by omega)⟩
  case stop =>
   rintro c pre A hpre ⟨rfl, hv, hbox, hbel⟩ hD
   gi_wp2
   have hb2 := (hbox.put W.heap.size (.deferred none) (by omega)).cell
   refine ⟨by simp, .inl ⟨_, _, rfl, run_takeDeferred hD, ?_⟩⟩
   refine ⟨.bool true, by simp [results, Tryz.results231, go_sem, hb2], qa9 ?_, qa8 hbel _ _ (by omega)⟩
   symm
   rw [List.any_eq_true] at hv ⊢
   obtain ⟨y, hy, hy2⟩ := hv
   exact ⟨y, hpre.subset hy, hy2⟩
end Go.Proofs.YtphclnolomgjoaaGreatDoor
