import Derived.Test.YtphclnolomgjoaaGreatDoorC06
import Derived.Test.YtphclnolomgjoaaGreatDoorC20
import Derived.Test.YtphclnolomgjoaaGreatDoorC14
import Derived.Test.YtphclnolomgjoaaGreatDoorC17
set_option linter.unusedVariables false
set_option linter.unusedSimpArgs false
namespace Go.Proofs.YtphclnolomgjoaaGreatDoor
open Go.RowKit Go.Shelf
attribute [local go_sem] Oper.semAt_some
structure Rw (W : World) (nodes : List Node) (bt rr : Nat) (r : Node) (vw : Value) (ws : List Pw) : Prop where
 ins : ∀ n ∈ nodes, qan W n
 rt : W.cell? ⟨rr, 0, none⟩ = some (nptr r.blk)
 bk : W.cell? ⟨rr, 1, none⟩ = some (.pointer (some ⟨bt, 1, none⟩))
 wt : W.cell? ⟨bt, 2, none⟩ = some vw
 row : WRow W vw ws
 len : ws.length <= 100
 leaf : ∀ p ∈ ws, ∃ n ∈ nodes, n.blk = p.q
structure qhs (nodes : List Node) (bt rr : Nat) (vw : Value) (ws : List Pw) (T : Nat -> Prop) : Prop where
 ns : ∀ n ∈ nodes, ¬ T n.blk /\ ∀ g, n.sl.ownBlock = some g -> ¬ T g
 rr : ¬ T rr
 bt : ¬ T bt
 vw : ∀ b, vw.ownBlock = some b -> ¬ T b
 ws : ∀ p ∈ ws, ¬ T p.blk
theorem Rw.keep {W W' : World} {nodes : List Node} {bt rr : Nat} {r : Node} {vw : Value} {ws : List Pw} (h : Rw W nodes bt rr r vw ws) {T : Nat -> Prop} (hk : Keep T W W') (ho : qhs nodes bt rr vw ws T) : Rw W' nodes bt rr r vw ws :=
 ⟨qel ho.ns h.ins hk, (hk.cell (p := ⟨rr, 0, none⟩) (World.block_lt_of_cell? _ _ h.rt) ho.rr).trans h.rt, (hk.cell (p := ⟨rr, 1, none⟩) (World.block_lt_of_cell? _ _ h.bk) ho.rr).trans h.bk, (hk.cell (p := ⟨bt, 2, none⟩) (World.block_lt_of_cell? _ _ h.wt) ho.bt).trans h.wt, ⟨qab h.row.row hk ho.vw, fun p hp => (h.row.works p hp).keep hk (ho.ws p hp)⟩, h.len, h.leaf⟩
theorem Rw.below {W W' : World} {nodes : List Node} {bt rr : Nat} {r : Node} {vw : Value} {ws : List Pw} (h : Rw W nodes bt rr r vw ws) (hb : Below W.heap.size W W') : Rw W' nodes bt rr r vw ws :=
 h.keep (T := fun _ => False) (Keep.new hb) ⟨fun _ _ => ⟨id, fun _ _ => id⟩, id, id, fun _ _ => id, fun _ _ => id⟩
theorem Rw.head {W : World} {nodes : List Node} {bt rr : Nat} {r : Node} {vw : Value} {ws : List Pw} (h : Rw W nodes bt rr r vw ws) {m : Node} (hm : m ∈ nodes) :
  Calls Tryz.prog 174 #[.pointer (some ⟨bt, 1, none⟩), nptr m.blk] W fun e w' => e = .returned (optP (qbl ws m.blk)) /\ Below W.heap.size W w' := qrb h.ins h.wt h.row h.len h.leaf hm
theorem Rw.lt {W : World} {nodes : List Node} {bt rr : Nat} {r : Node} {vw : Value} {ws : List Pw} (h : Rw W nodes bt rr r vw ws) {B : Nat} (hB : W.heap.size <= B) {T : Nat -> Prop} (hT : ∀ b, T b -> B <= b) : qhs nodes bt rr vw ws T :=
 ⟨fun n hn => ⟨fun e => by have := (h.ins n hn).lt; have := hT _ e; omega, fun g hg e => by have := ((h.ins n hn).row.lt g hg).2; have := hT _ e; omega⟩, fun e => by have := World.block_lt_of_cell? _ _ h.bk; have := hT _ e; simp at *; omega, fun e => by have := World.block_lt_of_cell? _ _ h.wt; have := hT _ e; simp at *; omega, fun b hb e => by have := qal h.row.row hb; have := hT _ e; omega, fun p hp e => by have := (h.row.works p hp).lt; have := hT _ e; omega⟩
theorem qhs.or {nodes : List Node} {bt rr : Nat} {vw : Value} {ws : List Pw} {T T' : Nat -> Prop} (h : qhs nodes bt rr vw ws T) (h' : qhs nodes bt rr vw ws T') : qhs nodes bt rr vw ws (fun b => T b \/ T' b) :=
 ⟨fun n hn => ⟨fun e => e.elim (h.ns n hn).1 (h'.ns n hn).1, fun g hg e => e.elim ((h.ns n hn).2 g hg) ((h'.ns n hn).2 g hg)⟩, fun e => e.elim h.rr h'.rr, fun e => e.elim h.bt h'.bt, fun b hb e => e.elim (h.vw b hb) (h'.vw b hb), fun p hp e => e.elim (h.ws p hp) (h'.ws p hp)⟩
def qap (ws : List Pw) (l : List Node) : List Pw := l.filterMap fun n => qbl ws n.blk
theorem qms (ws : List Pw) (l : List Node) (n : Node) : qap ws (l ++ [n]) = qap ws l ++ (qbl ws n.blk).toList := by
 unfold qap
 rw [List.filterMap_append]
 cases h : qbl ws n.blk <;> simp [List.filterMap_cons, h]
theorem qjy {ws : List Pw} {a b : List Node} (h : a <+: b) : qap ws a <+: qap ws b := by
 obtain ⟨t, rfl⟩ := h
 unfold qap
 rw [List.filterMap_append]
 exact List.prefix_append _ _
set_option maxRecDepth 100000 in
set_option maxHeartbeats 2000000 in
theorem qlb {nodes : List Node} (T0 : Tree nodes) {ch : Node -> List Node} (K0 : Kids nodes ch) {w : World} {bt rr : Nat} {r : Node} {vw : Value} {ws : List Pw} (h : Rw w nodes bt rr r vw ws) (hr : r ∈ nodes) :
  Calls Tryz.prog 169 #[.pointer (some ⟨rr, 0, none⟩)] w fun e w' => e = .returned (.func (.func 206) #[] #[.pointer (some ⟨w.heap.size, 0, none⟩)]) /\ w' = w.alloc (.cells #[.pointer (some ⟨rr, 0, none⟩)] 186) /\
   ∀ T : Nat -> Prop, (∀ b, T b -> b < w.heap.size) -> qhs nodes bt rr vw ws T ->
    SeqM Tryz.prog 206 #[.pointer (some ⟨w.heap.size, 0, none⟩)] (fun p : Pw => #[nptr p.blk]) (fun _ => False) 4 T (qap ws (dfs ch 4 r)) w' := by
 have hmf : ∀ (fn : Fn) (first cap : Array Value) (w : World), (Instr.makeFunc fn first cap).run Tryz.prog w = .ok (.func fn first cap) w := fun _ _ _ _ => rfl
 have key : ∀ T : Nat -> Prop, (∀ b, T b -> b < w.heap.size) -> qhs nodes bt rr vw ws T ->
    SeqM Tryz.prog 206 #[.pointer (some ⟨w.heap.size, 0, none⟩)] (fun p : Pw => #[nptr p.blk]) (fun _ => False) 4 T (qap ws (dfs ch 4 r)) (w.alloc (.cells #[.pointer (some ⟨rr, 0, none⟩)] 186)) := by
  intro T hTl hTo k ll J Jx W hW2 hl hll hJ hJx hY h0
  have hdd : ∀ k : Nat, Fence.wide.depth.isSome = true -> 1 <= k := fun k h => by simp [Fence.wide] at h
  have hb0 : Below w.heap.size w W := qac (show Below w.heap.size w (w.alloc (.cells #[.pointer (some ⟨rr, 0, none⟩)] 186)) by exact bel2) hW2
  have x1 : Box W w.heap.size 186 (.pointer (some ⟨rr, 0, none⟩)) := (Box.new w 186 _).below hW2 (by simp)
  have hsw : w.heap.size < W.heap.size := x1.lt
  have hrrl : rr < w.heap.size := by have := World.block_lt_of_cell? w _ h.rt; simpa using this
  have hl1 : w.heap.size + 1 <= ll := by simpa using hl
  have hall := fun W' (hW' : ∀ n ∈ nodes, qan W' n) => qm5 T0 K0 hr W' hW'
  have hdm := fun x (hx : x ∈ dfs ch 4 r) => qq2 K0 4 r hr x hx
  have hWR := h.below hb0
  have c1' : (W.alloc (.cells #[.func (.yield ll) #[] #[]] 232)).cell? ⟨w.heap.size, 0, none⟩ = some (.pointer (some ⟨rr, 0, none⟩)) := (World.cell?_alloc_lt _ _ _ (by simp; omega)).trans x1.cell
  have c2' : (W.alloc (.cells #[.func (.yield ll) #[] #[]] 232)).cell? ⟨rr, 0, none⟩ = some (.pointer (some ⟨r.blk, 0, none⟩)) := (World.cell?_alloc_lt _ _ _ (by simp; omega)).trans hWR.rt
  generalize hX : dfs ch 4 r = X at hall hdm hY ⊢
  clear hX
  refine callsIn_of_wp_marks Tryz.func206 rfl trivial ?_ rfl
  unfold nptr at hall
  simp only [Tryz.ntmps206, List.size_toArray, List.length_cons, List.length_nil, Nat.reduceAdd, Nat.reduceSub, Array.replicate_succ, Array.replicate_zero, List.push_toArray, List.append_toArray, List.nil_append, List.cons_append]
  gi_wp2_with ((first | refine ⟨trivial, hdd _, ?_⟩ | refine ⟨trivial, ?_⟩); gi_at_call 101; refine (callsIn_wide.2 (hall _ (fun n hn => (hWR.ins n hn).below (by exact bel1)))).mono ?_; rintro e W3 ⟨rfl, rfl, hseq⟩)
  obtain ⟨W3, hW3⟩ : ∃ W3, W3 = (W.alloc (.cells #[.func (.yield ll) #[] #[]] 232)).alloc (.cells #[.pointer (some ⟨r.blk, 0, none⟩)] 97) := ⟨_, rfl⟩
  have hs3 : W3.heap.size = W.heap.size + 2 := by rw [hW3]; simp
  have z1 : Box W3 W.heap.size 232 (.func (.yield ll) #[] #[]) := by rw [hW3]; exact (Box.new W 232 _).alloc _
  have hK3 : Below W.heap.size W W3 := by rw [hW3]; exact bel2
  rw [World.size_alloc] at hseq
  simp only [<- hW3] at hseq ⊢
  have hout2 : ∀ l0 B : Nat, w.heap.size <= l0 -> w.heap.size <= B -> qhs nodes bt rr vw ws (fun b => T b \/ (b = l0 \/ B <= b)) := fun l0 B h1 h2 => hTo.or (h.lt (Nat.le_refl _) (fun b e => by omega))
  have hq : SeqM Tryz.prog 149 #[.pointer (some ⟨W.heap.size + 1, 0, none⟩)] (fun x : Node => #[.pointer (some ⟨x.blk, 0, none⟩)]) (fun _ => False) 0 (fun b => T b \/ b = ll) X W3 := qss (fun B l0 h1 h2 => hseq _ (fun n hn => by
   have o1 := (hout2 ll w.heap.size (by omega) (Nat.le_refl _)).ns n hn
   have o2 := (hout2 l0 B (by omega) (by omega)).ns n hn
   refine ⟨fun e => ?_, fun g hg e => ?_⟩
   ·rcases e with (e | e) | e
    ·exact o1.1 (.inl e)
    ·exact o1.1 (.inr (.inl e))
    ·exact o2.1 (.inr e)
   ·rcases e with (e | e) | e
    ·exact o1.2 g hg (.inl e)
    ·exact o1.2 g hg (.inr (.inl e))
    ·exact o2.2 g hg (.inr e)))
  clear hseq hall hW3 c1' c2'
  have hown : ∀ b, False \/ (W3.heap.size <= b /\ b < W3.heap.size + 2 + 0) -> False \/ (W.heap.size <= b /\ b < W.heap.size + 4) := fun b e => e.imp id (fun e => by omega)
  have hownR : qhs nodes bt rr vw ws (fun b => False \/ (W3.heap.size <= b /\ b < W3.heap.size + 2 + 0)) := h.lt (Nat.le_refl _) (fun b e => by
   rcases e with e | e
   ·exact e.elim
   ·omega)
  refine qgs (T := fun b => T b \/ b = ll) (S := fun _ => False) rfl (enters_of Tryz.func149 (by kernel_rfl) rfl) hq (Below.refl _ _) (fun _ => rfl) (fun b e => e.elim) (fun b e => by
    rcases e with e | e
    ·have := hTl _ e; omega
    ·omega)
   (fun (pre : List Node) A => J (qap ws pre) A /\ Box A W.heap.size 232 (.func (.yield ll) #[] #[]) /\ Box A w.heap.size 186 (.pointer (some ⟨rr, 0, none⟩)) /\ Rw A nodes bt rr r vw ws)
   (fun c (pre : List Node) A => c = .ret /\ Jx (qap ws pre) A)
   (fun pre A B hs hk => ⟨hJ _ _ _ hs.1 (hk.mono hown), hs.2.1.keep hk (fun e => by rcases e with e | e; exact e; omega), hs.2.2.1.keep hk (fun e => by rcases e with e | e; exact e; omega), hs.2.2.2.keep hk hownR⟩)
   (fun c pre A B hs hk => ⟨hs.1, hJx _ _ _ hs.2 (hk.mono hown)⟩)
   ⟨hJ _ _ _ h0 (Keep.new hK3), z1, x1.below hK3 x1.lt, hWR.below hK3⟩
   (fun x => { tmps := #[.func (.yield ll) #[] #[], .pointer (some ⟨w.heap.size, 0, none⟩), .pointer (some ⟨W.heap.size, 0, none⟩), .pointer (some ⟨x.blk, 0, none⟩), undef, .pointer (some ⟨rr, 0, none⟩), .pointer (some ⟨rr, 0, none⟩), .pointer (some ⟨rr, 0, none⟩), .pointer (some ⟨r.blk, 0, none⟩), .func (.func 149) #[] #[.pointer (some ⟨W.heap.size + 1, 0, none⟩)], .pointer (some ⟨x.blk, 0, none⟩), undef, undef, undef, undef, undef, undef, undef, undef, undef, undef, undef, undef, undef, undef], defers := [] }) ?assign ?body ?done ?stop
  case assign =>
   intro l x W K hK
   gi_wp2
   exact hK
  case body =>
   rintro l2 pre x W4 ⟨hj, hbx, hbr, hRw⟩ hsz hpre
   have hxm := hdm x (hpre.subset (by simp))
   have hhd := hRw.head hxm
   have hc4 := hbr.cell
   have hc5 := hRw.bk
   have hsn := qms ws pre x
   have hnw := fun W (p : Pw) => qgv (W := W) (x := p)
   have hnn := fun W => qd8 (W := W)
   cases hH : qbl ws x.blk with
   | none =>
    rw [hH] at hhd hsn
    have HS : Hid (qap ws (pre ++ [x]) = qap ws pre) := show qap ws (pre ++ [x]) = qap ws pre from by rw [hsn]; simp
    clear hsn hY hq
    unfold optP nptr at hhd
    gi_wp2_with ((first | refine ⟨trivial, hdd _, ?_⟩ | refine ⟨trivial, ?_⟩); gi_at_call 174; refine (CallsIn.inRound l2 (callsIn_wide.2 hhd)).mono ?_; rintro e W5 ⟨rfl, hb5⟩)
    refine ⟨fun f h => (by cases h), ?_⟩
    gi_wp2
    exact ⟨Keep.new hb5, by rw [HS.out]; exact hJ _ _ _ hj (Keep.new hb5), hbx.below hb5 hbx.lt, hbr.below hb5 hbr.lt, hRw.below hb5⟩
   | some p =>
    rw [hH] at hhd hsn
    have HS : Hid (qap ws (pre ++ [x]) = qap ws pre ++ [p]) := show qap ws (pre ++ [x]) = qap ws pre ++ [p] from by rw [hsn]; simp
    have hpre2 : qap ws pre ++ [p] <+: qap ws X := by rw [<- HS.out]; exact qjy hpre
    have hyy : ∀ W5, Below W4.heap.size W4 W5 -> YieldAt Fence.wide (k - 1) Tryz.prog ll #[nptr p.blk] W5 fun e W' => (e = .returned (.bool true) /\ (J (qap ws (pre ++ [x])) W' /\ Box W' W.heap.size 232 (.func (.yield ll) #[] #[]) /\ Box W' w.heap.size 186 (.pointer (some ⟨rr, 0, none⟩)) /\ Rw W' nodes bt rr r vw ws) /\ Keep (fun b => (T b \/ b = ll) \/ W3.heap.size + 2 + 0 <= b) W4 W') \/ (e = .returned (.bool false) /\ Jx (qap ws (pre ++ [x])) W' /\ Keep (fun b => (T b \/ b = ll) \/ W3.heap.size + 2 + 0 <= b) W4 W') := fun W5 hb5 => by
     refine (hY (k - 1) _ p W5 (hJ _ _ _ hj (Keep.new hb5)) (by have := hb5.size; omega) hpre2).mono ?_
     have hmono : ∀ b, (T b \/ b = ll \/ W.heap.size + 4 <= b) -> ((T b \/ b = ll) \/ W3.heap.size + 2 + 0 <= b) := fun b e => by
      rcases e with e | e | e
      ·exact .inl (.inl e)
      ·exact .inl (.inr e)
      ·exact .inr (by omega)
     rintro e W' (⟨h1, h2, h3⟩ | ⟨h1, h2, h3⟩)
     ·refine .inl ⟨h1, ⟨by rw [HS.out]; exact h2, (hbx.below hb5 hbx.lt).keep h3 (fun e => ?_), (hbr.below hb5 hbr.lt).keep h3 (fun e => ?_), (hRw.below hb5).keep h3 (hout2 _ _ (by omega) (by omega))⟩, (Keep.new hb5).trans (h3.mono hmono)⟩
      ·rcases e with e | e | e
       ·have := hTl _ e; omega
       ·omega
       ·omega
      ·rcases e with e | e | e
       ·have := hTl _ e; omega
       ·omega
       ·omega
     ·exact .inr ⟨h1, by rw [HS.out]; exact h2, (Keep.new hb5).trans (h3.mono hmono)⟩
    clear hsn hY hq
    unfold optP nptr at hhd
    unfold nptr at hyy
    gi_wp2_with ((first | refine ⟨trivial, hdd _, ?_⟩ | refine ⟨trivial, ?_⟩); gi_at_call 174; refine (CallsIn.inRound l2 (callsIn_wide.2 hhd)).mono ?_; rintro e W5 ⟨rfl, hb5⟩; obtain ⟨fn, tmps, assign, body, hy, hR2⟩ := hyy W5 hb5; have hc6 := (hbx.below hb5 hbx.lt).cell; have hn5 := hnw W5 p)
    refine ⟨hdd _, ?_⟩
    refine hR2.mono ?_
    clear hR2 hyy
    rintro e W6 (⟨rfl, hJ6, hk6⟩ | ⟨rfl, hx6, hk6⟩)
    ·gi_wp2_with fail
     exact ⟨hk6, hJ6⟩
    ·gi_wp2_with fail
     exact ⟨hk6, rfl, hx6⟩
  case done =>
   rintro A ⟨hj, hbx, hbr, hRw⟩ hD
   gi_wp2
   refine ⟨by simp, .inl ⟨_, _, rfl, run_takeDeferred hD, ?_⟩⟩
   exact ⟨.tuple #[], by simp [results, Tryz.results206, go_sem], ⟨_, rfl⟩, .inl (hJ _ _ _ hj ((Keep.refl _ _).putObj (.inr (by omega)) _))⟩
  case stop =>
   rintro c pre A hpre ⟨rfl, hx⟩ hD
   gi_wp2
   refine ⟨by simp, .inl ⟨_, _, rfl, run_takeDeferred hD, ?_⟩⟩
   exact ⟨.tuple #[], by simp [results, Tryz.results206, go_sem], ⟨_, rfl⟩, .inr ⟨qap ws pre, qjy hpre, hJx _ _ _ hx ((Keep.refl _ _).putObj (.inr (by omega)) _)⟩⟩
 unfold nptr at key ⊢
 go_enter Tryz.func169, Tryz.ntmps169
 go_wp2
 go_ret
 exact ⟨rfl, rfl, key⟩
end Go.Proofs.YtphclnolomgjoaaGreatDoor
namespace Go.Proofs.YtphclnolomgjoaaGreatDoor
open Go.RowKit
theorem qfv {Ws : List Wk} {b : Nat} {x : Wk} (h : Ws[b]? = some x) : qdq Ws b = joinB x.key := by simp [qdq, h]
theorem qnu {Ws : List Wk} {b : Nat} {x : Wk} (h : Ws[b]? = some x) : qub Ws b = x.num := by simp [qub, h]
theorem qlg (L : List Ent) (Ws : List Wk) (a : Option Nat) (i : Nat) :
  (∀ b0, a = some b0 -> ∃ b, pickStep L Ws a i = some b /\ Op.bytesLess (qdq Ws b0) (qdq Ws b) = false) /\ (∀ x, Ws[i]? = some x -> ownW L Ws x = true -> ∃ b, pickStep L Ws a i = some b /\ Op.bytesLess (qdq Ws i) (qdq Ws b) = false) := by
 unfold pickStep
 cases hx : Ws[i]? with
 | none => exact ⟨fun b0 h => ⟨b0, h, qb8 _⟩, fun x h => by cases h⟩
 | some x =>
  have hp := qfv hx
  simp only
  cases ho : ownW L Ws x with
  | false =>
   simp only [Bool.false_and, Bool.false_eq_true, if_false]
   exact ⟨fun b0 h => ⟨b0, h, qb8 _⟩, fun y h h2 => by cases h; rw [ho] at h2; cases h2⟩
  | true =>
   simp only [Bool.true_and]
   cases a with
   | none =>
    simp only [if_true]
    exact ⟨fun b0 h => (by cases h), fun y h h2 => ⟨i, rfl, qb8 _⟩⟩
   | some b0 =>
    simp only
    by_cases hl : Op.bytesLess (joinB x.key) (qdq Ws b0) = true
    ·simp only [hl, if_true]
     exact ⟨fun b1 h => ⟨i, rfl, by cases h; rw [hp]; exact qf1 _ _ hl⟩, fun y h h2 => ⟨i, rfl, qb8 _⟩⟩
    ·simp only [hl, if_false]
     exact ⟨fun b1 h => ⟨b1, h, qb8 _⟩, fun y h h2 => ⟨b0, rfl, by rw [hp]; simpa using hl⟩⟩
theorem qfo (L : List Ent) (Ws : List Wk) : ∀ (l : List Nat) (a : Option Nat),
  (∀ b0, a = some b0 -> ∃ b, l.foldl (pickStep L Ws) a = some b /\ Op.bytesLess (qdq Ws b0) (qdq Ws b) = false) /\ (∀ i ∈ l, ∀ x, Ws[i]? = some x -> ownW L Ws x = true -> ∃ b, l.foldl (pickStep L Ws) a = some b /\ Op.bytesLess (qdq Ws i) (qdq Ws b) = false)
 | [], a => ⟨fun b0 h => ⟨b0, h, qb8 _⟩, fun i hi => by cases hi⟩
 | i :: l, a => by
  obtain ⟨s1, s2⟩ := qlg L Ws a i
  obtain ⟨g1, g2⟩ := qfo L Ws l (pickStep L Ws a i)
  simp only [List.foldl_cons]
  refine ⟨fun b0 h => ?_, fun j hj x hx ho => ?_⟩
  ·obtain ⟨b1, hb1, hn1⟩ := s1 b0 h
   obtain ⟨b2, hb2, hn2⟩ := g1 b1 hb1
   exact ⟨b2, hb2, qfe _ _ _ hn1 hn2⟩
  ·rcases List.mem_cons.1 hj with rfl | hj
   ·obtain ⟨b1, hb1, hn1⟩ := s2 x hx ho
    obtain ⟨b2, hb2, hn2⟩ := g1 b1 hb1
    exact ⟨b2, hb2, qfe _ _ _ hn1 hn2⟩
   ·exact g2 j hj x hx ho
theorem qk3 {Ws : List Wk} (hS : ∀ x ∈ Ws, 0 <= x.st) {x : Wk} (h : qa0 Ws x.key = some x) : ∃ i, Ws[i]? = some x /\ i ∈ qcn Ws := by
 unfold qa0 at h
 obtain ⟨hp, l1, l2, he, hno⟩ := List.find?_eq_some_iff_append.1 h
 simp only [Bool.and_eq_true, beq_iff_eq, decide_eq_true_eq] at hp
 have hi : Ws[l1.length]? = some x := by rw [he]; simp
 refine ⟨l1.length, hi, ?_⟩
 unfold qcn qcw
 rw [List.mem_filter, List.mem_range]
 refine ⟨(List.getElem?_eq_some_iff.1 hi).1, ?_⟩
 unfold headAt
 rw [hi]
 show qd7 Ws l1.length x = true
 unfold qd7
 rw [he, List.take_left']
 ·simp only [Bool.and_eq_true, beq_iff_eq, List.all_eq_true, Bool.or_eq_true, decide_eq_true_eq]
  refine ⟨hp.1, fun y hy => ?_⟩
  have h1 := hno y hy
  have h2 := hS y (by rw [he]; simp [hy])
  simp only [Bool.not_eq_true', Bool.and_eq_false_iff, beq_eq_false_iff_ne, decide_eq_false_iff_not] at h1
  rcases h1 with h1 | h1
  ·left; omega
  ·right; exact h1
 ·rfl
theorem qob {Ws : List Wk} {x y : Wk} (hx : qa0 Ws x.key = some x) (hy : qa0 Ws y.key = some y) (e : x.key = y.key) : x = y := by
 rw [e, hy] at hx; cases hx; rfl
theorem qta {L : List Ent} {Ws : List Wk} (hW : Wks Ws) (hS : ∀ x ∈ Ws, 0 <= x.st) {x : Wk} (hh : qa0 Ws x.key = some x) (ho : ownW L Ws x = true) (hmin : ∀ y, qa0 Ws y.key = some y -> ownW L Ws y = true -> Op.bytesLess (joinB y.key) (joinB x.key) = false) : ∃ b, qlq L Ws = some b /\ Ws[b]? = some x := by
 obtain ⟨i, hi, hm⟩ := qk3 hS hh
 obtain ⟨b, hb, hn⟩ := (qfo L Ws (qcn Ws) none).2 i hm x hi ho
 obtain ⟨y, hy, hyh, hyo⟩ := qfc hb
 have hyy := qcj hS hy hyh
 have h1 := hmin y hyy hyo
 rw [qfv hi, qfv hy] at hn
 have h2 := qe5 (hW.ok y (qak hyy).1).1 (hW.ok x (qak hh).1).1 (qk5 _ _ h1 hn)
 have := qob hyy hh h2
 subst this
 exact ⟨b, hb, hy⟩
theorem qte {L : List Ent} {Ws : List Wk} (hS : ∀ x ∈ Ws, 0 <= x.st) (h : ∀ y, qa0 Ws y.key = some y -> ownW L Ws y = false) : qlq L Ws = none := by
 cases hp : qlq L Ws with
 | none => rfl
 | some b =>
  obtain ⟨y, hy, hyh, hyo⟩ := qfc hp
  rw [h y (qcj hS hy hyh)] at hyo; cases hyo
theorem qnr {a b : Int × Int} (h : qc2 a b = true) : qc2 b a = false := by
 unfold qc2 at *
 simp only [decide_eq_true_eq, decide_eq_false_iff_not] at *
 omega
theorem qlr (a : Int × Int) : qc2 a a = false := by
 unfold qc2
 simp
theorem qey {a b c : Int × Int} (ha : 0 < a.2) (hb : 0 < b.2) (hc : 0 < c.2) (h1 : qc2 a b = false) (h2 : qc2 b c = false) : qc2 a c = false := by
 unfold qc2 at *
 simp only [decide_eq_false_iff_not, Int.not_lt] at *
 have g1 : b.1 * a.2 * c.2 <= a.1 * b.2 * c.2 := Int.mul_le_mul_of_nonneg_right h1 (by omega)
 have g2 : c.1 * b.2 * a.2 <= b.1 * c.2 * a.2 := Int.mul_le_mul_of_nonneg_right h2 (by omega)
 have e1 : b.1 * a.2 * c.2 = b.1 * c.2 * a.2 := by ac_rfl
 have e2 : c.1 * b.2 * a.2 = c.1 * a.2 * b.2 := by ac_rfl
 have e3 : a.1 * b.2 * c.2 = a.1 * c.2 * b.2 := by ac_rfl
 rw [e1, e3] at g1
 rw [e2] at g2
 exact Int.le_of_mul_le_mul_right (Int.le_trans g2 g1) hb
def icb (L : List Ent) (Ws : List Wk) (x y : Wk) : Bool := qc2 (qav L Ws x) (qav L Ws y) || (!qc2 (qav L Ws y) (qav L Ws x) && decide (x.num < y.num))
theorem qdb (L : List Ent) (Ws : List Wk) (x : Wk) : icb L Ws x x = false := by
 unfold icb; rw [qlr]; simp
theorem qh9 {L : List Ent} {Ws : List Wk} {x y : Wk} : icb L Ws x y = false ↔ (qc2 (qav L Ws x) (qav L Ws y) = false /\ (qc2 (qav L Ws y) (qav L Ws x) = true \/ y.num <= x.num)) := by
 unfold icb
 cases qc2 (qav L Ws x) (qav L Ws y) <;> cases qc2 (qav L Ws y) (qav L Ws x) <;> simp
theorem qsn {L : List Ent} {Ws : List Wk} {x y : Wk} (h : icb L Ws x y = true) : icb L Ws y x = false := by
 rw [qh9]
 unfold icb at h
 rw [Bool.or_eq_true, Bool.and_eq_true] at h
 rcases h with h | ⟨h1, h2⟩
 ·exact ⟨qnr h, .inl h⟩
 ·simp at h1 h2
  exact ⟨h1, .inr (by omega)⟩
theorem qsm {u d n al : Int} (h4 : 0 <= al) : 0 < (shr u d n al).2 := by
 unfold shr
 split <;> simp <;> omega
theorem qjg {a b : Int × Int} (ha : 0 < a.2) (hb : 0 < b.2) : 0 < (better a b).2 := by
 unfold better
 split <;> assumption
theorem qgo {L : List Ent} (E : Ents L) (Ws : List Wk) (x : Wk) : 0 < (qav L Ws x).2 := by
 have := qeo E []
 exact qjg (qjg (by decide) (qsm this.1.1)) (qsm this.2.1)
theorem qj0 {L : List Ent} (E : Ents L) {Ws : List Wk} {x y z : Wk} (h1 : icb L Ws x y = false) (h2 : icb L Ws y z = false) : icb L Ws x z = false := by
 rw [qh9] at *
 have px := qgo E Ws x
 have py := qgo E Ws y
 have pz := qgo E Ws z
 refine ⟨qey px py pz h1.1 h2.1, ?_⟩
 cases hzx : qc2 (qav L Ws z) (qav L Ws x) with
 | true => exact .inl rfl
 | false =>
  right
  have a1 : qc2 (qav L Ws y) (qav L Ws x) = false := qey py pz px h2.1 hzx
  have a2 : qc2 (qav L Ws z) (qav L Ws y) = false := qey pz px py hzx h1.1
  rcases h1.2 with h3 | h3
  ·rw [a1] at h3; cases h3
  ·rcases h2.2 with h4 | h4
   ·rw [a2] at h4; cases h4
   ·omega
def qp2 (L : List Ent) (Ws : List Wk) (a : Option Nat × (Int × Int)) : Prop := ∀ b0, a.1 = some b0 -> ∃ y, Ws[b0]? = some y /\ a.2 = qav L Ws y
def INlt (L : List Ent) (Ws : List Wk) (x : Wk) (r : Option Nat × (Int × Int)) : Prop := ∃ b y, r.1 = some b /\ Ws[b]? = some y /\ icb L Ws x y = false
theorem qj5 {L : List Ent} (Ws : List Wk) {a : Option Nat × (Int × Int)} (ha : qp2 L Ws a) (i : Nat) :
  qp2 L Ws (qa3 L Ws a i) /\ (∀ b0 y, a.1 = some b0 -> Ws[b0]? = some y -> INlt L Ws y (qa3 L Ws a i)) /\ (∀ x, Ws[i]? = some x -> qbm L Ws x = true -> INlt L Ws x (qa3 L Ws a i)) := by
 unfold qa3
 cases hx : Ws[i]? with
 | none => exact ⟨ha, fun b0 y h hy => ⟨b0, y, h, hy, qdb ..⟩, fun x h => by cases h⟩
 | some x =>
  simp only
  cases hf : qbm L Ws x with
  | false =>
   simp only [Bool.false_eq_true, if_false]
   exact ⟨ha, fun b0 y h hy => ⟨b0, y, h, hy, qdb ..⟩, fun y h h2 => by cases h; rw [hf] at h2; cases h2⟩
  | true =>
   simp only [if_true]
   obtain ⟨a1, a2⟩ := a
   cases a1 with
   | none =>
    simp only [if_true]
    refine ⟨fun b0 h => ?_, fun b0 y h => (by cases h), fun y h h2 => ?_⟩
    ·cases h; exact ⟨x, hx, rfl⟩
    ·cases h; exact ⟨i, x, rfl, hx, qdb ..⟩
   | some b0 =>
    obtain ⟨y, hy, hs⟩ := ha b0 rfl
    simp only at hs
    subst hs
    simp only [qnu hy]
    show qp2 L Ws (if icb L Ws x y = true then _ else _) /\ (∀ b0' y', some b0 = some b0' -> Ws[b0']? = some y' -> INlt L Ws y' (if icb L Ws x y = true then _ else _)) /\ (∀ x', some x = some x' -> qbm L Ws x' = true -> INlt L Ws x' (if icb L Ws x y = true then _ else _))
    cases hc : icb L Ws x y with
    | true =>
     simp only [if_true]
     refine ⟨fun b0 h => ?_, fun b1 z h hz => ?_, fun z h h2 => ?_⟩
     ·cases h; exact ⟨x, hx, rfl⟩
     ·cases h; rw [hy] at hz; cases hz; exact ⟨i, x, rfl, hx, qsn hc⟩
     ·cases h; exact ⟨i, x, rfl, hx, qdb ..⟩
    | false =>
     simp only [Bool.false_eq_true, if_false]
     refine ⟨ha, fun b1 z h hz => ?_, fun z h h2 => ?_⟩
     ·cases h; exact ⟨b0, z, rfl, hz, qdb ..⟩
     ·cases h; exact ⟨b0, y, rfl, hy, hc⟩
theorem qd4 {L : List Ent} (E : Ents L) (Ws : List Wk) : ∀ (l : List Nat) (a : Option Nat × (Int × Int)), qp2 L Ws a ->
  qp2 L Ws (l.foldl (qa3 L Ws) a) /\ (∀ b0 y, a.1 = some b0 -> Ws[b0]? = some y -> INlt L Ws y (l.foldl (qa3 L Ws) a)) /\ (∀ i ∈ l, ∀ x, Ws[i]? = some x -> qbm L Ws x = true -> INlt L Ws x (l.foldl (qa3 L Ws) a))
 | [], a, ha => ⟨ha, fun b0 y h hy => ⟨b0, y, h, hy, qdb ..⟩, fun i hi => by cases hi⟩
 | i :: l, a, ha => by
  obtain ⟨s0, s1, s2⟩ := qj5 Ws ha i
  obtain ⟨g0, g1, g2⟩ := qd4 E Ws l _ s0
  simp only [List.foldl_cons]
  refine ⟨g0, fun b0 y h hy => ?_, fun j hj x hx ho => ?_⟩
  ·obtain ⟨b1, z, hb1, hz, hn1⟩ := s1 b0 y h hy
   obtain ⟨b2, u, hb2, hu, hn2⟩ := g1 b1 z hb1 hz
   exact ⟨b2, u, hb2, hu, qj0 E hn1 hn2⟩
  ·rcases List.mem_cons.1 hj with rfl | hj
   ·obtain ⟨b1, z, hb1, hz, hn1⟩ := s2 x hx ho
    obtain ⟨b2, u, hb2, hu, hn2⟩ := g1 b1 z hb1 hz
    exact ⟨b2, u, hb2, hu, qj0 E hn1 hn2⟩
   ·exact g2 j hj x hx ho
theorem qux (L : List Ent) (Ws : List Wk) : qp2 L Ws (none, (0, 0)) := fun b0 h => by cases h
theorem qrw {Ws : List Wk} (hn : (Ws.map (·.num)).Nodup) {x y : Wk} (hx : x ∈ Ws) (hy : y ∈ Ws) (e : x.num = y.num) : x = y := by
 obtain ⟨i, hi⟩ := List.getElem?_of_mem hx
 obtain ⟨j, hj⟩ := List.getElem?_of_mem hy
 have := qhj hn hi hj e
 subst this
 rw [hi] at hj; cases hj; rfl
theorem qnh {L : List Ent} (E : Ents L) {Ws : List Wk} (hN : (Ws.map (·.num)).Nodup) (hS : ∀ x ∈ Ws, 0 <= x.st) {x : Wk} (hh : qa0 Ws x.key = some x) (ho : qbm L Ws x = true) (hmin : ∀ y, qa0 Ws y.key = some y -> qbm L Ws y = true -> icb L Ws y x = false) : ∃ b, qd1 L Ws = some b /\ Ws[b]? = some x := by
 obtain ⟨i, hi, hm⟩ := qk3 hS hh
 obtain ⟨b, y, hb, hy, hn⟩ := (qd4 E Ws (qcn Ws) _ (qux L Ws)).2.2 i hm x hi ho
 obtain ⟨y', hy', hyh, hyo⟩ := qc7 hb
 rw [hy] at hy'; cases hy'
 have hyy := qcj hS hy hyh
 have h1 := hmin y hyy hyo
 rw [qh9] at h1 hn
 have : x = y := by
  refine qrw hN (qak hh).1 (qak hyy).1 ?_
  rcases h1.2 with h2 | h2
  ·rw [hn.1] at h2; cases h2
  ·rcases hn.2 with h3 | h3
   ·rw [h1.1] at h3; cases h3
   ·omega
 subst this
 exact ⟨b, hb, hy⟩
theorem qnt {L : List Ent} {Ws : List Wk} (hS : ∀ x ∈ Ws, 0 <= x.st) (h : ∀ y, qa0 Ws y.key = some y -> qbm L Ws y = false) : qd1 L Ws = none := by
 cases hp : qd1 L Ws with
 | none => rfl
 | some b =>
  obtain ⟨y, hy, hyh, hyo⟩ := qc7 hp
  rw [h y (qcj hS hy hyh)] at hyo; cases hyo
def ql1 (D : Int) (a : Int × Int) (A : Int) : Prop := 0 < a.2 /\ a.1 * D = A * a.2
theorem qkf {D : Int} (hD : 0 < D) {a b : Int × Int} {A B : Int} (ha : ql1 D a A) (hb : ql1 D b B) : a.1 * b.2 < b.1 * a.2 ↔ A < B := by
 obtain ⟨ha2, ha⟩ := ha
 obtain ⟨hb2, hb⟩ := hb
 have e1 : a.1 * b.2 * D = A * (a.2 * b.2) := by
  rw [show a.1 * b.2 * D = a.1 * D * b.2 by ac_rfl, ha]; ac_rfl
 have e2 : b.1 * a.2 * D = B * (a.2 * b.2) := by
  rw [show b.1 * a.2 * D = b.1 * D * a.2 by ac_rfl, hb]; ac_rfl
 have hq : 0 < a.2 * b.2 := Int.mul_pos ha2 hb2
 constructor
 ·intro h
  have := Int.mul_lt_mul_of_pos_right h hD
  rw [e1, e2] at this
  exact Int.lt_of_mul_lt_mul_right this (by omega)
 ·intro h
  have := Int.mul_lt_mul_of_pos_right h hq
  rw [<- e1, <- e2] at this
  exact Int.lt_of_mul_lt_mul_right this (by omega)
theorem qg9 {D : Int} (hD : 0 < D) {a b : Int × Int} {A B : Int} (ha : ql1 D a A) (hb : ql1 D b B) : ql1 D (better a b) (max A B) := by
 have h := qkf hD ha hb
 unfold better
 split
 ·rename_i hl
  have := h.1 hl
  rw [show max A B = B by omega]
  exact hb
 ·rename_i hl
  have : ¬ A < B := fun e => hl (h.2 e)
  rw [show max A B = A by omega]
  exact ha
def shp (L : List Ent) (Ws : List Wk) (x : Wk) : Int :=
 max (max 0 (ws0 (qae Ws (joinB x.key)) + x.d0 - es0 (qaf L (joinB x.key))) * max 1 (es1 (qaf L []))) (max 0 (ws1 (qae Ws (joinB x.key)) + x.d1 - es1 (qaf L (joinB x.key))) * max 1 (es0 (qaf L [])))
theorem qmd {u d n al o : Int} (hal : 0 <= al) (h0 : al = 0 -> u + d - n <= 0) : ql1 (max 1 al * max 1 o) (shr u d n al) (max 0 (u + d - n) * max 1 o) := by
 unfold shr
 split
 ·rename_i h
  refine ⟨by decide, ?_⟩
  have : max 0 (u + d - n) = 0 := by
   rcases h with h | h
   ·have := h0 h; omega
   ·omega
  rw [this]; simp
 ·rename_i h
  have h1 : al ≠ 0 := fun e => h (.inl e)
  have h2 : ¬ (u + d - n < 0) := fun e => h (.inr e)
  refine ⟨show 0 < al by omega, ?_⟩
  rw [show max 0 (u + d - n) = u + d - n by omega, show max 1 al = al by omega]
  simp only
  ac_rfl
def Plain (L : List Ent) (Ws : List Wk) (x : Wk) : Prop :=
 (es0 (qaf L []) = 0 -> ws0 (qae Ws (joinB x.key)) + x.d0 - es0 (qaf L (joinB x.key)) <= 0) /\ (es1 (qaf L []) = 0 -> ws1 (qae Ws (joinB x.key)) + x.d1 - es1 (qaf L (joinB x.key)) <= 0)
theorem qef {L : List Ent} (E : Ents L) {Ws : List Wk} {x : Wk} (h : Plain L Ws x) : ql1 (max 1 (es0 (qaf L [])) * max 1 (es1 (qaf L []))) (qav L Ws x) (shp L Ws x) := by
 have hb := qeo E []
 have hD : 0 < max 1 (es0 (qaf L [])) * max 1 (es1 (qaf L [])) := Int.mul_pos (by omega) (by omega)
 have p0 : ql1 (max 1 (es0 (qaf L [])) * max 1 (es1 (qaf L []))) (0, 1) 0 := ⟨by decide, by simp⟩
 have p1 := qmd (o := es1 (qaf L [])) hb.1.1 h.1
 have p2 := qmd (o := es0 (qaf L [])) hb.2.1 h.2
 rw [Int.mul_comm (max 1 (es1 (qaf L []))) (max 1 (es0 (qaf L [])))] at p2
 have p3 := qg9 hD (qg9 hD p0 p1) p2
 have hn : 0 <= max 0 (ws0 (qae Ws (joinB x.key)) + x.d0 - es0 (qaf L (joinB x.key))) * max 1 (es1 (qaf L [])) := Int.mul_nonneg (by omega) (by omega)
 unfold qav shp
 rw [show max 0 (max 0 (ws0 (qae Ws (joinB x.key)) + x.d0 - es0 (qaf L (joinB x.key))) * max 1 (es1 (qaf L []))) = max 0 (ws0 (qae Ws (joinB x.key)) + x.d0 - es0 (qaf L (joinB x.key))) * max 1 (es1 (qaf L [])) by omega] at p3
 exact p3
theorem qvx {L : List Ent} (E : Ents L) {Ws : List Wk} {x y : Wk} (hx : Plain L Ws x) (hy : Plain L Ws y) : icb L Ws x y = (decide (shp L Ws x < shp L Ws y) || (decide (shp L Ws x = shp L Ws y) && decide (x.num < y.num))) := by
 have hD : 0 < max 1 (es0 (qaf L [])) * max 1 (es1 (qaf L [])) := Int.mul_pos (by omega) (by omega)
 have h1 := qkf hD (qef E hx) (qef E hy)
 have h2 := qkf hD (qef E hy) (qef E hx)
 unfold icb qc2
 have e1 : decide ((qav L Ws x).1 * (qav L Ws y).2 < (qav L Ws y).1 * (qav L Ws x).2) = decide (shp L Ws x < shp L Ws y) := decide_eq_decide.2 h1
 have e2 : decide ((qav L Ws y).1 * (qav L Ws x).2 < (qav L Ws x).1 * (qav L Ws y).2) = decide (shp L Ws y < shp L Ws x) := decide_eq_decide.2 h2
 rw [e1, e2]
 rcases Int.lt_trichotomy (shp L Ws x) (shp L Ws y) with h | h | h
 ·simp [h]
 ·simp [h]
 ·simp only [show ¬ (shp L Ws x < shp L Ws y) by omega, show ¬ (shp L Ws x = shp L Ws y) by omega, h, decide_true, decide_false]; simp
theorem qqw {Ws : List Wk} {b : Nat} {x : Wk} (h : Ws[b]? = some x) : stAt Ws b = x.st := by simp [stAt, h]
theorem qet (L : List Ent) (Ws : List Wk) (x : Wk) : ∀ n k u, k < n -> Ws[k]? = some u -> u.st ≠ 0 -> way L Ws x u = true -> ∃ b w, qaq L Ws x n = some b /\ Ws[b]? = some w /\ u.st <= w.st
 | 0, k, u, hk, _, _, _ => by omega
 | n + 1, k, u, hk, hu, h0, hw => by
  rw [qda]
  unfold qpe
  cases hv : Ws[n]? with
  | none =>
   have : k ≠ n := fun e => by subst e; rw [hv] at hu; cases hu
   exact qet L Ws x n k u (by omega) hu h0 hw
  | some v =>
   simp only
   by_cases e : k = n
   ·subst e
    rw [hv] at hu; cases hu
    cases hs : skips Ws (qaq L Ws x k) u with
    | false =>
     simp only [Bool.false_eq_true, if_false, hw, if_true]
     exact ⟨k, u, rfl, hv, Int.le_refl _⟩
    | true =>
     simp only [if_true]
     unfold skips at hs
     rw [show (u.st == 0) = false by simp [h0], Bool.false_or] at hs
     cases hb : qaq L Ws x k with
     | none => rw [hb] at hs; cases hs
     | some b =>
      rw [hb] at hs
      simp only [decide_eq_true_eq] at hs
      obtain ⟨w, hw2, _⟩ := qa5 L Ws x k b hb
      rw [qqw hw2] at hs
      exact ⟨b, w, rfl, hw2, by omega⟩
   ·obtain ⟨b, w, hb, hbw, hle⟩ := qet L Ws x n k u (by omega) hu h0 hw
    cases hs : skips Ws (qaq L Ws x n) v with
    | true => simp only [if_true]; exact ⟨b, w, hb, hbw, hle⟩
    | false =>
     simp only [Bool.false_eq_true, if_false]
     cases hww : way L Ws x v with
     | false => simp only [Bool.false_eq_true, if_false]; exact ⟨b, w, hb, hbw, hle⟩
     | true =>
      simp only [if_true]
      refine ⟨n, v, rfl, hv, ?_⟩
      unfold skips at hs
      rw [hb] at hs
      simp only [Bool.or_eq_false_iff, decide_eq_false_iff_not] at hs
      have := hs.2
      rw [qqw hbw] at this
      omega
theorem qq1 {Ws : List Wk} (hn : ((Ws.filter fun x => decide (0 < x.st)).map (·.st)).Nodup) {x y : Wk} (hx : x ∈ Ws) (hy : y ∈ Ws) (hx0 : 0 < x.st) (hy0 : 0 < y.st) (e : x.st = y.st) : x = y := by
 have hx' : x ∈ Ws.filter fun x => decide (0 < x.st) := List.mem_filter.2 ⟨hx, by simpa using hx0⟩
 have hy' : y ∈ Ws.filter fun x => decide (0 < x.st) := List.mem_filter.2 ⟨hy, by simpa using hy0⟩
 obtain ⟨i, hi⟩ := List.getElem?_of_mem hx'
 obtain ⟨j, hj⟩ := List.getElem?_of_mem hy'
 have := qhj hn hi hj e
 subst this
 rw [hi] at hj; cases hj; rfl
theorem qqd {L : List Ent} {Ws : List Wk} {st : Int} (hS : WkS Ws st) (x : Wk) {v : Wk} (hv : v ∈ Ws) (h0 : 0 < v.st) (hw : way L Ws x v = true) (hmax : ∀ u ∈ Ws, 0 < u.st -> way L Ws x u = true -> u.st <= v.st) : ∃ i, qch L Ws x = some i /\ Ws[i]? = some v := by
 obtain ⟨k, hk⟩ := List.getElem?_of_mem hv
 obtain ⟨b, w, hb, hbw, hle⟩ := qet L Ws x Ws.length k v (List.getElem?_eq_some_iff.1 hk).1 hk (by omega) hw
 obtain ⟨w', hw', hw0, hww⟩ := qa5 L Ws x _ b hb
 rw [hbw] at hw'; cases hw'
 have hwm := List.mem_of_getElem? hbw
 have hwp := (hS.st w hwm).1
 have := hmax w hwm (by omega) hww
 have := qq1 hS.sts hv hwm h0 (by omega) (by omega)
 subst this
 exact ⟨b, hb, hbw⟩
theorem qji {L : List Ent} {Ws : List Wk} {x : Wk} (h : ∀ u ∈ Ws, u.st ≠ 0 -> way L Ws x u = false) : qch L Ws x = none := by
 cases hv : qch L Ws x with
 | none => rfl
 | some i =>
  obtain ⟨v, hv, h0, hw⟩ := qa5 L Ws x _ i hv
  rw [h v (List.mem_of_getElem? hv) h0] at hw; cases hw
theorem qtz {L : List Ent} {Ws : List Wk} {x : Wk} (h : qbm L Ws x = true) (v : Wk) : way L Ws x v = false := by
 unfold qbm at h
 rw [List.all_eq_true] at h
 unfold way
 rw [List.any_eq_false]
 intro e he
 have := h e he
 unfold tight at this
 unfold way0 way1
 cases h1 : inB (joinB x.key) (joinB e.key)
 ·simp
 ·rw [h1] at this
  simp only [Bool.true_and, Bool.not_eq_true', Bool.or_eq_false_iff] at this
  rw [this.1, this.2]
  simp
theorem qfr {L : List Ent} {Ws : List Wk} {x : Wk} (h : qbm L Ws x = true) : qch L Ws x = none := qji fun u _ _ => qtz h u
theorem qfu {L : List Ent} {x : Wk} {s : MS} : roomStep L x s = none ↔ qch L s.Ws x = none := by
 constructor
 ·intro h
  cases hv : qch L s.Ws x with
  | none => rfl
  | some i =>
   unfold roomStep at h
   split at h
   ·rename_i hf; rw [qfr hf] at hv; cases hv
   ·rw [hv] at h
    obtain ⟨v, hv2, _⟩ := qa5 L s.Ws x _ i hv
    simp only at h
    rw [hv2] at h
    cases h
 ·intro h
  unfold roomStep
  split
  ·rfl
  ·rw [h]
theorem qe1 {L : List Ent} {x : Wk} {s : MS} {i : Nat} {v : Wk} (h : qch L s.Ws x = some i) (hv : s.Ws[i]? = some v) : roomStep L x s = some ⟨v.adm 0 :: (s.Ws.take i ++ s.Ws.drop (i + 1)), s.evs ++ [(2, v.num)]⟩ := by
 unfold roomStep
 split
 ·rename_i hf; rw [qfr hf] at h; cases h
 ·rw [h]
  simp only
  rw [hv]
end Go.Proofs.YtphclnolomgjoaaGreatDoor
