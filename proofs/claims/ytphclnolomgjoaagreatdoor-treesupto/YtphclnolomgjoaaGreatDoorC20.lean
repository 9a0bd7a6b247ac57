import Derived.Test.YtphclnolomgjoaaGreatDoorC06
import Derived.Test.YtphclnolomgjoaaGreatDoorC19
import Derived.Test.YtphclnolomgjoaaGreatDoorC15
import Derived.OrdersIn
import Derived.RangeFuncCalls
import Derived.Deep.RegionHeld3
import Derived.Test.YtphclnolomgjoaaGreatDoorC18
import Derived.Test.YtphclnolomgjoaaGreatDoorC14
import Derived.Deep.RegionLaw
set_option linter.unusedVariables false
set_option linter.unusedSimpArgs false
namespace Go.Proofs.YtphclnolomgjoaaGreatDoor
open Go.RowKit Go.Shelf
attribute [local go_sem] Oper.semAt_some
def qj3 (l : List Pw) : List (Pw × Nat) := l.zipIdx.reverse
theorem qru (l : List Pw) : (qj3 l).map Prod.fst = l.reverse := by
 unfold qj3; rw [List.map_reverse]; simp
theorem qtx {l : List Pw} {j : Nat} {p : Pw} (hj : l[j]? = some p) : (l.zipIdx.drop j).reverse = (l.zipIdx.drop (j + 1)).reverse ++ [(p, j)] := by
 obtain ⟨hl, rfl⟩ := List.getElem?_eq_some_iff.1 hj
 rw [List.drop_eq_getElem_cons (by simpa using hl)]
 simp
theorem qqq (l : List Pw) (j : Nat) : (l.zipIdx.drop j).reverse <+: qj3 l := by
 unfold qj3
 rw [List.reverse_prefix]
 exact List.drop_suffix _ _
set_option maxRecDepth 100000 in
set_option maxHeartbeats 2000000 in
theorem qt7 {w : World} {va : Value} {l : List Pw} (hA : WRow w va l) (hlen : l.length <= 100) :
  Calls Tryz.prog 239 #[va] w fun e w' => e = .returned (.func (.func 247) #[] #[.pointer (some ⟨w.heap.size, 0, none⟩)]) /\ w' = w.alloc (.cells #[va] 98) /\
   ∀ T : Nat -> Prop, (∀ b, va.ownBlock = some b -> ¬ T b) -> ¬ T w.heap.size ->
    SeqM Tryz.prog 247 #[.pointer (some ⟨w.heap.size, 0, none⟩)] (fun p : Pw × Nat => #[.int .i64 p.2, nptr p.1.blk]) (fun _ => False) 0 T (qj3 l) w' := by
 have hmf : ∀ (fn : Fn) (first cap : Array Value) (w : World), (Instr.makeFunc fn first cap).run Tryz.prog w = .ok (.func fn first cap) w := fun _ _ _ _ => rfl
 have key : ∀ T : Nat -> Prop, (∀ b, va.ownBlock = some b -> ¬ T b) -> ¬ T w.heap.size ->
    SeqM Tryz.prog 247 #[.pointer (some ⟨w.heap.size, 0, none⟩)] (fun p : Pw × Nat => #[.int .i64 p.2, nptr p.1.blk]) (fun _ => False) 0 T (qj3 l) (w.alloc (.cells #[va] 98)) := by
  intro T hTv hT1 k ll J Jx W hW2 hl hll hJ hJx hY h0
  have hdd : ∀ k : Nat, Fence.wide.depth.isSome = true -> 1 <= k := fun k h => by simp [Fence.wide] at h
  have hb0 : Below w.heap.size w W := qac (show Below w.heap.size w (w.alloc (.cells #[va] 98)) by exact bel2) hW2
  have x1 : Box W w.heap.size 98 va := (Box.new w 98 _).below hW2 (by simp)
  have hsw : w.heap.size < W.heap.size := x1.lt
  have hAW : W.ownsRow 0 95 1 va l.length (qay l) := qab (T := fun _ => False) hA.row (Keep.new hb0) (fun _ _ e => e)
  have hTv2 : ∀ b, va.ownBlock = some b -> ¬ (T b \/ b = ll \/ W.heap.size + 0 <= b) := fun b hb e => by
   have := qal hA.row hb
   simp at hl
   rcases e with e | e | e
   ·exact hTv b hb e
   ·omega
   ·omega
  have hT12 : ¬ (T w.heap.size \/ w.heap.size = ll \/ W.heap.size + 0 <= w.heap.size) := fun e => by
   simp at hl
   rcases e with e | e | e
   ·exact hT1 e
   ·omega
   ·omega
  have c1 := x1.cell
  obtain ⟨a0, cap, hv, hcap, hcm⟩ := qbe hA.row
  obtain ⟨n, hn⟩ : ∃ n, n = l.length := ⟨_, rfl⟩
  rw [<- hn] at hlen hv hcap
  have HN : Hid (n = l.length) := hn
  have HV : Hid (va = .slice a0 n cap) := hv
  rw [hv] at c1
  clear hn hv
  refine callsIn_of_wp Tryz.func247 rfl trivial ?_ rfl
  simp only [Tryz.ntmps247, List.size_toArray, List.length_cons, List.length_nil, Nat.reduceAdd, Nat.reduceSub, Array.replicate_succ, Array.replicate_zero, List.push_toArray, List.append_toArray, List.nil_append, List.cons_append]
  gi_wp2
  gi_loopg [3] n (fun q v wr => ∃ j : Nat, v = .int .i64 ((j : Int) - 1) /\ j <= n /\ j <= q /\ J (l.zipIdx.drop j).reverse wr /\ W.heap.size <= wr.heap.size /\ Keep (fun b => T b \/ b = ll \/ W.heap.size + 0 <= b) W wr)
  case atStart => exact ⟨n, rfl, Nat.le_refl _, Nat.le_refl _, by rw [List.drop_of_length_le (by simp [HN.out])]; exact h0, Nat.le_refl _, Keep.refl _ _⟩
  case round =>
   obtain ⟨j, rfl, hj, hq, hJj, hsz, hkj⟩ := hrel
   by_cases hj0 : j = 0
   ·subst hj0
    gi_wp2
    go_end0
    exact ⟨⟨_, rfl⟩, .inl (by simpa [qj3] using hJj)⟩
   ·obtain ⟨i, rfl⟩ : ∃ i, j = i + 1 := ⟨j - 1, by omega⟩
    obtain ⟨p, hp⟩ : ∃ p, l[i]? = some p := ⟨_, List.getElem?_eq_getElem (by rw [<- HN.out]; omega)⟩
    have hrow := qab hAW hkj hTv2
    obtain ⟨g, hg⟩ : ∃ g, a0 = some ⟨g, 0, none⟩ := by
     obtain ⟨g, cap2, hv2, _⟩ := qat hrow (Nat.lt_of_le_of_lt (Nat.zero_le _) (List.getElem?_eq_some_iff.1 hp).1)
     have := HV.out; rw [hv2] at this; injection this with e1; exact ⟨g, e1.symm⟩
    subst hg
    have hcell : wr.cell? ⟨g, i, none⟩ = some (.pointer (some ⟨p.blk, 0, none⟩)) := by
     have := hrow.cells (g := g) (by rw [HV.out]; rfl) i (nptr p.blk) (by unfold qay; rw [List.getElem?_map, hp]; rfl)
     rwa [Addr.add_lit, Nat.zero_add] at this
    have k1 : wr.cell? ⟨w.heap.size, 0, none⟩ = some (.slice (some ⟨g, 0, none⟩) n cap) := by rw [<- HV.out]; exact (x1.keep hkj hT12).cell
    have HTK : Hid ((l.zipIdx.drop i).reverse = (l.zipIdx.drop (i + 1)).reverse ++ [(p, i)]) := qtx hp
    have hX1 : (l.zipIdx.drop (i + 1)).reverse ++ [(p, i)] <+: qj3 l := by rw [<- HTK.out]; exact qqq l i
    obtain ⟨fn, tmps, assign, body, hy, hR⟩ := hY (k - 1) _ (p, i) wr hJj (by omega) hX1
    have hi1 : (i : Int) < n := by omega
    have hi2 : (0 : Int) <= i := by omega
    have hsub : ((i + 1 : Nat) : Int) - 1 = (i : Int) := by omega
    rw [hsub]
    clear hY hp h0
    unfold nptr at hy
    gi_wp2_with (refine ⟨hdd _, ?_⟩; refine hR.mono ?_; clear hR; rintro e W2 (⟨rfl, hJ2, hk2⟩ | ⟨rfl, hx2, hk2⟩))
    ·gi_roundg i
     case measure => omega
     case rel => exact ⟨i, by go_num, by omega, Nat.le_refl _, by rw [HTK.out]; exact hJ2, Nat.le_trans hsz hk2.size, hkj.trans hk2⟩
    ·refine bodyPost_ret (results_none rfl _ _ _) rfl ?_
     exact ⟨⟨_, rfl⟩, .inr ⟨_, hX1, hx2⟩⟩
 obtain ⟨a0, cap, hv, _, _⟩ := qbe hA.row
 rw [hv] at key ⊢
 unfold nptr at key ⊢
 go_enter Tryz.func239, Tryz.ntmps239
 go_wp2
 go_ret
 exact ⟨rfl, rfl, key⟩
set_option maxRecDepth 100000 in
set_option maxHeartbeats 2000000 in
theorem qo5 {w : World} {bt : Nat} {va : Value} {l : List Pw} (hc : w.cell? ⟨bt, 3, none⟩ = some va) (hA : WRow w va l) (hlen : l.length <= 100) :
  Calls Tryz.prog 230 #[.pointer (some ⟨bt, 1, none⟩)] w fun e w' => e = .returned (.func (.func 238) #[] #[.pointer (some ⟨w.heap.size, 0, none⟩)]) /\ w' = w.alloc (.cells #[.pointer (some ⟨bt, 1, none⟩)] 132) /\
   ∀ T : Nat -> Prop, (∀ b, T b -> b < w.heap.size) -> ¬ T bt -> (∀ b, va.ownBlock = some b -> ¬ T b) ->
    SeqM Tryz.prog 238 #[.pointer (some ⟨w.heap.size, 0, none⟩)] (fun p : Pw => #[nptr p.blk]) (fun _ => False) 4 T l.reverse w' := by
 have hmf : ∀ (fn : Fn) (first cap : Array Value) (w : World), (Instr.makeFunc fn first cap).run Tryz.prog w = .ok (.func fn first cap) w := fun _ _ _ _ => rfl
 have key : ∀ T : Nat -> Prop, (∀ b, T b -> b < w.heap.size) -> ¬ T bt -> (∀ b, va.ownBlock = some b -> ¬ T b) ->
    SeqM Tryz.prog 238 #[.pointer (some ⟨w.heap.size, 0, none⟩)] (fun p : Pw => #[nptr p.blk]) (fun _ => False) 4 T l.reverse (w.alloc (.cells #[.pointer (some ⟨bt, 1, none⟩)] 132)) := by
  intro T hTl hTb hTv k ll J Jx W hW2 hl hll hJ hJx hY h0
  have hdd : ∀ k : Nat, Fence.wide.depth.isSome = true -> 1 <= k := fun k h => by simp [Fence.wide] at h
  have hb0 : Below w.heap.size w W := qac (show Below w.heap.size w (w.alloc (.cells #[.pointer (some ⟨bt, 1, none⟩)] 132)) by exact bel2) hW2
  have x1 : Box W w.heap.size 132 (.pointer (some ⟨bt, 1, none⟩)) := (Box.new w 132 _).below hW2 (by simp)
  have hsw : w.heap.size < W.heap.size := x1.lt
  have hbt : bt < w.heap.size := by have := World.block_lt_of_cell? w _ hc; simpa using this
  have hl1 : w.heap.size + 1 <= ll := by simpa using hl
  have hrl := fun b (hb : va.ownBlock = some b) => qal hA.row hb
  have hback := fun W' (hW' : Below w.heap.size w W') => qt7 (w := W') ⟨qab (T := fun _ => False) hA.row (Keep.new hW') (fun _ _ e => e), fun p hp => (hA.works p hp).below hW' (hA.works p hp).lt⟩ hlen
  have c1 := x1.cell
  have c3 : W.cell? ⟨bt, 3, none⟩ = some va := (hb0.cell (p := ⟨bt, 3, none⟩) hbt).trans hc
  have hn1 : ¬ (bt = W.heap.size) := by omega
  have hn2 : ¬ (w.heap.size = W.heap.size) := by omega
  have hfst := qru l
  obtain ⟨a0, cap, hv, _, _⟩ := qbe hA.row
  have HV : Hid (va = .slice a0 l.length cap) := hv
  obtain ⟨n, hn⟩ : ∃ n, n = l.length := ⟨_, rfl⟩
  rw [<- hn] at hv
  clear hn
  subst hv
  have c3' : (W.alloc (.cells #[.func (.yield ll) #[] #[]] 232)).cell? ⟨bt, 3, none⟩ = some (.slice a0 n cap) := (World.cell?_alloc_lt _ _ _ (by simp; omega)).trans c3
  have c1' : (W.alloc (.cells #[.func (.yield ll) #[] #[]] 232)).cell? ⟨w.heap.size, 0, none⟩ = some (.pointer (some ⟨bt, 1, none⟩)) := (World.cell?_alloc_lt _ _ _ (by simp; omega)).trans c1
  clear hc c1 c3
  generalize hX : qj3 l = X at hback hfst
  clear hX
  refine callsIn_of_wp_marks Tryz.func238 rfl trivial ?_ rfl
  simp only [Tryz.ntmps238, List.size_toArray, List.length_cons, List.length_nil, Nat.reduceAdd, Nat.reduceSub, Array.replicate_succ, Array.replicate_zero, List.push_toArray, List.append_toArray, List.nil_append, List.cons_append]
  gi_wp2_with ((first | refine ⟨trivial, hdd _, ?_⟩ | refine ⟨trivial, ?_⟩); gi_at_call 239; refine (callsIn_wide.2 (hback _ (by exact bel1))).mono ?_; rintro e W3 ⟨rfl, rfl, hseq⟩)
  obtain ⟨W3, hW3⟩ : ∃ W3, W3 = (W.alloc (.cells #[.func (.yield ll) #[] #[]] 232)).alloc (.cells #[.slice a0 n cap] 98) := ⟨_, rfl⟩
  have hs3 : W3.heap.size = W.heap.size + 2 := by rw [hW3]; simp
  have z1 : Box W3 W.heap.size 232 (.func (.yield ll) #[] #[]) := by rw [hW3]; exact (Box.new W 232 _).alloc _
  have hK3 : Below W.heap.size W W3 := by rw [hW3]; exact bel2
  rw [World.size_alloc] at hseq
  simp only [<- hW3] at hseq ⊢
  have hq := hseq (fun b => T b \/ b = ll) (fun b hb e => by
   have := hrl b hb
   rcases e with e | e
   ·exact hTv b hb e
   ·omega) (fun e => by
   rcases e with e | e
   ·have := hTl _ e; omega
   ·omega)
  clear hseq hback hW3 c1' c3'
  have hown : ∀ b, False \/ (W3.heap.size <= b /\ b < W3.heap.size + 2 + 0) -> False \/ (W.heap.size <= b /\ b < W.heap.size + 4) := fun b e => e.imp id (fun e => by omega)
  refine qgs (T := fun b => T b \/ b = ll) (S := fun _ => False) rfl (enters_of Tryz.func247 (by kernel_rfl) rfl) hq (Below.refl _ _) (fun _ => rfl) (fun b e => e.elim) (fun b e => by
    rcases e with e | e
    ·have := hTl _ e; omega
    ·omega)
   (fun (pre : List (Pw × Nat)) A => J (pre.map Prod.fst) A /\ Box A W.heap.size 232 (.func (.yield ll) #[] #[]))
   (fun c (pre : List (Pw × Nat)) A => c = .ret /\ Jx (pre.map Prod.fst) A)
   (fun pre A B hs hk => ⟨hJ _ _ _ hs.1 (hk.mono hown), hs.2.keep hk (fun e => by rcases e with e | e; exact e; omega)⟩)
   (fun c pre A B hs hk => ⟨hs.1, hJx _ _ _ hs.2 (hk.mono hown)⟩)
   ⟨hJ _ _ _ h0 (Keep.new hK3), z1⟩
   (fun x => { tmps := #[.func (.yield ll) #[] #[], .pointer (some ⟨w.heap.size, 0, none⟩), .pointer (some ⟨W.heap.size, 0, none⟩), undef, nptr x.1.blk, .pointer (some ⟨bt, 1, none⟩), .pointer (some ⟨bt, 1, none⟩), .pointer (some ⟨bt, 3, none⟩), .slice a0 n cap, .func (.func 247) #[] #[.pointer (some ⟨W.heap.size + 1, 0, none⟩)], .int .i64 x.2, nptr x.1.blk, undef, undef, undef, undef], defers := [] }) ?assign ?body ?done ?stop
  case assign =>
   intro l x W K hK
   gi_wp2
   exact hK
  case body =>
   rintro l2 pre x W4 ⟨hj, hbx⟩ hsz hpre
   have hpre2 : pre.map Prod.fst ++ [x.1] <+: l.reverse := by
    rw [<- hfst]
    have := hpre.map Prod.fst
    simpa using this
   obtain ⟨fn, tmps, assign, body, hy, hR⟩ := hY (k - 1) _ x.1 W4 hj (by omega) hpre2
   have hc4 := hbx.cell
   have hR2 := hR.mono (R' := fun e W' => (e = .returned (.bool true) /\ (J ((pre ++ [x]).map Prod.fst) W' /\ Box W' W.heap.size 232 (.func (.yield ll) #[] #[])) /\ Keep (fun b => (T b \/ b = ll) \/ W3.heap.size + 2 + 0 <= b) W4 W') \/ (e = .returned (.bool false) /\ Jx ((pre ++ [x]).map Prod.fst) W' /\ Keep (fun b => (T b \/ b = ll) \/ W3.heap.size + 2 + 0 <= b) W4 W')) (fun e W' h => by
    have hmono : ∀ b, (T b \/ b = ll \/ W.heap.size + 4 <= b) -> ((T b \/ b = ll) \/ W3.heap.size + 2 + 0 <= b) := fun b e => by
     rcases e with e | e | e
     ·exact .inl (.inl e)
     ·exact .inl (.inr e)
     ·exact .inr (by omega)
    rcases h with ⟨h1, h2, h3⟩ | ⟨h1, h2, h3⟩
    ·refine .inl ⟨h1, ⟨by simpa using h2, hbx.keep h3 (fun e => ?_)⟩, h3.mono hmono⟩
     rcases e with e | e | e
     ·have := hTl _ e; omega
     ·omega
     ·omega
    ·exact .inr ⟨h1, by simpa using h2, h3.mono hmono⟩)
   clear hR hY hq hpre hpre2 hj
   unfold nptr at hy ⊢
   gi_wp2_with (refine ⟨hdd _, ?_⟩; refine hR2.mono ?_; clear hR2; rintro e W5 (⟨rfl, hJ5, hk5⟩ | ⟨rfl, hx5, hk5⟩))
   ·exact ⟨hk5, hJ5⟩
   ·exact ⟨hk5, rfl, hx5⟩
  case done =>
   rintro A ⟨hj, hbx⟩ hD
   gi_wp2
   refine ⟨by simp, .inl ⟨_, _, rfl, run_takeDeferred hD, ?_⟩⟩
   rw [hfst] at hj
   exact ⟨.tuple #[], by simp [results, Tryz.results238, go_sem], ⟨_, rfl⟩, .inl (hJ _ _ _ hj ((Keep.refl _ _).putObj (.inr (by omega)) _))⟩
  case stop =>
   rintro c pre A hpre ⟨rfl, hx⟩ hD
   gi_wp2
   refine ⟨by simp, .inl ⟨_, _, rfl, run_takeDeferred hD, ?_⟩⟩
   refine ⟨.tuple #[], by simp [results, Tryz.results238, go_sem], ⟨_, rfl⟩, .inr ⟨pre.map Prod.fst, ?_, hJx _ _ _ hx ((Keep.refl _ _).putObj (.inr (by omega)) _)⟩⟩
   rw [<- hfst]
   exact hpre.map _
 unfold nptr at key ⊢
 go_enter Tryz.func230, Tryz.ntmps230
 go_wp2
 go_ret
 exact ⟨rfl, rfl, key⟩
def qup (N : Act -> World -> Prop) (e : Exit) (a : Act) (w : World) : Prop := e = .normal /\ N a w
theorem qn8 {N : Act -> World -> Prop} (h : LetsOut (qup N)) : False := by
 obtain ⟨a, w, h, _⟩ := h
 cases h
def isDefer : Op -> Bool
 | .defer _ => true
 | _ => false
def qfw (ops : Array Oper) : Bool := ops.all fun o => !(isDefer o.op)
theorem qm9 {ops : Array Oper} (h : qfw ops = true) {i : Nat} {o : Oper} (hi : ops[i]? = some o) : ∀ c, o.op ≠ .defer c := by
 intro c hc
 unfold qfw at h
 rw [Array.all_eq_true] at h
 obtain ⟨hlt, he⟩ := Array.getElem?_eq_some_iff.1 hi
 have := h i hlt
 rw [he, hc] at this
 simp [isDefer] at this
theorem qne {P : Program} {ops : Array Oper} {l n : Nat} {N : Act -> World -> Prop} {Q : Exit -> Act -> World -> Prop} (hnd : qfw ops = true) {i : Nat} {K : Act -> World -> Prop} {a : Act} {w : World}
  (h : wpOp P ops (qup N) i K a w) : wpOpIn (Fence.wide.inRound l) n P ops Q i K a w := by
 unfold wpOp at h
 unfold wpOpIn
 cases hi : ops[i]? with
 | none => simp only [hi] at h ⊢; exact h
 | some o =>
  simp only [hi] at h ⊢
  by_cases hw : Region.wanted o (yielded ops a.tmps) = true
  ·rw [if_pos hw] at h ⊢
   rcases h with h | ⟨_, h⟩
   ·refine ⟨fun _ _ => trivial, ?_⟩
    rw [Oper.semAt_eq _ _ _ (qm9 hnd hi)]
    unfold Oper.wp at h
    generalize (execOp a.eval o).run P w = r at h ⊢
    cases r with
    | ok x w' =>
     cases x with
     | value v => exact h
     | skip => exact h
     | defer d => exact h
     | enter f args =>
      refine ⟨fun e => (by simp [Fence.wide] at e), ?_⟩
      refine CallsIn.inRound l ((callsIn_wide.2 h).mono ?_)
      intro e w'' he
      cases e with
      | returned v => exact he
      | panicked c => exact absurd he.1 (by intro e; cases e)
      | outgrown => exact (qn8 he).elim
     | row row args =>
      refine ⟨fun e => (by simp [Fence.wide] at e), ?_⟩
      intro c cs _
      obtain ⟨v, w2, h1, h2⟩ := h c cs
      exact ⟨v, w2, h1, stepsIn_wide.2 h2⟩
     | _ => exact h.elim
    | halt x w' =>
     cases x with
     | panic v => exact absurd h.1 (by intro e; cases e)
     | _ => exact h.elim
   ·exact (qn8 h).elim
  ·rw [if_neg hw] at h ⊢
   exact ⟨fun _ _ => trivial, h⟩
theorem qhc {P : Program} {ops : Array Oper} {md : Region.Mode} {l n : Nat} {N : Act -> World -> Prop} {Q : Exit -> Act -> World -> Prop} {S : World -> Prop} (hnd : qfw ops = true) (hN : ∀ a w, N a w -> Q .normal a w) :
  ∀ (fuel : Nat) (listed : Array Bool) (a : Act) (w : World), wpAnyH P md ops (qup N) S fuel listed a w -> wpAnyIn (Fence.wide.inRound l) n P md ops Q fuel listed a w
 | 0, _, _, _, h => ⟨h.1, hN _ _ h.2.2⟩
 | fuel + 1, listed, a, w, h => ⟨fun e => hN _ _ (h.1 e).2, fun i hi => qne hnd (wpOp_mono (fun a' w' h' => qhc hnd hN fuel _ a' w' h'.2) (h.2 i hi))⟩
theorem qdk {P : Program} {ops : Array Oper} {l n id : Nat} {K : Act -> World -> Prop} {Q : Exit -> Act -> World -> Prop} {a : Act} {w : World} (S : World -> Prop) (hm : P.follows .mixedOrders = true) (hnd : qfw ops = true) (hS : S w.drew)
  (h : S w.drew -> wpAnyH P .any ops (qup K) S ops.size (Array.replicate ops.size false) a w.drew) : (Code.region id ops true).wpIn (Fence.wide.inRound l) n P (Exit.then K Q) a w :=
 wpIn_region_any hm (qhc hnd (fun _ _ h => h) _ _ _ _ (h hS))
end Go.Proofs.YtphclnolomgjoaaGreatDoor
namespace Go.Proofs.YtphclnolomgjoaaGreatDoor
open Go.RowKit
structure qme (W : World) (rr bt : Nat) (rt ev : Value) (evs : List (Int × Int)) : Prop where
 at_ : Blk W rr 188 #[rt, .pointer (some ⟨bt, 1, none⟩), ev]
 row : W.ownsRow 0 60 2 ev evs.length (qai evs)
set_option maxRecDepth 100000 in
set_option maxHeartbeats 2000000 in
theorem ql9 {w : World} {rr bt : Nat} {rt ev : Value} {evs : List (Int × Int)} (h : qme w rr bt rt ev evs) (hl : evs.length <= 10000) {p : Pw} (hp : Blk w p.blk 105 p.cells) (k : Int) :
  Calls Tryz.prog 212 #[.pointer (some ⟨rr, 0, none⟩), .int .i64 k, nptr p.blk] w fun e w' => e = .returned (.tuple #[]) /\ ∃ ev', qme w' rr bt rt ev' (evs ++ [(k, p.x.num)]) /\ Keep (fun y => y = rr \/ ev.ownBlock = some y) w w' /\ (∀ b, ev'.ownBlock = some b -> ev.ownBlock = some b \/ w.heap.size <= b) := by
 have hne : ev.ownBlock ≠ some rr := qag h.row h.at_ (by decide)
 have hlt := h.at_.lt
 have hap := fun (W : World) (hB : Below w.heap.size w W) (nb : Nat) (hnb : Blk W nb 60 #[.int .i64 k, .int .i64 p.x.num]) => qby un48 qm7 (by omega) W ev evs.length (qai evs) (qab (T := fun _ => False) h.row (Keep.new hB) (fun _ _ e => e)) nb 1 1 (by omega) [.int .i64 k, .int .i64 p.x.num] rfl hnb (fun u hu => by simp at hu; rcases hu with rfl | rfl <;> rfl) (by unfold maxLen; omega) (by omega)
 have hpost : ∀ W, Below w.heap.size w W -> ∀ g' cap' w', AppR W ev.ownBlock 60 2 (evs.length + 1) (qai evs ++ [.int .i64 k, .int .i64 p.x.num]) g' cap' w' -> Blk w' rr 188 #[rt, .pointer (some ⟨bt, 1, none⟩), ev] /\ Hid (∀ W3, Below (w'.setCell ⟨rr, 2, none⟩ (.slice (some ⟨g', 0, none⟩) (evs.length + 1) cap')).heap.size (w'.setCell ⟨rr, 2, none⟩ (.slice (some ⟨g', 0, none⟩) (evs.length + 1) cap')) W3 -> ∃ ev', qme W3 rr bt rt ev' (evs ++ [(k, p.x.num)]) /\ Keep (fun y => y = rr \/ ev.ownBlock = some y) w W3 /\ (∀ b, ev'.ownBlock = some b -> ev.ownBlock = some b \/ w.heap.size <= b)) := fun W hB0 g' cap' w' R => by
  have hb' := (h.at_.below hB0 hlt).keep R.keep hne
  have hz := hB0.size
  have hg' : g' ≠ rr := fun e => by
   rcases R.new with e2 | e2
   ·rw [e] at e2; exact hne e2
   ·omega
  refine ⟨hb', fun W3 hW3 => ⟨.slice (some ⟨g', 0, none⟩) (evs.length + 1) cap', ⟨?_, ?_⟩, ?_, ?_⟩⟩
  ·have := hb'.set 2 (.slice (some ⟨g', 0, none⟩) (evs.length + 1) cap')
   have h3 : Blk (w'.setCell ⟨rr, 2, none⟩ (.slice (some ⟨g', 0, none⟩) (evs.length + 1) cap')) rr 188 #[rt, .pointer (some ⟨bt, 1, none⟩), .slice (some ⟨g', 0, none⟩) (evs.length + 1) cap'] := by simpa using this
   exact h3.below hW3 h3.lt
  ·rw [show (evs ++ [(k, p.x.num)]).length = evs.length + 1 by simp, qe3]
   exact qab (T := fun _ => False) (ownsRow_setCell_other R.own (by simp [Value.ownBlock]; exact hg') _) (Keep.new hW3) (fun _ _ e => e)
  ·exact ((((Keep.new (T := fun y => y = rr \/ ev.ownBlock = some y) hB0).qbo R.keep (fun b _ e => .inr e))).setCell (p := ⟨rr, 2, none⟩) (.inl rfl) _).qc5 hW3
  ·intro b hb
   simp [Value.ownBlock] at hb
   subst hb
   exact R.new.imp id (fun e => by omega)
 have c2 := h.at_.cell 2
 have d0 := hp.cell 0
 unfold Pw.cells at d0
 simp only [List.getElem?_toArray, List.getElem?_cons_zero, List.getElem?_cons_succ] at c2 d0
 obtain ⟨a0, cap0, hv, hle, hmx⟩ := qbe h.row
 clear hle hmx
 generalize qai evs = pp at hap hpost
 generalize hn : evs.length = n at hap hpost hv
 clear hn h
 have hvF : ev = .slice a0 n cap0 := hv
 subst hvF
 unfold nptr
 go_enter Tryz.func212, Tryz.ntmps212
 go_region_law (refine qau rfl (.tmp 10) (.tmp 17) 48 48 rfl _ _ ?_ ?_ (hap _ ?_ ?_ ?_) ?_; (focus (simp [Act.eval, Act.put])); (focus ((try simp [Act.eval, Act.put]); (try rfl))); (focus exact bel2); (focus exact blk2); rintro v1 w1 ⟨g1, q1, rfl, R1⟩; obtain ⟨hb1, hP1⟩ := hpost _ (by exact bel2) _ _ _ R1; have f2 := hb1.frozen 2; have hcc := hb1.cell 2; have hq1 := R1.le; have hq2 := R1.mx; simp only [List.getElem?_toArray, List.getElem?_cons_zero, List.getElem?_cons_succ] at hcc)
 all_goals (go_wp2_with fail; go_end0; refine ⟨rfl, hP1.out _ ?_⟩; exact bel2)
theorem qdj {W : World} {t t' : TypeId} {s s' n n' : Nat} {v v' : Value} {xs xs' : List Value} (h : W.ownsRow 0 t s v n xs) (h' : W.ownsRow 0 t' s' v' n' xs') (ht : t ≠ t') {b : Nat} (hb : v.ownBlock = some b) : v'.ownBlock ≠ some b := by
 intro e
 rcases h.2 with ⟨rfl, _⟩ | ⟨g, cap, cur, rfl, _, hg, _⟩
 ·cases hb
 ·simp [Value.ownBlock] at hb
  subst hb
  rcases h'.2 with ⟨rfl, _⟩ | ⟨g', cap', cur', rfl, _, hg', _⟩
  ·cases e
  ·simp [Value.ownBlock] at e
   subst e
   have := hg.symm.trans hg'
   injection this with this
   injection this with _ h2 _
   exact ht h2
theorem qax {W : World} {t t' : TypeId} {b b' : Nat} {vs vs' : Array Value} (h : Blk W b t vs) (h' : Blk W b' t' vs') (ht : t ≠ t') : b ≠ b' := by
 rintro rfl
 have := h.symm.trans h'
 injection this with this
 injection this with _ h2 _
 exact ht h2
structure qdx (W : World) (rr bt : Nat) (rt r lst vw va ev : Value) (ws as_ : List Pw) (evs : List (Int × Int)) : Prop where
 bk : BkAt W bt r lst vw va ws as_
 rnd : qme W rr bt rt ev evs
def LdT (rr bt : Nat) (vw va ev : Value) (y : Nat) : Prop := y = rr \/ BkT bt vw va y \/ ev.ownBlock = some y
structure LdN (w : World) (vw va ev vw' va' ev' : Value) : Prop where
 bk : ∀ b, vw'.ownBlock = some b \/ va'.ownBlock = some b -> vw.ownBlock = some b \/ va.ownBlock = some b \/ w.heap.size <= b
 ev : ∀ b, ev'.ownBlock = some b -> ev.ownBlock = some b \/ w.heap.size <= b
theorem LdN.all {w : World} {vw va ev vw' va' ev' : Value} (h : LdN w vw va ev vw' va' ev') : ∀ b, vw'.ownBlock = some b \/ va'.ownBlock = some b \/ ev'.ownBlock = some b -> vw.ownBlock = some b \/ va.ownBlock = some b \/ ev.ownBlock = some b \/ w.heap.size <= b := fun b e => by
 rcases e with e | e | e
 ·rcases h.bk b (.inl e) with e | e | e
  ·exact .inl e
  ·exact .inr (.inl e)
  ·exact .inr (.inr (.inr e))
 ·rcases h.bk b (.inr e) with e | e | e
  ·exact .inl e
  ·exact .inr (.inl e)
  ·exact .inr (.inr (.inr e))
 ·rcases h.ev b e with e | e
  ·exact .inr (.inr (.inl e))
  ·exact .inr (.inr (.inr e))
theorem qme.keep {W W' : World} {rr bt : Nat} {rt ev : Value} {evs : List (Int × Int)} (h : qme W rr bt rt ev evs) {T : Nat -> Prop} (hk : Keep T W W') (h1 : ¬ T rr) (h2 : ∀ b, ev.ownBlock = some b -> ¬ T b) : qme W' rr bt rt ev evs := ⟨h.at_.keep hk h1, qab h.row hk h2⟩
theorem BkAt.keep {W W' : World} {bt : Nat} {r lst vw va : Value} {ws as_ : List Pw} (h : BkAt W bt r lst vw va ws as_) {T : Nat -> Prop} (hk : Keep T W W') (h1 : ¬ T bt) (h2 : ∀ b, vw.ownBlock = some b -> ¬ T b) (h3 : ∀ b, va.ownBlock = some b -> ¬ T b) (h4 : ∀ p ∈ ws ++ as_, ¬ T p.blk) : BkAt W' bt r lst vw va ws as_ :=
 ⟨h.at_.keep hk h1, qab h.wrow hk h2, qab h.arow hk h3, fun p hp => (h.works p hp).keep hk (h4 p hp), h.sep, h.nd, h.inj, h.len⟩
theorem qdx.qgd {W : World} {rr bt : Nat} {rt r lst vw va ev : Value} {ws as_ : List Pw} {evs : List (Int × Int)} (h : qdx W rr bt rt r lst vw va ev ws as_ evs) : ¬ BkT bt vw va rr /\ ∀ b, ev.ownBlock = some b -> ¬ BkT bt vw va b := by
 refine ⟨?_, fun b hb => ?_⟩
 ·rintro (e | e | e)
  ·exact qax h.rnd.at_ h.bk.at_ (by decide) e
  ·exact qag h.bk.wrow h.rnd.at_ (by decide) e
  ·exact qag h.bk.arow h.rnd.at_ (by decide) e
 ·rintro (e | e | e)
  ·subst e; exact qag h.rnd.row h.bk.at_ (by decide) hb
  ·exact qdj h.bk.wrow h.rnd.row (by decide) e hb
  ·exact qdj h.bk.arow h.rnd.row (by decide) e hb
theorem qdx.qtd {W : World} {rr bt : Nat} {rt r lst vw va ev : Value} {ws as_ : List Pw} {evs : List (Int × Int)} (h : qdx W rr bt rt r lst vw va ev ws as_ evs) : ¬ (bt = rr \/ ev.ownBlock = some bt) /\ (∀ b, vw.ownBlock = some b -> ¬ (b = rr \/ ev.ownBlock = some b)) /\ (∀ b, va.ownBlock = some b -> ¬ (b = rr \/ ev.ownBlock = some b)) /\ ∀ p ∈ ws ++ as_, ¬ (p.blk = rr \/ ev.ownBlock = some p.blk) := by
 refine ⟨?_, fun b hb => ?_, fun b hb => ?_, fun p hp => ?_⟩
 ·rintro (e | e)
  ·exact qax h.bk.at_ h.rnd.at_ (by decide) e
  ·exact qag h.rnd.row h.bk.at_ (by decide) e
 ·rintro (e | e)
  ·subst e; exact qag h.bk.wrow h.rnd.at_ (by decide) hb
  ·exact qdj h.bk.wrow h.rnd.row (by decide) hb e
 ·rintro (e | e)
  ·subst e; exact qag h.bk.arow h.rnd.at_ (by decide) hb
  ·exact qdj h.bk.arow h.rnd.row (by decide) hb e
 ·rintro (e | e)
  ·exact qax (h.bk.works p hp) h.rnd.at_ (by decide) e
  ·exact qag h.rnd.row (h.bk.works p hp) (by decide) e
theorem qdx.told {w w1 w2 : World} {rr bt : Nat} {rt r lst vw va ev vw' va' ev' : Value} {ws as_ ws' as' : List Pw} {evs evs' : List (Int × Int)} (h : qdx w rr bt rt r lst vw va ev ws as_ evs) (h1 : qdx w1 rr bt rt r lst vw' va' ev ws' as' evs) (hk1 : Keep (BkT bt vw va) w w1) (hn1 : ∀ b, vw'.ownBlock = some b \/ va'.ownBlock = some b -> vw.ownBlock = some b \/ va.ownBlock = some b \/ w.heap.size <= b)
  (h2 : qme w2 rr bt rt ev' evs') (hk2 : Keep (fun y => y = rr \/ ev.ownBlock = some y) w1 w2) (hn2 : ∀ b, ev'.ownBlock = some b -> ev.ownBlock = some b \/ w1.heap.size <= b) :
  qdx w2 rr bt rt r lst vw' va' ev' ws' as' evs' /\ Keep (LdT rr bt vw va ev) w w2 /\ LdN w vw va ev vw' va' ev' := by
 obtain ⟨a1, a2, a3, a4⟩ := h1.qtd
 refine ⟨⟨h1.bk.keep hk2 a1 a2 a3 a4, h2⟩, (hk1.mono (fun y e => .inr (.inl e))).qbo hk2 (fun b _ e => e.elim (fun e => .inl e) (fun e => .inr (.inr e))), ?_⟩
 exact ⟨hn1, fun b e => (hn2 b e).imp id (fun e => Nat.le_trans hk1.size e)⟩
set_option maxRecDepth 100000 in
set_option maxHeartbeats 2000000 in
theorem qqc {w : World} {rr bt : Nat} {rt r lst vw va ev : Value} {ws as_ : List Pw} {evs : List (Int × Int)} (h : qdx w rr bt rt r lst vw va ev ws as_ evs) (hl : evs.length <= 10000) {i : Nat} {p : Pw} (hi : ws[i]? = some p) :
  Calls Tryz.prog 173 #[.pointer (some ⟨rr, 0, none⟩), nptr p.blk] w fun e w' => e = .returned (.tuple #[]) /\ ∃ vw' va' ev', qdx w' rr bt rt r lst vw' va' ev' (ws.take i ++ ws.drop (i + 1)) (as_ ++ [p]) (evs ++ [(1, p.x.num)]) /\ Keep (LdT rr bt vw va ev) w w' /\ LdN w vw va ev vw' va' ev' := by
 have c1 := h.rnd.at_.cell 1
 simp only [List.getElem?_toArray, List.getElem?_cons_zero, List.getElem?_cons_succ] at c1
 have hadm := qoo h.bk hi
 have hnext : ∀ w1 vw' va', BkAt w1 bt r lst vw' va' (ws.take i ++ ws.drop (i + 1)) (as_ ++ [p]) -> Keep (BkT bt vw va) w w1 -> qdx w1 rr bt rt r lst vw' va' ev (ws.take i ++ ws.drop (i + 1)) (as_ ++ [p]) evs := fun w1 vw' va' hb hk => ⟨hb, h.rnd.keep hk h.qgd.1 h.qgd.2⟩
 unfold nptr at hadm ⊢
 go_enter Tryz.func173, Tryz.ntmps173
 go_wp2_with fail
 refine hadm.mono ?_
 rintro e w1 ⟨rfl, vw', va', hb1, hk1, hn1⟩
 have h1 := hnext w1 vw' va' hb1 hk1
 have htell := ql9 h1.rnd hl (h1.bk.works p (by simp)) 1
 clear hadm hnext
 unfold nptr at htell
 go_wp2_with fail
 refine htell.mono ?_
 rintro e w2 ⟨rfl, ev', h2, hk2, hn2⟩
 have hfin := h.told h1 hk1 hn1 h2 hk2 hn2
 clear htell
 go_wp2_with fail
 go_end0
 exact ⟨rfl, _, _, _, hfin⟩
end Go.Proofs.YtphclnolomgjoaaGreatDoor
