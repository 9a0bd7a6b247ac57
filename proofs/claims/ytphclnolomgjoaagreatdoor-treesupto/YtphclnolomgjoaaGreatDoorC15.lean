import Derived.Test.YtphclnolomgjoaaGreatDoorC08
import Derived.Sort.LoopGhostIn
import Derived.Test.YtphclnolomgjoaaGreatDoorC06
import Derived.LaidEqlPtr
import Derived.Test.YtphclnolomgjoaaGreatDoorC11
import Derived.Deep.RegionHeld3
import Derived.Deep.CutRange
import Derived.Deep.RegionLaw
import Derived.Deep.RegionWith
import Derived.BigRegion
import Derived.BigQuiet
set_option linter.unusedVariables false
set_option linter.unusedSimpArgs false
namespace Go.Proofs.YtphclnolomgjoaaGreatDoor
open Go.RowKit Go.Shelf
attribute [local go_sem] Oper.semAt_some
theorem qqs (w : World) : (binOp .neq 97 (.pointer none) (.pointer none)).run Tryz.prog w = .ok (.bool false) w := by
 kernel_rfl
def ups (nodes : List Node) : Nat -> Node -> List Node
 | 0, n => [n]
 | f + 1, n => if n.key = [] then [n] else n :: (match findKey nodes n.key.dropLast with | some p => ups nodes f p | none => [])
def upsO (nodes : List Node) (f : Nat) : Option Node -> List Node
 | none => []
 | some c => ups nodes f c
theorem qt2 {nodes : List Node} (T : Tree nodes) {c : Node} (hc : c ∈ nodes) {f : Nat} (hf : c.key.length <= f) : ∃ (o : Option Node), ups nodes f c = c :: upsO nodes (f - 1) o /\ c.up = o.map (·.blk) /\ (∀ p, o = some p -> p ∈ nodes /\ p.key.length <= f - 1) := by
 by_cases hk : c.key = []
 ·refine ⟨none, ?_, ?_, fun p h => by cases h⟩
  ·cases f with
   | zero => rfl
   | succ f => simp [ups, hk, upsO]
  ·rw [T.top c hc hk]; rfl
 ·obtain ⟨k, x, hkx⟩ : ∃ k x, c.key = k ++ [x] := ⟨_, _, (List.dropLast_concat_getLast hk).symm⟩
  obtain ⟨p, hp, hpk, _, hup⟩ := T.par c hc k x hkx
  have hlen : c.key.length = k.length + 1 := by rw [hkx]; simp
  refine ⟨some p, ?_, by rw [hup]; rfl, fun q h => by cases h; exact ⟨hp, by rw [hpk]; omega⟩⟩
  obtain ⟨g, rfl⟩ : ∃ g, f = g + 1 := ⟨f - 1, by omega⟩
  have hfk : findKey nodes c.key.dropLast = some p := by rw [hkx, List.dropLast_concat]; exact qdp T hp hpk
  simp only [ups, if_neg hk, hfk, upsO, Nat.add_sub_cancel]
theorem qhy {nodes : List Node} (T : Tree nodes) : ∀ (f : Nat) (c : Node), c ∈ nodes -> c.key.length <= f -> ∀ m, m ∈ ups nodes f c ↔ (m ∈ nodes /\ m.key <+: c.key) := by
 intro f
 induction f with
 | zero =>
  intro c hc hl m
  have hk : c.key = [] := List.eq_nil_of_length_eq_zero (by omega)
  simp only [ups, List.mem_singleton]
  constructor
  ·rintro rfl; exact ⟨hc, List.prefix_refl _⟩
  ·rintro ⟨hm, hp⟩
   rw [hk] at hp
   exact T.inj m hm c hc (by rw [hk]; exact List.prefix_nil.1 hp)
 | succ f ih =>
  intro c hc hl m
  by_cases hk : c.key = []
  ·simp only [ups, if_pos hk, List.mem_singleton]
   constructor
   ·rintro rfl; exact ⟨hc, List.prefix_refl _⟩
   ·rintro ⟨hm, hp⟩
    rw [hk] at hp
    exact T.inj m hm c hc (by rw [hk]; exact List.prefix_nil.1 hp)
  ·obtain ⟨k, x, hkx⟩ : ∃ k x, c.key = k ++ [x] := ⟨_, _, (List.dropLast_concat_getLast hk).symm⟩
   obtain ⟨p, hp, hpk, _, hup⟩ := T.par c hc k x hkx
   have hlen : c.key.length = k.length + 1 := by rw [hkx]; simp
   have hfk : findKey nodes c.key.dropLast = some p := by rw [hkx, List.dropLast_concat]; exact qdp T hp hpk
   simp only [ups, if_neg hk, hfk, List.mem_cons, ih p hp (by rw [hpk]; omega) m]
   rw [hpk]
   constructor
   ·rintro (rfl | ⟨h1, h2⟩)
    ·exact ⟨hc, List.prefix_refl _⟩
    ·exact ⟨h1, by rw [hkx]; exact h2.trans (List.prefix_append _ _)⟩
   ·rintro ⟨hm, hpre⟩
    rw [hkx] at hpre
    rcases List.prefix_concat_iff.1 hpre with h | h
    ·left; exact T.inj m hm c hc (by rw [h, hkx])
    ·right; exact ⟨hm, h⟩
theorem qvv (nodes : List Node) : ∀ (f : Nat) (c : Node), (ups nodes f c).length <= f + 1 := by
 intro f
 induction f with
 | zero => intro c; simp [ups]
 | succ f ih =>
  intro c
  simp only [ups]
  split
  ·simp
  ·split
   ·rename_i p _; have := ih p; simp; omega
   ·simp
set_option maxRecDepth 100000 in
set_option maxHeartbeats 1000000 in
theorem qrs {nodes : List Node} (T : Tree nodes) {n : Node} (hn : n ∈ nodes) (w : World) (hN : ∀ n ∈ nodes, qan w n) :
  Calls Tryz.prog 191 #[nptr n.blk] w fun e w' => e = .returned (.func (.func 223) #[] #[.pointer (some ⟨w.heap.size, 0, none⟩)]) /\ w' = w.alloc (.cells #[nptr n.blk] 97) /\
   ∀ Tm : Nat -> Prop, (∀ n ∈ nodes, ¬ Tm n.blk /\ ∀ g, n.sl.ownBlock = some g -> ¬ Tm g) -> SeqK Tryz.prog 223 #[.pointer (some ⟨w.heap.size, 0, none⟩)] (fun x : Node => nptr x.blk) (fun _ => False) Tm (ups nodes 4 n) w' := by
 have hmf : ∀ (fn : Fn) (first cap : Array Value) (w : World), (Instr.makeFunc fn first cap).run Tryz.prog w = .ok (.func fn first cap) w := fun _ _ _ _ => rfl
 have key : ∀ Tm : Nat -> Prop, (∀ n ∈ nodes, ¬ Tm n.blk /\ ∀ g, n.sl.ownBlock = some g -> ¬ Tm g) -> SeqK Tryz.prog 223 #[.pointer (some ⟨w.heap.size, 0, none⟩)] (fun x : Node => nptr x.blk) (fun _ => False) Tm (ups nodes 4 n) (w.alloc (.cells #[nptr n.blk] 97)) := by
  intro Tm hT m l J Jx W hW hl hJ hJx hY h0
  have hdd : ∀ k : Nat, Fence.wide.depth.isSome = true -> 1 <= k := fun k h => by simp [Fence.wide] at h
  have hNW : ∀ n ∈ nodes, qan W n := fun n hn => (hN n hn).below (qac ((Below.refl _ _).alloc (Nat.le_refl _) _) hW)
  have hb : W.cell? ⟨w.heap.size, 0, none⟩ = some (nptr n.blk) := ((Box.new w 97 (nptr n.blk)).below hW (by simp)).cell
  have hn4 := (T.ok n hn).2
  have hneq := qu1
  generalize hXS : ups nodes 4 n = XS at hY ⊢
  refine callsIn_of_wp Tryz.func223 rfl trivial ?_ rfl
  unfold nptr at hb
  simp only [Tryz.ntmps223, List.size_toArray, List.length_cons, List.length_nil, Nat.reduceAdd, Nat.reduceSub, Array.replicate_succ, Array.replicate_zero, List.push_toArray, List.append_toArray, List.nil_append, List.cons_append]
  gi_wp2
  gi_loopg [3] 5 (fun q v wr => ∃ (pre : List Node) (o : Option Node) (f : Nat), v = uptr (o.map (·.blk)) /\ XS = pre ++ upsO nodes f o /\ (∀ c, o = some c -> c ∈ nodes /\ c.key.length <= f) /\ (upsO nodes f o).length <= q /\ J pre wr /\ Keep Tm W wr)
  case atStart => exact ⟨[], some n, 4, rfl, by rw [<- hXS]; rfl, fun c h => by cases h; exact ⟨hn, hn4⟩, qvv _ _ _, h0, Keep.refl _ _⟩
  case round =>
   obtain ⟨pre, o, f, rfl, hx, ho, hq, hJp, hk⟩ := hrel
   have hneq2 := qqs
   have HX : Hid (XS = pre ++ upsO nodes f o) := hx
   clear hx h0 hb hXS
   cases o with
   | none =>
    simp only [uptr, Option.map_none]
    have hend : J XS wr := by rw [HX.out]; simpa [upsO] using hJp
    gi_wp2
    refine ⟨fun f h => (by cases h), ?_⟩
    gi_wp2
    go_end0
    exact ⟨⟨_, rfl⟩, .inl hend⟩
   | some c =>
    obtain ⟨hc, hcf⟩ := ho c rfl
    obtain ⟨o', he, hup, ho'⟩ := qt2 T hc hcf
    have hX1 : pre ++ [c] <+: XS := by rw [HX.out, show upsO nodes f (some c) = c :: upsO nodes (f - 1) o' from he]; exact ⟨upsO nodes (f - 1) o', by simp⟩
    obtain ⟨fn, tmps, assign, body, hy, hR⟩ := hY (m - 1) pre c wr hJp hX1
    have hNr := qel hT hNW hk
    have hR2 := hR.mono (R' := fun e W' => (e = .returned (.bool true) /\ J (pre ++ [c]) W' /\ Keep Tm wr W' /\ W'.cell? ⟨c.blk, 6, none⟩ = some (uptr (o'.map (·.blk)))) \/ (e = .returned (.bool false) /\ Jx (pre ++ [c]) W'))
     (fun e W' h => h.elim (fun ⟨he, hj, hk⟩ => .inl ⟨he, hj, hk, by rw [<- hup]; exact ((hNr c hc).keep hk (hT c hc).1 (hT c hc).2).cell rfl⟩) .inr)
    have HQ : Hid (upsO nodes f (some c) = c :: upsO nodes (f - 1) o') := he
    clear hR hY he hup
    simp only [uptr, Option.map_some]
    unfold nptr at hy
    gi_wp2_with (refine ⟨hdd _, ?_⟩; refine hR2.mono ?_; clear hR2; rintro e W2 (⟨rfl, hJ2, hk2, hc2⟩ | ⟨rfl, hx2⟩))
    ·gi_roundg ((upsO nodes (f - 1) o').length)
     case measure => have := HQ.out; rw [this] at hq; simp at hq; omega
     case rel => exact ⟨pre ++ [c], o', f - 1, rfl, by rw [HX.out, HQ.out]; simp, ho', Nat.le_refl _, hJ2, hk.trans hk2⟩
    ·go_end0
     exact ⟨⟨_, rfl⟩, .inr ⟨_, hX1, hx2⟩⟩
 unfold nptr at key ⊢
 go_enter Tryz.func191, Tryz.ntmps191
 go_wp2
 go_ret
 exact ⟨rfl, rfl, key⟩
attribute [local go_sem] Oper.semAt_some
def qa7 (nodes : List Node) : Prop := ∀ a ∈ nodes, ∀ b ∈ nodes, a.blk = b.blk -> a = b
theorem un93 : Tryz.prog.underlying 97 = some (.pointer 136) := by kernel_rfl
theorem qwx : (Tryz.prog.info? 136).map (fun i => i.size) = some 8 := by kernel_rfl
theorem qvr : ∃ j, Tryz.prog.info? 136 = some j /\ j.size ≠ 0 := by
 have h := qwx
 cases hi : Tryz.prog.info? 136 with
 | none => rw [hi] at h; cases h
 | some j => rw [hi] at h; simp at h; exact ⟨j, rfl, by omega⟩
theorem qut {W : World} {x m : Node} (hx : qan W x) (hm : qan W m) : (binOp .eql 97 (.pointer (some ⟨x.blk, 0, none⟩)) (.pointer (some ⟨m.blk, 0, none⟩))).run Tryz.prog W = .ok (.bool (x.blk == m.blk)) W := by
 obtain ⟨j, hj, hs⟩ := qvr
 by_cases h : x.blk = m.blk
 ·rw [h, beq_self_eq_true]
  exact run_eql_ptr_same _ _ un93 hj
 ·have hb : (x.blk == m.blk) = false := by simp [h]
  rw [hb]
  exact run_eql_ptr_other _ un93 hj hs (fun e => h (by injection e)) hx.at_ hm.at_
set_option maxRecDepth 100000 in
set_option maxHeartbeats 2000000 in
theorem qsg {nodes : List Node} (T : Tree nodes) (hB : qa7 nodes) {n m : Node} (hn : n ∈ nodes) (hm : m ∈ nodes) (w : World) (hN : ∀ n ∈ nodes, qan w n) :
  Calls Tryz.prog 142 #[nptr n.blk, nptr m.blk] w fun e w' => e = .returned (.bool (m.key.isPrefixOf n.key)) /\ Below w.heap.size w w' := by
 have hdd : ∀ k : Nat, Fence.wide.depth.isSome = true -> 1 <= k := fun k h => by simp [Fence.wide] at h
 have hup : ∀ W, (∀ n ∈ nodes, qan W n) -> _ := fun W hW => qrs T hn W hW
 have hmem := qhy T 4 n hn (T.ok n hn).2
 generalize hX : ups nodes 4 n = X at hup hmem
 refine (callsIn_wide (n := 3)).1 ?_
 refine callsIn_of_wp_marks Tryz.func142 rfl trivial ?_ rfl
 unfold nptr at hup ⊢
 simp only [Tryz.ntmps142, List.size_toArray, List.length_cons, List.length_nil, Nat.reduceAdd, Nat.reduceSub, Array.replicate_succ, Array.replicate_zero, List.push_toArray, List.append_toArray, List.nil_append, List.cons_append]
 gi_wp2_with ((first | refine ⟨trivial, hdd _, ?_⟩ | refine ⟨trivial, ?_⟩); gi_at_call 191; refine (callsIn_wide.2 (hup _ (fun n hn => (hN n hn).below (by exact bel1)))).mono ?_; rintro e W ⟨rfl, rfl, hseq⟩)
 obtain ⟨W, hW⟩ : ∃ W, W = ((w.alloc (.cells #[.pointer (some ⟨m.blk, 0, none⟩)] 97)).alloc (.cells #[.bool false] 4)).alloc (.cells #[.pointer (some ⟨n.blk, 0, none⟩)] 97) := ⟨_, rfl⟩
 have hsz : W.heap.size = w.heap.size + 3 := by rw [hW]; simp
 have e2 : ((w.alloc (.cells #[.pointer (some ⟨m.blk, 0, none⟩)] 97)).alloc (.cells #[.bool false] 4)).heap.size = w.heap.size + 1 + 1 := by simp
 have hb0 : Box W w.heap.size 97 (.pointer (some ⟨m.blk, 0, none⟩)) := by rw [hW]; exact ((Box.new w 97 _).alloc _).alloc _
 have hb1 : Box W (w.heap.size + 1) 4 (.bool false) := by
  rw [hW]; have := Box.new (w.alloc (.cells #[.pointer (some ⟨m.blk, 0, none⟩)] 97)) 4 (.bool false)
  rw [World.size_alloc] at this; exact this.alloc _
 have hbw : Below w.heap.size w W := by rw [hW]; exact bel1
 rw [e2] at hseq
 simp only [<- hW] at hseq ⊢
 have hq := hseq (fun b => b = w.heap.size + 1 \/ W.heap.size <= b) (fun k hk => ⟨fun h => by have := (hN k hk).lt; omega, fun g hg h => by have := ((hN k hk).row.lt g hg).2; omega⟩)
 clear hseq hup e2 hW
 have hno : ∀ b, b < W.heap.size -> ¬ (False \/ W.heap.size <= b) := fun b hb h => by rcases h with h | h; exact h; omega
 refine qgy (T := fun b => b = w.heap.size + 1) (S := fun _ => False) rfl (enters_of Tryz.func223 (by kernel_rfl) rfl) hq (Below.refl _ _) rfl (fun b h => h.elim) (fun b h => by omega)
  (fun pre A => m ∉ pre /\ Box A w.heap.size 97 (.pointer (some ⟨m.blk, 0, none⟩)) /\ Box A (w.heap.size + 1) 4 (.bool false) /\ Below w.heap.size w A)
  (fun c pre A => c = .ret /\ m ∈ pre /\ Box A (w.heap.size + 1) 4 (.bool true) /\ Below w.heap.size w A)
  (fun pre A B hs hk => ⟨hs.1, hs.2.1.keep hk (hno _ (by omega)), hs.2.2.1.keep hk (hno _ (by omega)), hs.2.2.2.trans (hk.toBelow hs.2.2.2.size (fun b hb' => hno b (by omega)))⟩)
  (fun c pre A B hs hk => ⟨hs.1, hs.2.1, hs.2.2.1.keep hk (hno _ (by omega)), hs.2.2.2.trans (hk.toBelow hs.2.2.2.size (fun b hb' => hno b (by omega)))⟩)
  ⟨by simp, hb0, hb1, hbw⟩
  (fun x => { tmps := #[.pointer (some ⟨n.blk, 0, none⟩), .pointer (some ⟨m.blk, 0, none⟩), undef, .pointer (some ⟨w.heap.size, 0, none⟩), .pointer (some ⟨w.heap.size + 1, 0, none⟩), .pointer (some ⟨x.blk, 0, none⟩), .pointer (some ⟨n.blk, 0, none⟩),
   .func (.func 223) #[] #[.pointer (some ⟨w.heap.size + 1 + 1, 0, none⟩)], .pointer (some ⟨x.blk, 0, none⟩), undef, undef, undef], defers := [] }) ?assign ?body ?done ?stop
 case assign =>
  intro l x W K hK
  gi_wp2
  exact hK
 case body =>
  rintro l pre x W2 ⟨hall, hbo, hbox, hbel⟩ hszW hpre
  have hxm := ((hmem x).1 (hpre.subset (by simp))).1
  have hc0 := hbo.cell
  have hc := hbox.cell
  have hf := hbox.frozen
  have heq := qut ((hN x hxm).below hbel) ((hN m hm).below hbel)
  by_cases he : x.blk = m.blk
  ·have hxx : x = m := hB x hxm m hm he
   subst hxx
   rw [beq_self_eq_true] at heq
   have HALL : Hid (x ∉ pre) := hall
   clear hall he
   gi_wp2
   exact ⟨(Keep.refl (fun b => b = w.heap.size + 1) _).setCell (p := ⟨w.heap.size + 1, 0, none⟩) rfl _, rfl, by simp, hbox.set _, hbel.setCell (by simp) _⟩
  ·have hxx : m ≠ x := fun e => he (by rw [e])
   have he2 : (x.blk == m.blk) = false := by simp [he]
   rw [he2] at heq
   gi_wp2
   exact ⟨Keep.refl _ _, by simp [hall, hxx], hbo, hbox, hbel⟩
 case done =>
  rintro A ⟨hall, hbo, hbox, hbel⟩ hD
  have hc := hbox.cell
  have hf := hbox.frozen
  gi_wp2
  have hD' : (A.setCell ⟨w.heap.size + 1, 0, none⟩ (.bool false)).heap[W.heap.size]? = some (.deferred (some [])) := (Below.heap_setCell _ _ _ _ (by simp; omega)).trans hD
  have hb2 := ((hbox.set (.bool false)).put W.heap.size (.deferred none) (by omega)).cell
  refine ⟨by simp, .inl ⟨_, _, rfl, run_takeDeferred hD', ?_⟩⟩
  refine ⟨.bool false, by simp [results, Tryz.results142, go_sem, hb2], qa9 ?_, qa8 (hbel.setCell (by simp) _) _ _ (by omega)⟩
  cases hp : m.key.isPrefixOf n.key with
  | false => rfl
  | true => exact absurd ((hmem m).2 ⟨hm, List.isPrefixOf_iff_prefix.1 hp⟩) hall
 case stop =>
  rintro c pre A hpre ⟨rfl, hv, hbox, hbel⟩ hD
  gi_wp2
  have hb2 := (hbox.put W.heap.size (.deferred none) (by omega)).cell
  refine ⟨by simp, .inl ⟨_, _, rfl, run_takeDeferred hD, ?_⟩⟩
  refine ⟨.bool true, by simp [results, Tryz.results142, go_sem, hb2], qa9 ?_, qa8 hbel _ _ (by omega)⟩
  exact (List.isPrefixOf_iff_prefix.2 ((hmem m).1 (hpre.subset hv)).2).symm
end Go.Proofs.YtphclnolomgjoaaGreatDoor
namespace Go.Proofs.YtphclnolomgjoaaGreatDoor
open Go.RowKit
structure Pw where
 blk : Nat
 x : Wk
 q : Nat
def Pw.cells (p : Pw) : Array Value := #[.int .i64 p.x.num, nptr p.q, .int .i64 p.x.d0, .int .i64 p.x.d1]
def qay (l : List Pw) : List Value := l.map fun p => nptr p.blk
structure qhe (W : World) (nodes : List Node) (v : Value) (l : List Pw) : Prop where
 row : W.ownsRow 0 95 1 v l.length (qay l)
 works : ∀ p ∈ l, Blk W p.blk 105 p.cells
 leaf : ∀ p ∈ l, ∃ n ∈ nodes, n.blk = p.q /\ n.key = p.x.key
 num : ∀ p ∈ l, (0 <= p.x.d0 /\ p.x.d0 <= 1000) /\ (0 <= p.x.d1 /\ p.x.d1 <= 1000)
 len : l.length <= 24
theorem qhe.below {W W' : World} {nodes : List Node} {v : Value} {l : List Pw} (h : qhe W nodes v l) (hb : Below W.heap.size W W') : qhe W' nodes v l :=
 ⟨qab (T := fun _ => False) h.row (Keep.new hb) (fun _ _ e => e), fun p hp => (h.works p hp).below hb (h.works p hp).lt, h.leaf, h.num, h.len⟩
theorem qhe.at_ {W : World} {nodes : List Node} {v : Value} {l : List Pw} (h : qhe W nodes v l) {i : Nat} {p : Pw} (hi : l[i]? = some p) : ∃ g cap, v = .slice (some ⟨g, 0, none⟩) l.length cap /\ g < W.heap.size /\ l.length <= cap /\ cap <= maxLen /\ W.cell? ⟨g, i, none⟩ = some (nptr p.blk) := by
 obtain ⟨g, cap, rfl, h1, h2⟩ := qat h.row (Nat.lt_of_le_of_lt (Nat.zero_le _) (List.getElem?_eq_some_iff.1 hi).1)
 have := h.row.cells (g := g) rfl i (nptr p.blk) (by unfold qay; rw [List.getElem?_map, hi]; rfl)
 rw [Addr.add_lit, Nat.zero_add] at this
 exact ⟨g, cap, rfl, qal h.row rfl, h1, h2, this⟩
theorem qhe.form {W : World} {nodes : List Node} {v : Value} {l : List Pw} (h : qhe W nodes v l) : ∃ a cap, v = .slice a l.length cap := by
 rcases h.row.2 with ⟨rfl, h0⟩ | ⟨g, cap, cur, rfl, _⟩
 ·exact ⟨none, 0, by rw [h0]⟩
 ·exact ⟨_, _, rfl⟩
def pun (l : List Pw) (k : List Bs) : List Wk := (l.map (·.x)).filter fun x => k.isPrefixOf x.key
theorem qtq (l : List Pw) (p : Pw) (k : List Bs) : pun (l ++ [p]) k = pun l k ++ (if k.isPrefixOf p.x.key then [p.x] else []) := by
 unfold pun; rw [List.map_append, List.filter_append]; simp [List.filter_cons]
theorem quu {l : List Pw} (h : ∀ p ∈ l, (0 <= p.x.d0 /\ p.x.d0 <= 1000) /\ (0 <= p.x.d1 /\ p.x.d1 <= 1000)) (hl : l.length <= 24) (k : List Bs) : (0 <= ws0 (pun l k) /\ ws0 (pun l k) <= 24000) /\ (0 <= ws1 (pun l k) /\ ws1 (pun l k) <= 24000) := by
 have hsub : ∀ x ∈ pun l k, ∃ p ∈ l, p.x = x := fun x hx => by
  obtain ⟨p, hp, e⟩ := List.mem_map.1 (List.mem_filter.1 hx).1; exact ⟨p, hp, e⟩
 have hlen : (pun l k).length <= 24 := Nat.le_trans (List.length_filter_le _ _) (by simpa using hl)
 have s0 := qrl (pun l k) (fun x hx => by obtain ⟨p, hp, rfl⟩ := hsub x hx; exact (h p hp).1)
 have s1 := qqt (pun l k) (fun x hx => by obtain ⟨p, hp, rfl⟩ := hsub x hx; exact (h p hp).2)
 omega
set_option maxRecDepth 100000 in
set_option maxHeartbeats 2000000 in
theorem qjo {nodes : List Node} (T : Tree nodes) (hB : qa7 nodes) (w : World) (hN : ∀ n ∈ nodes, qan w n) (bt : Nat) {va : Value} {l : List Pw} (hcell : w.cell? ⟨bt, 3, none⟩ = some va) (hA : qhe w nodes va l) {m : Node} (hm : m ∈ nodes) :
  Calls Tryz.prog 106 #[.pointer (some ⟨bt, 1, none⟩), nptr m.blk] w fun e w' => e = .returned (.agg #[.int .i64 (ws0 (pun l m.key)), .int .i64 (ws1 (pun l m.key))]) /\ Below w.heap.size w w' := by
 have hbt := World.block_lt_of_cell? w _ hcell
 simp only at hbt
 have hin := fun W (hW : Below w.heap.size w W) p (hp : p ∈ l) => (show Calls Tryz.prog 142 #[nptr p.q, nptr m.blk] W fun e w' => e = .returned (.bool (m.key.isPrefixOf p.x.key)) /\ Below W.heap.size W w' from by
  obtain ⟨n, hn, e1, e2⟩ := hA.leaf p hp
  rw [<- e1, <- e2]
  exact qsg T hB hn hm W (fun k hk => (hN k hk).below hW))
 obtain ⟨a, cap, hva⟩ := hA.form
 have hat := fun W (hW : Below w.heap.size w W) i p (hi : l[i]? = some p) => (hA.below hW).at_ hi
 obtain ⟨n, hn⟩ : ∃ n, n = l.length := ⟨_, rfl⟩
 have hlen := hA.len
 rw [<- hn] at hlen hva hat
 have HN : Hid (n = l.length) := hn
 clear hn
 rw [hva] at hcell hat
 unfold nptr at hin ⊢
 have h0c : (w.alloc (.cells #[.int .i64 0, .int .i64 0] 35)).heap.size = w.heap.size + 1 := by simp
 go_enter Tryz.func106, Tryz.ntmps106
 go_wp2
 go_loopw [13] (fun i wr => ∃ k : Nat, k <= n /\ i = .int .i64 k /\ Below w.heap.size w wr /\ Blk wr w.heap.size 35 #[.int .i64 0, .int .i64 0] /\ Blk wr (w.heap.size + 1) 35 #[.int .i64 (ws0 (pun (l.take k) m.key)), .int .i64 (ws1 (pun (l.take k) m.key))]) (fun i _ => n - (intOf i).toNat)
 case atStart => exact ⟨0, Nat.zero_le _, rfl, by exact bel2, by exact blk2, by refine Blk.new' ?_; simp⟩
 case round =>
  obtain ⟨k, hk, rfl, hbel, hb4, hb5⟩ := hrel
  by_cases hlt : k < n
  ·have hlt' : k < l.length := by rw [<- HN.out]; exact hlt
   obtain ⟨p, hp⟩ : ∃ p, l[k]? = some p := ⟨_, List.getElem?_eq_getElem hlt'⟩
   have hpm := List.mem_of_getElem? hp
   have HT : Hid (l.take (k + 1) = l.take k ++ [p]) := by
    show _ = _
    rw [List.take_succ_eq_append_getElem hlt']; rw [List.getElem?_eq_getElem hlt'] at hp; cases hp; rfl
   obtain ⟨g, cap', he, hgl, hc1, hc2, hgc⟩ := hat _ hbel k p hp
   injection he with he1 _ he3
   subst he1 he3
   have hpb := (hA.works p hpm).below hbel (hA.works p hpm).lt
   have hpl := (hA.works p hpm).lt
   have x1 := hpb.cell 1
   have hin2 := fun W hW => hin W hW p hpm
   have hbd := quu (l := l.take k) (fun q hq => hA.num q (List.mem_of_mem_take hq)) (by simp; omega) m.key
   have hpn := hA.num p hpm
   unfold Pw.cells nptr at x1 hpb
   simp only [List.getElem?_toArray, List.getElem?_cons_zero, List.getElem?_cons_succ] at x1
   have hki : (k : Int) < n := by omega
   have hki0 : (0 : Int) <= k := by omega
   clear hp hat hin
   unfold nptr at hgc
   have HFIN : Hid (∀ (W : World) (e0 e1 : Int), Below w.heap.size w W -> Blk W w.heap.size 35 #[.int .i64 0, .int .i64 0] -> Blk W (w.heap.size + 1) 35 #[.int .i64 e0, .int .i64 e1] -> e0 = ws0 (pun (l.take (k + 1)) m.key) -> e1 = ws1 (pun (l.take (k + 1)) m.key) -> (∃ k_1 : Nat, k_1 <= n /\ Value.int .i64 ((k : Int) + 1) = Value.int .i64 k_1 /\ Below w.heap.size w W /\ Blk W w.heap.size 35 #[.int .i64 0, .int .i64 0] /\ Blk W (w.heap.size + 1) 35 #[.int .i64 (ws0 (pun (l.take k_1) m.key)), .int .i64 (ws1 (pun (l.take k_1) m.key))]) /\ n - (intOf (Value.int .i64 ((k : Int) + 1))).toNat < n - (intOf (Value.int .i64 (k : Int))).toNat) :=
    fun W e0 e1 h1 h2 h3 h4 h5 => ⟨⟨k + 1, by omega, by go_num, h1, h2, by rw [<- h4, <- h5]; exact h3⟩, by simp [intOf]; omega⟩
   have HS : Hid (pun (l.take (k + 1)) m.key = pun (l.take k) m.key ++ (if m.key.isPrefixOf p.x.key then [p.x] else [])) := by
    show _ = _
    rw [HT.out, qtq]
   obtain ⟨e0, he0⟩ : ∃ e0, e0 = ws0 (pun (l.take k) m.key) := ⟨_, rfl⟩
   obtain ⟨e1, he1⟩ : ∃ e1, e1 = ws1 (pun (l.take k) m.key) := ⟨_, rfl⟩
   rw [<- he0, <- he1] at hb5 hbd
   have HE0 : Hid (e0 = ws0 (pun (l.take k) m.key)) := he0
   have HE1 : Hid (e1 = ws1 (pun (l.take k) m.key)) := he1
   clear he0 he1
   go_wp2_with fail
   refine (hin2 _ hbel).mono ?_
   rintro e w1 ⟨rfl, hb1⟩
   have hB1 : Below w.heap.size w w1 := qac hbel hb1
   have b41 := hb4.below hb1 hb4.lt
   have b51 := hb5.below hb1 hb5.lt
   have bp1 := hpb.below hb1 hpb.lt
   clear hin2 hb4 hb5 hpb hgc x1
   cases hpre : m.key.isPrefixOf p.x.key
   ·go_wp2_with fail
    refine HFIN.out _ e0 e1 hB1 b41 b51 ?_ ?_
    ·rw [HS.out, hpre, HE0.out]; simp
    ·rw [HS.out, hpre, HE1.out]; simp
   ·have z0 := b51.cell 0
    have z1 := b51.cell 1
    have y2 := bp1.cell 2
    have y3 := bp1.cell 3
    have r0 := b51.frozen 0
    have r1 := b51.frozen 1
    simp only [List.getElem?_toArray, List.getElem?_cons_zero, List.getElem?_cons_succ] at z0 z1 y2 y3
    have hadd := fun W => qid e0 e1 p.x.d0 p.x.d1 W (by omega) (by omega) (by omega) (by omega) (by omega) (by omega) (by omega) (by omega)
    have HEND : Hid (∀ W : World, Below w.heap.size w W -> Blk W w.heap.size 35 #[.int .i64 0, .int .i64 0] -> Blk W (w.heap.size + 1) 35 #[.int .i64 (e0 + p.x.d0), .int .i64 (e1 + p.x.d1)] -> (∃ k_1 : Nat, k_1 <= n /\ Value.int .i64 ((k : Int) + 1) = Value.int .i64 k_1 /\ Below w.heap.size w W /\ Blk W w.heap.size 35 #[.int .i64 0, .int .i64 0] /\ Blk W (w.heap.size + 1) 35 #[.int .i64 (ws0 (pun (l.take k_1) m.key)), .int .i64 (ws1 (pun (l.take k_1) m.key))]) /\ n - (intOf (Value.int .i64 ((k : Int) + 1))).toNat < n - (intOf (Value.int .i64 (k : Int))).toNat) := fun W h1 h2 h3 => HFIN.out W _ _ h1 h2 h3 (by rw [HS.out, hpre, HE0.out]; simp [ws0]) (by rw [HS.out, hpre, HE1.out]; simp [ws1])
    clear HFIN HS hpre
    have lb := b51.lt
    have lp := bp1.lt
    go_upto_region 6 with fail
    go_region_with (go_at_call 139; refine (hadd _).mono ?_; rintro e w2 ⟨rfl, hb2⟩; have hB2 : Below w.heap.size w w2 := qac (by exact bel2) hb2; have b42 : Blk w2 w.heap.size 35 #[.int .i64 0, .int .i64 0] := Blk.below (by exact blk2) hb2 (by first | omega | (simp <;> omega)); have b52 : Blk w2 (w.heap.size + 1) 35 #[.int .i64 e0, .int .i64 e1] := Blk.below (by exact blk2) hb2 (by first | omega | (simp <;> omega)); have q0 := b52.cell 0; have q1 := b52.cell 1; have s0 := b52.frozen 0; have s1 := b52.frozen 1; simp only [List.getElem?_toArray, List.getElem?_cons_zero, List.getElem?_cons_succ] at q0 q1)
    all_goals go_wp2_with fail
    all_goals refine HEND.out _ ((hB2.setCell (by simp) _).setCell (by simp) _) ((b42.other _ _ (by simp)).other _ _ (by simp)) ?_
    all_goals have := (b52.set 0 (.int .i64 (e0 + p.x.d0))).set 1 (.int .i64 (e1 + p.x.d1))
    all_goals simpa using this
  ·have d0 := hb5.cell 0
   have d1 := hb5.cell 1
   have c0 := hb4.cell 0
   have c1 := hb4.cell 1
   have f0 := hb4.frozen 0
   have f1 := hb4.frozen 1
   simp only [List.getElem?_toArray, List.getElem?_cons_zero, List.getElem?_cons_succ] at d0 d1 c0 c1
   go_wp2
   have HTT : l.take k = l := List.take_of_length_le (by rw [<- HN.out]; omega)
   have hb4' := (hb4.set 0 (.int .i64 (ws0 (pun (l.take k) m.key)))).set 1 (.int .i64 (ws1 (pun (l.take k) m.key)))
   have hc' := hb4'.cell
   rw [HTT] at hc'
   refine bodyPost_ret (v := .agg #[.int .i64 (ws0 (pun l m.key)), .int .i64 (ws1 (pun l m.key))]) ?_ rfl ⟨rfl, by exact bel2⟩
   rw [HTT]
   simp [results, Tryz.results106, go_sem, hc']
def abv (a c : Int) : Int := max 0 (a - c)
set_option maxHeartbeats 1000000 in
theorem qhu (a b c d : Int) (w : World) (h1 : 0 <= a) (h2 : a <= 100000) (h3 : 0 <= b) (h4 : b <= 100000) (h5 : 0 <= c) (h6 : c <= 100000) (h7 : 0 <= d) (h8 : d <= 100000) :
  Calls Tryz.prog 189 #[.agg #[.int .i64 a, .int .i64 b], .agg #[.int .i64 c, .int .i64 d]] w fun e w' => e = .returned (.agg #[.int .i64 (abv a c), .int .i64 (abv b d)]) /\ Below w.heap.size w w' := by
 go_enter Tryz.func189, Tryz.ntmps189
 go_wp2
 refine wp_loop_rounds 3 ?_
 rw [rounds_succ]; go_wp2
 go_region
 all_goals go_wp2
 all_goals rw [rounds_succ]
 all_goals go_wp2
 all_goals go_region
 all_goals go_wp2
 all_goals rw [rounds_succ]
 all_goals go_wp2
 all_goals refine bodyPost_ret (v := .agg #[.int .i64 (abv a c), .int .i64 (abv b d)]) ?_ rfl ⟨rfl, by exact bel1⟩
 all_goals simp [results, Tryz.results189, go_sem]
 all_goals (unfold abv; omega)
def pn0 (nodes : List Node) (k : List Bs) : Int := sum0 (under nodes k)
def pn1 (nodes : List Node) (k : List Bs) : Int := sum1 (under nodes k)
theorem qna {nodes : List Node} (T : Tree nodes) (k : List Bs) : (0 <= pn0 nodes k /\ pn0 nodes k <= 20000) /\ (0 <= pn1 nodes k /\ pn1 nodes k <= 20000) := by
 have hsub : ∀ n ∈ under nodes k, n ∈ nodes := fun n hn => (List.mem_filter.1 hn).1
 have hlen : (under nodes k).length <= 20 := Nat.le_trans (List.length_filter_le _ _) T.len
 have s0 := qre (under nodes k) (fun n hn => (T.num n (hsub n hn)).1)
 have s1 := qqj (under nodes k) (fun n hn => (T.num n (hsub n hn)).2.1)
 unfold pn0 pn1
 omega
theorem qcz {nodes : List Node} (T : Tree nodes) {n : Node} (hn : n ∈ nodes) (w : World) (hN : ∀ n ∈ nodes, qan w n) :
  Calls Tryz.prog 85 #[nptr n.blk] w fun e w' => e = .returned (.agg #[.int .i64 (pn0 nodes n.key), .int .i64 (pn1 nodes n.key)]) /\ Below w.heap.size w w' := by
 obtain ⟨ch, K⟩ := T.ch
 have h := qnm T K hn (by have := qoe T K hn; omega) w hN
 rw [qtw T K hn, qti T K hn] at h
 exact h
set_option maxRecDepth 100000 in
set_option maxHeartbeats 1000000 in
theorem qpd {nodes : List Node} (T : Tree nodes) {n : Node} (hn : n ∈ nodes) (w : World) (hN : ∀ n ∈ nodes, qan w n) :
  Calls Tryz.prog 190 #[nptr n.blk] w fun e w' => e = .returned (.agg #[.int .i64 (pn0 nodes n.key + n.b0), .int .i64 (pn1 nodes n.key + n.b1)]) /\ Below w.heap.size w w' := by
 have hnom := fun W (hW : Below w.heap.size w W) => qcz T hn W (fun k hk => (hN k hk).below hW)
 have hbd := qna T n.key
 have hnb := (T.num n hn).2.2.1
 have hnb1 := (T.num n hn).2.2.2.1
 have hadd := fun W => qid (pn0 nodes n.key) (pn1 nodes n.key) n.b0 n.b1 W (by omega) (by omega) (by omega) (by omega) (by omega) (by omega) (by omega) (by omega)
 have hNn := fun W (hW : Below w.heap.size w W) => (hN n hn).below hW
 have hcl : ∀ W, Below w.heap.size w W -> W.cell? ⟨n.blk, 4, none⟩ = some (.int .i64 n.b0) /\ W.cell? ⟨n.blk, 5, none⟩ = some (.int .i64 n.b1) := fun W hW => ⟨(hNn W hW).cell rfl, (hNn W hW).cell rfl⟩
 have hlt := (hN n hn).lt
 generalize pn0 nodes n.key = e0 at *
 generalize pn1 nodes n.key = e1 at *
 have b0 : Blk (w.alloc (.cells #[.int .i64 0, .int .i64 0] 35)) w.heap.size 35 #[.int .i64 0, .int .i64 0] := Blk.new w 35 _
 have hB0 : Below w.heap.size w (w.alloc (.cells #[.int .i64 0, .int .i64 0] 35)) := by exact bel2
 obtain ⟨c4, c5⟩ := hcl _ hB0
 unfold nptr at hnom ⊢
 go_enter Tryz.func190, Tryz.ntmps190
 go_upto_region 1 with fail
 generalize (w.alloc (.cells #[.int .i64 0, .int .i64 0] 35)) = W0 at b0 hB0 c4 c5 ⊢
 have lb := b0.lt
 go_region_with (first
  | (go_at_call 139; refine (hadd _).mono ?_; rintro e w2 ⟨rfl, hb2⟩; have hB2 : Below w.heap.size w w2 := qac (by exact bel2) hb2; have b2 : Blk w2 w.heap.size 35 #[.int .i64 0, .int .i64 0] := Blk.below (by exact blk2) hb2 b1.lt; have q0 := b2.cell 0; have q1 := b2.cell 1; have q2 := b2.frozen 0; have q3 := b2.frozen 1; simp only [List.getElem?_toArray, List.getElem?_cons_zero, List.getElem?_cons_succ] at q0 q1)
  | (go_at_call 85; refine (hnom _ ?_).mono ?_; (focus exact bel2); rintro e w1 ⟨rfl, hb1⟩; have hB1 : Below w.heap.size w w1 := qac (by exact bel2) hb1; have b1 : Blk w1 w.heap.size 35 #[.int .i64 0, .int .i64 0] := Blk.below (by exact blk2) hb1 (by first | omega | (simp <;> omega)); obtain ⟨d4, d5⟩ := hcl _ hB1))
 all_goals go_wp2_with fail
 all_goals have b3 := (b2.set 0 (.int .i64 (e0 + n.b0))).set 1 (.int .i64 (e1 + n.b1))
 all_goals have hc3 := b3.cell
 all_goals refine bodyPost_ret (v := .agg #[.int .i64 (e0 + n.b0), .int .i64 (e1 + n.b1)]) (by simp [results, Tryz.results190, go_sem, hc3]) rfl ⟨rfl, by exact bel2⟩
structure Rd (W : World) (nodes : List Node) (bt rr : Nat) (va : Value) (l : List Pw) : Prop where
 ins : ∀ n ∈ nodes, qan W n
 bk : W.cell? ⟨rr, 1, none⟩ = some (.pointer (some ⟨bt, 1, none⟩))
 ad : W.cell? ⟨bt, 3, none⟩ = some va
 ps : qhe W nodes va l
theorem Rd.below {W W' : World} {nodes : List Node} {bt rr : Nat} {va : Value} {l : List Pw} (h : Rd W nodes bt rr va l) (hb : Below W.heap.size W W') : Rd W' nodes bt rr va l :=
 ⟨fun n hn => (h.ins n hn).below hb, (hb.cell (p := ⟨rr, 1, none⟩) (World.block_lt_of_cell? _ _ h.bk)).trans h.bk, (hb.cell (p := ⟨bt, 3, none⟩) (World.block_lt_of_cell? _ _ h.ad)).trans h.ad, h.ps.below hb⟩
theorem Rd.qvn {W : World} {nodes : List Node} {bt rr : Nat} {va : Value} {l : List Pw} (h : Rd W nodes bt rr va l) (T : Tree nodes) (hB : qa7 nodes) {m : Node} (hm : m ∈ nodes) :
  Calls Tryz.prog 106 #[.pointer (some ⟨bt, 1, none⟩), nptr m.blk] W fun e w' => e = .returned (.agg #[.int .i64 (ws0 (pun l m.key)), .int .i64 (ws1 (pun l m.key))]) /\ Below W.heap.size W w' :=
 qjo T hB W h.ins bt h.ad h.ps hm
theorem Rd.ubd {W : World} {nodes : List Node} {bt rr : Nat} {va : Value} {l : List Pw} (h : Rd W nodes bt rr va l) (k : List Bs) : (0 <= ws0 (pun l k) /\ ws0 (pun l k) <= 24000) /\ (0 <= ws1 (pun l k) /\ ws1 (pun l k) <= 24000) := quu h.ps.num h.ps.len k
theorem qc4 {W : World} {b : Nat} {x y : Value} (h : Blk W b 35 #[x, y]) (p q : Value) : Blk ((W.setCell ⟨b, 0, none⟩ p).setCell ⟨b, 1, none⟩ q) b 35 #[p, q] := by
 have := (h.set 0 p).set 1 q
 simpa using this
theorem qff {W : World} {c b : Nat} {t : TypeId} {vs : Array Value} (h : Blk W c t vs) (hn : c ≠ b) (p q : Value) : Blk ((W.setCell ⟨b, 0, none⟩ p).setCell ⟨b, 1, none⟩ q) c t vs := (h.other _ _ hn).other _ _ hn
theorem qbk {w W : World} {B b : Nat} (h : Below B w W) (hb : B <= b) (p q : Value) : Below B w ((W.setCell ⟨b, 0, none⟩ p).setCell ⟨b, 1, none⟩ q) := (h.setCell hb _).setCell hb _
set_option maxRecDepth 100000 in
set_option maxHeartbeats 2000000 in
theorem qjp {nodes : List Node} (T : Tree nodes) (hB : qa7 nodes) {w : World} {bt rr : Nat} {va : Value} {l : List Pw} (h : Rd w nodes bt rr va l) {m : Node} (hm : m ∈ nodes) (a b : Int) (ha : 0 <= a /\ a <= 1000) (hb : 0 <= b /\ b <= 1000) :
  Calls Tryz.prog 216 #[.pointer (some ⟨rr, 0, none⟩), nptr m.blk, .agg #[.int .i64 a, .int .i64 b]] w fun e w' => e = .returned (.agg #[.int .i64 (abv (ws0 (pun l m.key) + a) (pn0 nodes m.key + m.b0)), .int .i64 (abv (ws1 (pun l m.key) + b) (pn1 nodes m.key + m.b1))]) /\ Below w.heap.size w w' := by
 have hus := fun W (hW : Below w.heap.size w W) => (h.below hW).qvn T hB hm
 have hli := fun W (hW : Below w.heap.size w W) => qpd T hm W (h.below hW).ins
 have hrr : rr < w.heap.size := World.block_lt_of_cell? _ _ h.bk
 have hbk := fun W (hW : Below w.heap.size w W) => (h.below hW).bk
 have ubd := h.ubd m.key
 have nbd := qna T m.key
 have hnb := (T.num m hm).2.2.1
 have hnb1 := (T.num m hm).2.2.2.1
 generalize ws0 (pun l m.key) = u0 at *
 generalize ws1 (pun l m.key) = u1 at *
 generalize pn0 nodes m.key = n0 at *
 generalize pn1 nodes m.key = n1 at *
 have hadd := fun W => qid u0 u1 a b W (by omega) (by omega) (by omega) (by omega) (by omega) (by omega) (by omega) (by omega)
 have habv := fun W => qhu (u0 + a) (u1 + b) (n0 + m.b0) (n1 + m.b1) W (by omega) (by omega) (by omega) (by omega) (by omega) (by omega) (by omega) (by omega)
 have b5 : Blk ((w.alloc (.cells #[.int .i64 a, .int .i64 b] 35)).alloc (.cells #[.int .i64 0, .int .i64 0] 35)) w.heap.size 35 #[.int .i64 a, .int .i64 b] := by exact blk2
 have b6 : Blk ((w.alloc (.cells #[.int .i64 a, .int .i64 b] 35)).alloc (.cells #[.int .i64 0, .int .i64 0] 35)) (w.heap.size + 1) 35 #[.int .i64 0, .int .i64 0] := Blk.new' (by simp)
 have hB0 : Below w.heap.size w ((w.alloc (.cells #[.int .i64 a, .int .i64 b] 35)).alloc (.cells #[.int .i64 0, .int .i64 0] 35)) := by exact bel2
 unfold nptr at hus hli ⊢
 go_enter Tryz.func216, Tryz.ntmps216
 go_upto_region 1 with fail
 generalize ((w.alloc (.cells #[.int .i64 a, .int .i64 b] 35)).alloc (.cells #[.int .i64 0, .int .i64 0] 35)) = W0 at b5 b6 hB0 ⊢
 have hz0 := hB0.size
 have k1 := hbk _ hB0
 have z0 := b5.cell 0
 have z1 := b5.cell 1
 have l5 := b5.lt
 have l6 := b6.lt
 simp only [List.getElem?_toArray, List.getElem?_cons_zero, List.getElem?_cons_succ] at z0 z1
 have n0a : ¬ (w.heap.size = W0.heap.size) := (by omega)
 have n0b : ¬ (rr = W0.heap.size) := (by omega)
 have n0c : ¬ (W0.heap.size = w.heap.size) := (by omega)
 have n0d : ¬ (W0.heap.size = rr) := (by omega)
 go_cut [7] from 8 (fun q wx => ∃ b7, q = .pointer (some ⟨b7, 0, none⟩) /\ Below w.heap.size w wx /\ Blk wx (w.heap.size + 1) 35 #[.int .i64 0, .int .i64 0] /\ Blk wx b7 35 #[.int .i64 (u0 + a), .int .i64 (u1 + b)] /\ w.heap.size + 1 < b7)
 case first =>
  go_region_held3 (fun w' => w'.cell? ⟨rr, 1, none⟩ = some (.pointer (some ⟨bt, 1, none⟩)) /\ w'.cell? ⟨w.heap.size, 0, none⟩ = some (.int .i64 a) /\ w'.cell? ⟨w.heap.size, 1, none⟩ = some (.int .i64 b)) (go_keep)
   (first
   | (go_at_call 106; refine (hus _ ?_).mono ?_; (focus exact bel2); rintro e w1 ⟨rfl, hb1⟩; have hB1 : Below w.heap.size w w1 := qac (by exact bel2) hb1; have b51 : Blk w1 w.heap.size 35 #[.int .i64 a, .int .i64 b] := Blk.below (by exact blk2) hb1 (by first | omega | (simp <;> omega)); have b61 : Blk w1 (w.heap.size + 1) 35 #[.int .i64 0, .int .i64 0] := Blk.below (by exact blk2) hb1 (by first | omega | (simp <;> omega)); have k2 := hbk _ hB1; have y0 := b51.cell 0; have y1 := b51.cell 1; have l51 := b51.lt; have l61 := b61.lt; have hz1 := hB1.size; have n1' : ¬ (w.heap.size = w1.heap.size) := (by omega); have n1'' : ¬ (rr = w1.heap.size) := (by omega); have n1a : ¬ (w1.heap.size = w.heap.size) := (by omega); have n1b : ¬ (w1.heap.size = rr) := (by omega); simp only [List.getElem?_toArray, List.getElem?_cons_zero, List.getElem?_cons_succ] at y0 y1; (try (have b71 : Blk w1 W0.heap.size 35 #[.int .i64 0, .int .i64 0] := Blk.below (by first | (with_reducible exact Blk.new' (by simp)) | (with_reducible exact Blk.drew (Blk.new' (by simp)))) hb1 (by simp); have l71 := b71.lt)))
   | (go_at_call 139; refine (hadd _).mono ?_; rintro e w2 ⟨rfl, hb2⟩; have hB2 : Below w.heap.size w w2 := qac (by exact bel2) hb2; have b52 : Blk w2 w.heap.size 35 #[.int .i64 a, .int .i64 b] := Blk.below (by exact blk2) hb2 (by first | omega | (simp <;> omega)); have b62 : Blk w2 (w.heap.size + 1) 35 #[.int .i64 0, .int .i64 0] := Blk.below (by exact blk2) hb2 (by first | omega | (simp <;> omega)); have k3 := hbk _ hB2; have x0 := b52.cell 0; have x1 := b52.cell 1; have l52 := b52.lt; have l62 := b62.lt; have hz2 := hB2.size; have n2' : ¬ (w.heap.size = w2.heap.size) := (by omega); have n2'' : ¬ (rr = w2.heap.size) := (by omega); have n2a : ¬ (w2.heap.size = w.heap.size) := (by omega); have n2b : ¬ (w2.heap.size = rr) := (by omega); simp only [List.getElem?_toArray, List.getElem?_cons_zero, List.getElem?_cons_succ] at x0 x1; (try (have b72 : Blk w2 W0.heap.size 35 #[.int .i64 0, .int .i64 0] := Blk.below (by with_reducible exact b71) hb2 (by omega); have c7 := b72.cell; have g7 := b72.frozen; have l72 := b72.lt)); (try (have b72 : Blk w2 w1.heap.size 35 #[.int .i64 0, .int .i64 0] := Blk.below (by first | (with_reducible exact Blk.new' (by simp)) | (with_reducible exact Blk.drew (Blk.new' (by simp)))) hb2 (by simp); have c7 := b72.cell; have g7 := b72.frozen; have l72 := b72.lt))))
  all_goals go_wp2_with fail
  ·go_meet
   exact ⟨_, rfl, hB2.alloc hz2 _, b62.alloc _, Blk.new' rfl, by omega⟩
  ·go_meet
   exact ⟨_, rfl, qbk hB2 (by omega) .., qff b62 (by omega) .., qc4 b72 .., by omega⟩
  ·go_meet
   exact ⟨_, rfl, qbk hB2 (by omega) .., qff b62 (by omega) .., qc4 b72 .., by omega⟩
 case rest =>
  obtain ⟨b7, rfl, hBc, b6c, b7c, hlt7⟩ := hcut
  clear b5 b6 hB0 z0 z1 k1 n0a n0b n0c n0d hus hadd hbk
  have z0 := b7c.cell 0
  have z1 := b7c.cell 1
  have l6c := b6c.lt
  have l7c := b7c.lt
  simp only [List.getElem?_toArray, List.getElem?_cons_zero, List.getElem?_cons_succ] at z0 z1
  go_upto_region 2 with fail
  go_region_with (first
   | (go_at_call 189; refine (habv _).mono ?_; rintro e w2 ⟨rfl, hb2⟩; have hB2 : Below w.heap.size w w2 := qac (by exact bel2) hb2; have b62 : Blk w2 (w.heap.size + 1) 35 #[.int .i64 0, .int .i64 0] := Blk.below (by exact blk2) hb2 (by first | exact b61.lt | omega | (simp <;> omega)); have q0 := b62.cell 0; have q1 := b62.cell 1; have q2 := b62.frozen 0; have q3 := b62.frozen 1; simp only [List.getElem?_toArray, List.getElem?_cons_zero, List.getElem?_cons_succ] at q0 q1)
   | (go_at_call 190; refine (hli _ ?_).mono ?_; (focus exact bel2); rintro e w1 ⟨rfl, hb1⟩; have hB1 : Below w.heap.size w w1 := qac (by exact bel2) hb1; have b61 : Blk w1 (w.heap.size + 1) 35 #[.int .i64 0, .int .i64 0] := Blk.below (by exact blk2) hb1 (by first | omega | (simp <;> omega)); have b71 : Blk w1 b7 35 #[.int .i64 (u0 + a), .int .i64 (u1 + b)] := Blk.below (by exact blk2) hb1 (by first | omega | (simp <;> omega)); have y0 := b71.cell 0; have y1 := b71.cell 1; have l61 := b61.lt; simp only [List.getElem?_toArray, List.getElem?_cons_zero, List.getElem?_cons_succ] at y0 y1))
  all_goals go_wp2_with fail
  all_goals have b63 := qc4 b62 (.int .i64 (abv (u0 + a) (n0 + m.b0))) (.int .i64 (abv (u1 + b) (n1 + m.b1)))
  all_goals have hc3 := b63.cell
  all_goals exact bodyPost_ret (v := .agg #[.int .i64 (abv (u0 + a) (n0 + m.b0)), .int .i64 (abv (u1 + b) (n1 + m.b1))]) (by simp [results, Tryz.results216, go_sem, hc3]) rfl ⟨rfl, qbk hB2 (by omega) ..⟩
end Go.Proofs.YtphclnolomgjoaaGreatDoor
