import Derived.Test.YtphclnolomgjoaaGreatDoorC02
import Derived.Test.YtphclnolomgjoaaGreatDoorC01
import Derived.Laws.StructEq
set_option linter.unusedVariables false
set_option linter.unusedSimpArgs false
namespace Go.Proofs.YtphclnolomgjoaaGreatDoor
open Go.RowKit
theorem qcc {α β : Type} {f : α -> β} {l : List α} (h : (l.map f).Nodup) : l.Nodup := by
 unfold List.Nodup at *
 rw [List.pairwise_map] at h
 exact h.imp (fun hn e => hn (by rw [e]))
theorem qdg {α : Type} [DecidableEq α] : ∀ {l l' : List α}, l.Nodup -> (∀ x ∈ l, x ∈ l') -> l.length <= l'.length
 | [], _, _, _ => Nat.zero_le _
 | a :: l, l', h, hs => by
  have ha := hs a (by simp)
  obtain ⟨h1, h2⟩ := List.nodup_cons.1 h
  have h3 := qdg (l := l) (l' := l'.erase a) h2 (fun x hx => (List.mem_erase_of_ne (fun e => h1 (by rw [<- e]; exact hx))).2 (hs x (by simp [hx])))
  rw [List.length_erase_of_mem ha] at h3
  have := List.length_pos_of_mem ha
  simp; omega
structure Node where
 blk : Nat
 key : List Bs
 leaf : Bool
 n0 : Int
 n1 : Int
 b0 : Int
 b1 : Int
 up : Option Nat
 sl : Value
 kids : List Nat
def nptr (b : Nat) : Value := .pointer (some ⟨b, 0, none⟩)
def uptr (b : Option Nat) : Value := .pointer (b.map fun x => ⟨x, 0, none⟩)
def qbv (k : List Bs) : Bs := k.getLastD []
theorem qdc (k : List Bs) (n : Bs) : qbv (k ++ [n]) = n := by simp [qbv]
def Node.cells (n : Node) : Array Value := #[.string (sb (qbv n.key)), .bool n.leaf, .int .i64 n.n0, .int .i64 n.n1, .int .i64 n.b0, .int .i64 n.b1, uptr n.up, n.sl]
structure qan (W : World) (n : Node) : Prop where
 at_ : W.heap[n.blk]? = some (.cells n.cells 136 (0, 0))
 row : W.ownsRow 0 97 1 n.sl n.kids.length (n.kids.map nptr)
structure Tree (nodes : List Node) : Prop where
 root : ∃ r, nodes[0]? = some r /\ r.key = [] /\ r.leaf = false /\ r.b0 = 0 /\ r.b1 = 0
 inj : ∀ n ∈ nodes, ∀ m ∈ nodes, n.key = m.key -> n = m
 nodup : (nodes.map (·.key)).Nodup
 ok : ∀ n ∈ nodes, qbn n.key = true /\ n.key.length <= 4
 num : ∀ n ∈ nodes, (0 <= n.n0 /\ n.n0 <= 1000) /\ (0 <= n.n1 /\ n.n1 <= 1000) /\ (0 <= n.b0 /\ n.b0 <= 1000) /\ (0 <= n.b1 /\ n.b1 <= 1000) /\ (n.leaf = false -> n.n0 = 0 /\ n.n1 = 0)
 top : ∀ n ∈ nodes, n.key = [] -> n.up = none
 par : ∀ n ∈ nodes, ∀ k x, n.key = k ++ [x] -> ∃ p ∈ nodes, p.key = k /\ p.leaf = false /\ n.up = some p.blk
 kids : ∀ p ∈ nodes, ∃ ks : List Node, p.kids = ks.map (·.blk) /\ (∀ k, k ∈ ks ↔ (k ∈ nodes /\ ∃ x, k.key = p.key ++ [x])) /\ (ks.map fun k => qbv k.key).Pairwise fun a b => cmpB a b < 0
 len : nodes.length <= 20
theorem Tree.pre {nodes : List Node} (T : Tree nodes) : ∀ (r : List Bs) (k : List Bs) (n : Node), n ∈ nodes -> n.key = k ++ r -> ∃ m ∈ nodes, m.key = k := by
 intro r
 induction h : r.length generalizing r with
 | zero =>
  intro k n hn hk
  have : r = [] := List.eq_nil_of_length_eq_zero h
  subst this; exact ⟨n, hn, by simpa using hk⟩
 | succ j ih =>
  intro k n hn hk
  have hr : r ≠ [] := fun e => by subst e; simp at h
  have e : r = r.dropLast ++ [r.getLast hr] := (List.dropLast_concat_getLast hr).symm
  rw [e, <- List.append_assoc] at hk
  obtain ⟨p, hp, hpk, _, _⟩ := T.par n hn _ _ hk
  exact ih r.dropLast (by simp [h]) k p hp hpk
theorem qan.lt {W : World} {n : Node} (h : qan W n) : n.blk < W.heap.size := (Array.getElem?_eq_some_iff.1 h.at_).1
theorem qan.cell {W : World} {n : Node} (h : qan W n) {i : Nat} {v : Value} (hv : n.cells[i]? = some v) : W.cell? ⟨n.blk, i, none⟩ = some v := by
 unfold World.cell?
 have := h.at_
 simp only [this]; simpa using hv
theorem qan.frozen {W : World} {n : Node} (h : qan W n) (i : Nat) : W.frozen? ⟨n.blk, i, none⟩ = false := by
 unfold World.frozen?
 have := h.at_
 simp only [this]; simp
theorem qan.name {W : World} {n : Node} (h : qan W n) : W.cell? ⟨n.blk, 0, none⟩ = some (.string (sb (qbv n.key))) := h.cell rfl
theorem qan.below {W W' : World} {n : Node} (h : qan W n) (hb : Below W.heap.size W W') : qan W' n := by
 refine ⟨(hb.block _ h.lt).trans h.at_, h.row.kept (row := none) ⟨hb.os, hb.tape, hb.output, hb.size, fun k hk _ => hb.block k hk⟩ ?_⟩
 cases h2 : n.sl.ownBlock
 ·exact .inl rfl
 ·exact .inr (by simp)
theorem qan.keep {T : Nat -> Prop} {W W' : World} {n : Node} (h : qan W n) (hb : Keep T W W') (h1 : ¬ T n.blk) (h2 : ∀ g, n.sl.ownBlock = some g -> ¬ T g) : qan W' n := by
 refine ⟨(hb.block _ h.lt h1).trans h.at_, ?_⟩
 obtain ⟨hl, hr⟩ := h.row
 refine ⟨hl, ?_⟩
 rcases hr with hr | ⟨g, cap, cur, hv, hbg, hg, rest⟩
 ·exact .inl hr
 ·exact .inr ⟨g, cap, cur, hv, hbg, (hb.block g (Array.getElem?_eq_some_iff.1 hg).1 (h2 g (by rw [hv]; rfl))).trans hg, rest⟩
theorem qan.kid {W : World} {n : Node} (h : qan W n) {j b : Nat} (hj : n.kids[j]? = some b) : ∃ g cap, n.sl = .slice (some ⟨g, 0, none⟩) n.kids.length cap /\ W.cell? ⟨g, j, none⟩ = some (nptr b) := by
 obtain ⟨hl, hr⟩ := h.row
 rcases hr with ⟨hv, h0⟩ | ⟨g, cap, cur, hv, hbg, hg, hn, hm, hc, ht⟩
 ·rw [List.getElem?_eq_none (by omega)] at hj; cases hj
 ·refine ⟨g, cap, hv, ?_⟩
  unfold World.cell?
  simp only [hg]
  have h1 : (n.kids.map nptr)[j]? = some (nptr b) := by simp [hj]
  rw [<- ht] at h1
  have hlt : j < n.kids.length := (List.getElem?_eq_some_iff.1 hj).1
  rw [List.getElem?_take_of_lt (by omega)] at h1
  simpa using h1
theorem qja {W : World} {nodes : List Node} (T : Tree nodes) (hN : ∀ n ∈ nodes, qan W n) {p : Node} (hp : p ∈ nodes) (x : ByteArray) :
  Calls Tryz.prog 104 #[nptr p.blk, .string x] W fun e w' => (∃ ks : List Node, p.kids = ks.map (·.blk) /\ (∀ k, k ∈ ks ↔ (k ∈ nodes /\ ∃ x, k.key = p.key ++ [x])) /\ (ks.map fun k => qbv k.key).Pairwise (fun a b => cmpB a b < 0) /\ qn0 (ks.map fun k => qbv k.key) (bl x) e) /\ w' = W := by
 obtain ⟨ks, hk, hm, hs⟩ := T.kids p hp
 have hP := hN p hp
 have hsl : W.cell? ⟨p.blk, 7, none⟩ = some p.sl := hP.cell rfl
 have hlen : p.kids.length = ks.length := by rw [hk]; simp
 obtain ⟨hl, hr⟩ := hP.row
 rcases hr with ⟨hv, h0⟩ | ⟨g, cap, cur, hv, hbg, hg, hn, hmx, hc, ht⟩
 ·have : ks = [] := List.eq_nil_of_length_eq_zero (by omega)
  subst this
  rw [hv] at hsl
  refine (qr6 p.blk x W hsl).mono ?_
  rintro e w' ⟨h, rfl⟩
  exact ⟨⟨[], hk, hm, hs, h⟩, rfl⟩
 ·rw [hv, hlen] at hsl
  have hk1000 : ks.length <= 1000 := by
   have hsub : (ks.map (·.key)).Nodup := by
    have : (ks.map fun k => qbv k.key).Nodup := hs.imp (fun {a b} h e => by subst e; rw [show cmpB a a = 0 from qei a] at h; omega)
    rw [show (ks.map fun k => qbv k.key) = (ks.map (·.key)).map qbv by simp] at this
    exact qcc this
   have h1 : (ks.map (·.key)) ⊆ nodes.map (·.key) := by
    intro k hk'; obtain ⟨n, hn', rfl⟩ := List.mem_map.1 hk'
    exact List.mem_map.2 ⟨n, ((hm n).1 hn').1, rfl⟩
   have h2 := qdg hsub h1
   have h3 := T.len
   simp at h2; omega
  have hl2 : (ks.map fun k => qbv k.key).length = ks.length := by simp
  rw [<- hl2] at hsl
  refine (qsv p.blk g cap p.kids (ks.map fun k => qbv k.key) x W (by simp [hlen]) (by simpa using hk1000) hs hsl ?_ ?_).mono ?_
  ·intro j b hj
   obtain ⟨g', cap', hv', hc'⟩ := hP.kid hj
   rw [hv] at hv'; cases hv'; exact hc'
  ·intro j b n hj hn'
   rw [hk] at hj
   simp only [List.getElem?_map, Option.map_eq_some_iff] at hj hn'
   obtain ⟨k, hkj, rfl⟩ := hj
   obtain ⟨k', hkj', rfl⟩ := hn'
   rw [hkj] at hkj'; cases hkj'
   exact (hN k ((hm k).1 (List.mem_of_getElem? hkj)).1).name
  ·rintro e w' ⟨h, rfl⟩
   exact ⟨⟨ks, hk, hm, hs, h⟩, rfl⟩
end Go.Proofs.YtphclnolomgjoaaGreatDoor
namespace Go.Proofs.YtphclnolomgjoaaGreatDoor
open Go.RowKit Go.Shelf
attribute [local go_sem] Oper.semAt_some
def qs9 (nodes : List Node) (ks : List Bs) (e : Ending) : Prop := (∃ n ∈ nodes, n.key = ks /\ e = .returned (nptr n.blk)) \/ ((∀ n ∈ nodes, n.key ≠ ks) /\ e = .returned (.pointer none))
theorem Tree.qra {nodes : List Node} (T : Tree nodes) {p : Node} (hp : p ∈ nodes) {ks : List Node} (hm : ∀ k, k ∈ ks ↔ (k ∈ nodes /\ ∃ x, k.key = p.key ++ [x])) {x : Bs} (hx : x ∉ ks.map fun k => qbv k.key)
  {full : List Bs} (hf : p.key ++ [x] <+: full) : ∀ n ∈ nodes, n.key ≠ full := by
 intro n hn e
 obtain ⟨r, hr⟩ := hf
 rw [<- hr] at e
 obtain ⟨m, hmn, hmk⟩ := T.pre r (p.key ++ [x]) n hn e
 exact hx (List.mem_map.2 ⟨m, (hm m).2 ⟨hmn, x, hmk⟩, by rw [hmk, qdc]⟩)
def qv0 (nodes : List Node) (n : Node) (x : Bs) (W : World) (e : Ending) : Prop :=
 (∃ (at_ : Nat) (k : Node) (g cap : Nat), e = .returned (.tuple #[.int .i64 at_, .bool true]) /\ k ∈ nodes /\ k.key = n.key ++ [x] /\ at_ < n.kids.length /\ W.cell? ⟨n.blk, 7, none⟩ = some (.slice (some ⟨g, 0, none⟩) n.kids.length cap) /\ W.cell? ⟨g, at_, none⟩ = some (.pointer (some ⟨k.blk, 0, none⟩))) \/
 (∃ (at_ : Nat), e = .returned (.tuple #[.int .i64 at_, .bool false]) /\ ∀ full, n.key ++ [x] <+: full -> ∀ m ∈ nodes, m.key ≠ full)
theorem qvs {nodes : List Node} (T : Tree nodes) {n : Node} (hn : n ∈ nodes) (x : Bs) (W : World) (hN : ∀ n ∈ nodes, qan W n) :
  Calls Tryz.prog 104 #[.pointer (some ⟨n.blk, 0, none⟩), .string (sb x)] W fun e w' => qv0 nodes n x W e /\ w' = W := by
 refine (qja T hN hn (sb x)).mono ?_
 rintro e w' ⟨⟨ks, hk, hm, hs, at_, th, rfl, hle, hlo, hhi, hth⟩, rfl⟩
 refine ⟨?_, rfl⟩
 rw [qbi] at hth hlo hhi
 cases th with
 | true =>
  left
  have h1 := hth.1 rfl
  simp only [List.getElem?_map, Option.map_eq_some_iff] at h1
  obtain ⟨k, hk1, hk2⟩ := h1
  obtain ⟨hkn, y, hy⟩ := (hm k).1 (List.mem_of_getElem? hk1)
  rw [hy, qdc] at hk2
  subst hk2
  have hj : n.kids[at_]? = some k.blk := by rw [hk]; simp [hk1]
  obtain ⟨g, cap, hv, hc⟩ := (hN n hn).kid hj
  exact ⟨at_, k, g, cap, rfl, hkn, hy, (List.getElem?_eq_some_iff.1 hj).1, by rw [<- hv]; exact (hN n hn).cell rfl, hc⟩
 | false =>
  right
  refine ⟨at_, rfl, fun full hf => T.qra hn hm (fun hx => ?_) hf⟩
  obtain ⟨j, hj⟩ := List.getElem?_of_mem hx
  have h0 : cmpB x x = 0 := qei x
  rcases Nat.lt_or_ge j at_ with h | h
  ·have := hlo j x h hj; omega
  ·rcases Nat.lt_or_ge at_ j with h2 | h2
   ·-- the one at the place is less than x
    have hlt : at_ < (ks.map fun k => qbv k.key).length := by have := (List.getElem?_eq_some_iff.1 hj).1; omega
    have h3 := List.pairwise_iff_getElem.1 hs at_ j hlt (List.getElem?_eq_some_iff.1 hj).1 h2
    rw [(List.getElem?_eq_some_iff.1 hj).2] at h3
    have h4 := hhi at_ _ (Nat.le_refl _) (List.getElem?_eq_getElem hlt)
    omega
   ·obtain rfl : j = at_ := by omega
    have := hth.2 hj; cases this
set_option maxRecDepth 100000 in
set_option maxHeartbeats 2000000 in
theorem quc {nodes : List Node} (T : Tree nodes) {r : Node} (hr : r ∈ nodes) (hrk : r.key = []) (s : ByteArray) (hs : s.size <= 2000000) (w : World) (hN : ∀ n ∈ nodes, qan w n) :
  Calls Tryz.prog 63 #[nptr r.blk, .string s] w fun e w' => qs9 nodes (qaa (bl s)) e /\ Below w.heap.size w w' := by
 have hdd : ∀ k : Nat, Fence.wide.depth.isSome = true -> 1 <= k := fun k h => by simp [Fence.wide] at h
 refine (callsIn_wide (n := 3)).1 ?_
 refine callsIn_of_wp_marks Tryz.func63 rfl trivial ?_ rfl
 unfold nptr
 simp only [Tryz.ntmps63, List.size_toArray, List.length_cons, List.length_nil, Nat.reduceAdd, Nat.reduceSub, Array.replicate_succ, Array.replicate_zero, List.push_toArray, List.append_toArray, List.nil_append, List.cons_append]
 gi_wp2_with ((first | refine ⟨trivial, hdd _, ?_⟩ | refine ⟨trivial, ?_⟩); gi_at_call 102; refine (callsIn_wide.2 (qly s hs _)).mono ?_; rintro e W ⟨gf, lb, rfl, eg, hb, hseq⟩)
 have hszW : w.heap.size + 2 <= W.heap.size := by have := hb.size; simp at this; omega
 obtain ⟨S, hS, hq⟩ := hseq (fun b => (b = w.heap.size \/ b = w.heap.size + 1) \/ W.heap.size <= b) (fun b h1 h2 h => by simp at h1; omega)
 have hbx4 : Box W w.heap.size 97 (.pointer none) := ((Box.new w 97 _).alloc _).below hb (by simp <;> omega)
 have hbx5 : Box W (w.heap.size + 1) 97 (.pointer (some ⟨r.blk, 0, none⟩)) := by
  have := Box.new (w.alloc (.cells #[.pointer none] 97)) 97 (.pointer (some ⟨r.blk, 0, none⟩))
  rw [World.size_alloc] at this
  exact this.below hb (by simp)
 have hbw : Below w.heap.size w W := qac (((Below.refl _ _).alloc (Nat.le_refl _) _).alloc (by simp) _) hb
 clear hseq hb
 have hnS : ∀ b, b <= w.heap.size + 1 -> ¬ (S b \/ W.heap.size <= b) := fun b hb' h => by
  rcases h with h | h
  ·have h1 := (hS _ h).1; simp at h1; omega
  ·omega
 refine qgy (T := fun b => b = w.heap.size \/ b = w.heap.size + 1) rfl eg hq (Below.refl _ _) rfl (fun b h => (hS b h).2) (fun b h => by omega)
  (fun pre A => (∃ n ∈ nodes, n.key = pre /\ Box A (w.heap.size + 1) 97 (.pointer (some ⟨n.blk, 0, none⟩))) /\ Box A w.heap.size 97 (.pointer none) /\ Below w.heap.size w A)
  (fun c pre A => c = .ret /\ (∀ n ∈ nodes, n.key ≠ qaa (bl s)) /\ Box A w.heap.size 97 (.pointer none) /\ Below w.heap.size w A)
  (fun pre A B hs hk => ⟨by obtain ⟨n, h1, h2, h3⟩ := hs.1; exact ⟨n, h1, h2, h3.keep hk (hnS _ (Nat.le_refl _))⟩, hs.2.1.keep hk (hnS _ (by omega)), hs.2.2.trans (hk.toBelow hs.2.2.size (fun b hb' => hnS b (by omega)))⟩)
  (fun c pre A B hs hk => ⟨hs.1, hs.2.1, hs.2.2.1.keep hk (hnS _ (by omega)), hs.2.2.2.trans (hk.toBelow hs.2.2.2.size (fun b hb' => hnS b (by omega)))⟩)
  ⟨⟨r, hr, hrk, hbx5⟩, hbx4, hbw⟩
  (fun x => { tmps := #[.pointer (some ⟨r.blk, 0, none⟩), .string s, undef, undef, .pointer (some ⟨w.heap.size, 0, none⟩), .pointer (some ⟨w.heap.size + 1, 0, none⟩), .string (sb x), undef, undef,
   .pointer (some ⟨r.blk, 0, none⟩), .string s, .func (.func gf) #[] lb, .string (sb x), undef, undef, undef, undef, undef, undef, undef, undef, undef, undef, undef, undef, undef, undef, undef, undef], defers := [] }) ?assign ?body ?done ?stop
 case assign =>
  intro l x W K hK
  gi_wp2
  exact hK
 case body =>
  rintro l pre x W2 ⟨⟨n, hn, hnk, hbox5⟩, hbox4, hbel⟩ hsz hpre
  have hN2 : ∀ n ∈ nodes, qan W2 n := fun n hn => (hN n hn).below hbel
  have hkid := qvs T hn x W2 hN2
  have hc4 := hbox4.cell
  have hf4 := hbox4.frozen
  have hc5 := hbox5.cell
  have hf5 := hbox5.frozen
  gi_wp2_with ((first | refine ⟨trivial, hdd _, ?_⟩ | refine ⟨trivial, ?_⟩); gi_at_call 104; refine (CallsIn.inRound l (callsIn_wide.2 hkid)).mono ?_; rintro e w' ⟨(⟨at_, k, g, cap, rfl, hk1, hk2, hk3, hk4, hk5⟩ | ⟨at_, rfl, hno⟩), rfl⟩)
  ·refine ⟨(Keep.refl (fun b => b = w.heap.size \/ b = w.heap.size + 1) _).setCell (p := ⟨w.heap.size + 1, 0, none⟩) (.inr rfl) _, ⟨k, hk1, by rw [hk2, hnk], hbox5.set _⟩, hbox4.other _ _ (by simp), hbel.setCell (by simp) _⟩
  ·refine ⟨(Keep.refl (fun b => b = w.heap.size \/ b = w.heap.size + 1) _).setCell (p := ⟨w.heap.size, 0, none⟩) (.inl rfl) _, rfl, hno _ (by rw [hnk]; exact hpre), hbox4.set _, hbel.setCell (Nat.le_refl _) _⟩
 case done =>
  rintro A ⟨⟨n, hn, hnk, hbox5⟩, hbox4, hbel⟩ hD
  have hc4 := hbox4.cell
  have hf4 := hbox4.frozen
  have hc5 := hbox5.cell
  have hf5 := hbox5.frozen
  gi_wp2
  have hD' : (A.setCell ⟨w.heap.size, 0, none⟩ (.pointer (some ⟨n.blk, 0, none⟩))).heap[W.heap.size]? = some (.deferred (some [])) := (Below.heap_setCell _ _ _ _ (by simp; omega)).trans hD
  have hb2 := ((hbox4.set (.pointer (some ⟨n.blk, 0, none⟩))).put W.heap.size (.deferred none) (by omega)).cell
  refine ⟨by simp, .inl ⟨_, _, rfl, run_takeDeferred hD', ?_⟩⟩
  refine ⟨.pointer (some ⟨n.blk, 0, none⟩), by simp [results, Tryz.results127, go_sem, hb2], .inl ⟨n, hn, hnk, rfl⟩, qa8 (hbel.setCell (Nat.le_refl _) _) _ _ (by omega)⟩
 case stop =>
  rintro c pre A hpre ⟨rfl, hv, hbox4, hbel⟩ hD
  gi_wp2
  have hb2 := (hbox4.put W.heap.size (.deferred none) (by omega)).cell
  refine ⟨by simp, .inl ⟨_, _, rfl, run_takeDeferred hD, ?_⟩⟩
  refine ⟨.pointer none, by simp [results, Tryz.results127, go_sem, hb2], .inr ⟨hv, rfl⟩, qa8 hbel _ _ (by omega)⟩
end Go.Proofs.YtphclnolomgjoaaGreatDoor
namespace Go.Proofs.YtphclnolomgjoaaGreatDoor
open Go.RowKit
theorem eq35 (d : Nat) (a b c e : Int) (w : World) : (Op.equalIn (d + 2) 35 (.agg #[.int .i64 a, .int .i64 b]) (.agg #[.int .i64 c, .int .i64 e])).run Tryz.prog w = .ok (a == c && b == e) w := by
 have u3 := Tryz.underlying3
 have u35 := Tryz.underlying35
 have z3 := Tryz.sizeOf3
 have a3 := Tryz.isAgg3
 unfold Op.equalIn
 simp only [Sem.run_bind, run_underlying u35, Result.andThen_ok]
 simp [go_sem, z3, a3, List.range', Std.Legacy.Range.forIn_eq_forIn_range', part]
 by_cases h : a = c <;> by_cases k : b = e <;> simp [h, k]
theorem qw7 (a b c e : Int) (w : World) : (binOp .eql 35 (.agg #[.int .i64 a, .int .i64 b]) (.agg #[.int .i64 c, .int .i64 e])).run Tryz.prog w = .ok (.bool (a == c && b == e)) w := by
 rw [run_eql_struct, show (10000 : Nat) = 9998 + 2 from rfl, eq35]; rfl
theorem qwk (a b c e : Int) (w : World) : (binOp .neq 35 (.agg #[.int .i64 a, .int .i64 b]) (.agg #[.int .i64 c, .int .i64 e])).run Tryz.prog w = .ok (.bool (!(a == c && b == e))) w := by
 rw [run_neq_struct, show (10000 : Nat) = 9998 + 2 from rfl, eq35]; rfl
theorem qvb (op : BinOp) (x y : Operand) (xs ys : Array Value) (w : World) : (eqGuard op 35 x y (.agg xs) (.agg ys)).run Tryz.prog w = .ok () w :=
 run_eqGuard_agg w op 35 x y xs ys (by kernel_rfl)
set_option maxHeartbeats 400000 in
theorem qrp (a b : Int) (w : World) :
  Calls Tryz.prog 195 #[.agg #[.int .i64 a, .int .i64 b]] w fun e w' => e = .returned (.agg #[.int .i64 (max 0 (min a 1000)), .int .i64 (max 0 (min b 1000))]) /\ Below w.heap.size w w' := by
 have i0 : ∀ w, (Instr.index 35 (.agg #[.int .i64 a, .int .i64 b]) (.int .i64 0)).run Tryz.prog w = .ok (.int .i64 a) w := fun _ => by kernel_rfl
 have i1 : ∀ w, (Instr.index 35 (.agg #[.int .i64 a, .int .i64 b]) (.int .i64 1)).run Tryz.prog w = .ok (.int .i64 b) w := fun _ => by kernel_rfl
 go_enter Tryz.func195, Tryz.ntmps195
 go_wp2
 go_rounds 3
 all_goals go_wp2
 all_goals refine bodyPost_ret (v := .agg #[.int .i64 (max 0 (min a 1000)), .int .i64 (max 0 (min b 1000))]) (by simp [results, Tryz.results60, go_sem]; omega) rfl ⟨rfl, by (repeat (first | exact Below.refl _ _ | refine qac ?_ (by assumption) | refine Below.setCell ?_ (by first | omega | (simp <;> omega)) _ | refine Below.alloc ?_ (by first | omega | (simp <;> omega)) _ | refine Below.drew ?_ | refine below_drewN ?_ _))⟩
set_option maxRecDepth 100000 in
set_option maxHeartbeats 400000 in
theorem qin (a b : Int) (w : World) :
  Calls Tryz.prog 147 #[.agg #[.int .i64 a, .int .i64 b]] w fun e w' => e = .returned (.bool (qao a b)) /\ Below w.heap.size w w' := by
 have hq := qw7
 have hg := qvb
 go_enter Tryz.func147, Tryz.ntmps147
 go_wp2
 go_region_with (go_at_call 195; refine (qrp _ _ _).mono ?_; rintro e w1 ⟨rfl, hb1⟩; have c0 := (hb1.cell (p := ⟨w.heap.size, 0, none⟩) (by simp)); have c1 := (hb1.cell (p := ⟨w.heap.size, 1, none⟩) (by simp)))
 all_goals go_wp2
 all_goals go_ret
 all_goals exact ⟨qa9 (by rw [Bool.eq_iff_iff]; simp [qao]; omega), (by (repeat (first | exact Below.refl _ _ | refine qac ?_ (by assumption) | refine Below.setCell ?_ (by first | omega | (simp <;> omega)) _ | refine Below.alloc ?_ (by first | omega | (simp <;> omega)) _ | refine Below.drew ?_ | refine below_drewN ?_ _)))⟩
set_option maxHeartbeats 400000 in
theorem qee (a b : Int) (w : World) :
  Calls Tryz.prog 54 #[.agg #[.int .i64 a, .int .i64 b]] w fun e w' => e = .returned (.pointer (some ⟨w.heap.size + 1, 0, none⟩)) /\
   w' = ((w.alloc (.cells #[.int .i64 a, .int .i64 b] 35)).alloc (.cells #[.string ⟨#[]⟩, .bool false, .int .i64 0, .int .i64 0, .int .i64 a, .int .i64 b, .pointer none, .slice none 0 0] 136)) := by
 go_enter Tryz.func54, Tryz.ntmps54
 go_wp2
 go_ret
 exact ⟨rfl, rfl⟩
set_option maxHeartbeats 400000 in
theorem qnq (c d a b : Int) (w : World) :
  Calls Tryz.prog 53 #[.agg #[.int .i64 c, .int .i64 d], .agg #[.int .i64 a, .int .i64 b]] w fun e w' => e = .returned (.pointer (some ⟨w.heap.size + 2, 0, none⟩)) /\
   w' = (((w.alloc (.cells #[.int .i64 c, .int .i64 d] 35)).alloc (.cells #[.int .i64 a, .int .i64 b] 35)).alloc (.cells #[.string ⟨#[]⟩, .bool true, .int .i64 c, .int .i64 d, .int .i64 a, .int .i64 b, .pointer none, .slice none 0 0] 136)) := by
 go_enter Tryz.func53, Tryz.ntmps53
 go_wp2
 go_ret
 exact ⟨rfl, rfl⟩
set_option maxHeartbeats 400000 in
theorem qko (b : Nat) (f : Bool) (w : World) (h : w.cell? ⟨b, 1, none⟩ = some (.bool f)) :
  Calls Tryz.prog 105 #[.pointer (some ⟨b, 0, none⟩)] w fun e w' => e = .returned (.bool f) /\ w' = w := by
 go_enter Tryz.func105, Tryz.ntmps105
 go_wp2
 go_ret
 exact ⟨rfl, rfl⟩
set_option maxHeartbeats 400000 in
theorem qpw (b : Nat) (x y : Int) (w : World) (h : w.cell? ⟨b, 4, none⟩ = some (.int .i64 x)) (h' : w.cell? ⟨b, 5, none⟩ = some (.int .i64 y)) :
  Calls Tryz.prog 86 #[.pointer (some ⟨b, 0, none⟩)] w fun e w' => e = .returned (.agg #[.int .i64 x, .int .i64 y]) /\ Below w.heap.size w w' := by
 have hb := World.block_lt_of_cell? w _ h
 go_enter Tryz.func86, Tryz.ntmps86
 go_wp2
 exact bodyPost_ret (v := .agg #[.int .i64 x, .int .i64 y]) (by simp [results, Tryz.results129, go_sem]) rfl ⟨rfl, by (repeat (first | exact Below.refl _ _ | refine qac ?_ (by assumption) | refine Below.setCell ?_ (by first | omega | (simp <;> omega)) _ | refine Below.alloc ?_ (by first | omega | (simp <;> omega)) _ | refine Below.drew ?_ | refine below_drewN ?_ _))⟩
set_option maxHeartbeats 400000 in
theorem qid (a b c d : Int) (w : World) (h1 : 0 <= a) (h2 : a <= 100000) (h3 : 0 <= b) (h4 : b <= 100000) (h5 : 0 <= c) (h6 : c <= 100000) (h7 : 0 <= d) (h8 : d <= 100000) :
  Calls Tryz.prog 139 #[.agg #[.int .i64 a, .int .i64 b], .agg #[.int .i64 c, .int .i64 d]] w fun e w' => e = .returned (.agg #[.int .i64 (a + c), .int .i64 (b + d)]) /\ Below w.heap.size w w' := by
 go_enter Tryz.func139, Tryz.ntmps139
 go_wp2
 refine wp_loop_rounds 3 ?_
 rw [rounds_succ]; go_wp2
 go_region
 go_wp2
 rw [rounds_succ]; go_wp2
 go_region
 go_wp2
 rw [rounds_succ]; go_wp2
 exact bodyPost_ret (v := .agg #[.int .i64 (a + c), .int .i64 (b + d)]) (by simp [results, Tryz.results78, go_sem]) rfl ⟨rfl, by (repeat (first | exact Below.refl _ _ | refine qac ?_ (by assumption) | refine Below.setCell ?_ (by first | omega | (simp <;> omega)) _ | refine Below.alloc ?_ (by first | omega | (simp <;> omega)) _ | refine Below.drew ?_ | refine below_drewN ?_ _))⟩
end Go.Proofs.YtphclnolomgjoaaGreatDoor
namespace Go.Proofs.YtphclnolomgjoaaGreatDoor
open Go.RowKit Go.Shelf
attribute [local go_sem] Oper.semAt_some
def dfs (ch : Node -> List Node) : Nat -> Node -> List Node
 | 0, n => [n]
 | f + 1, n => n :: (ch n).flatMap (dfs ch f)
structure Kids (nodes : List Node) (ch : Node -> List Node) : Prop where
 blks : ∀ p ∈ nodes, p.kids = (ch p).map (·.blk)
 mem : ∀ p ∈ nodes, ∀ k, k ∈ ch p ↔ (k ∈ nodes /\ ∃ x, k.key = p.key ++ [x])
 sort : ∀ p ∈ nodes, ((ch p).map fun k => qbv k.key).Pairwise fun a b => cmpB a b < 0
theorem Tree.ch {nodes : List Node} (T : Tree nodes) : ∃ ch, Kids nodes ch := by
 have : ∀ p : Node, ∃ ks : List Node, p ∈ nodes -> p.kids = ks.map (·.blk) /\ (∀ k, k ∈ ks ↔ (k ∈ nodes /\ ∃ x, k.key = p.key ++ [x])) /\ (ks.map fun k => qbv k.key).Pairwise fun a b => cmpB a b < 0 := fun p => by
  by_cases hp : p ∈ nodes
  ·obtain ⟨ks, h⟩ := T.kids p hp; exact ⟨ks, fun _ => h⟩
  ·exact ⟨[], fun h => absurd h hp⟩
 refine ⟨fun p => (this p).choose, ⟨fun p hp => ((this p).choose_spec hp).1, fun p hp => ((this p).choose_spec hp).2.1, fun p hp => ((this p).choose_spec hp).2.2⟩⟩
theorem qel {nodes : List Node} {Tm : Nat -> Prop} (hT : ∀ n ∈ nodes, ¬ Tm n.blk /\ ∀ g, n.sl.ownBlock = some g -> ¬ Tm g) {W W' : World} (hN : ∀ n ∈ nodes, qan W n) (hk : Keep Tm W W') : ∀ n ∈ nodes, qan W' n :=
 fun n hn => (hN n hn).keep hk (hT n hn).1 (hT n hn).2
set_option maxRecDepth 100000 in
set_option maxHeartbeats 4000000 in
theorem qmk {nodes : List Node} {ch : Node -> List Node} (K : Kids nodes ch) (l : Nat) (Tm : Nat -> Prop) (XS : List Node) (J Jx : List Node -> World -> Prop)
  (hT : ∀ n ∈ nodes, ¬ Tm n.blk /\ ∀ g, n.sl.ownBlock = some g -> ¬ Tm g)
  (hY : ∀ m pre x W1, J pre W1 -> pre ++ [x] <+: XS -> YieldAt Fence.wide m Tryz.prog l #[nptr x.blk] W1 fun e W' =>
   (e = .returned (.bool true) /\ J (pre ++ [x]) W' /\ Keep Tm W1 W') \/ (e = .returned (.bool false) /\ Jx (pre ++ [x]) W'))
  (n : Node) (hn : n ∈ nodes) (hlen : (ch n).length <= 1000) (sub : Node -> List Node)
  (ih : ∀ k ∈ ch n, ∀ (m : Nat) (pre : List Node) (W : World), (∀ n ∈ nodes, qan W n) -> J pre W -> pre ++ sub k <+: XS ->
   CallsIn Fence.wide m Tryz.prog 150 #[nptr k.blk, .func (.yield l) #[] #[]] W fun e W' =>
    (e = .returned (.bool true) /\ J (pre ++ sub k) W' /\ Keep Tm W W') \/ (e = .returned (.bool false) /\ ∃ q, q <+: XS /\ Jx q W'))
  (m : Nat) (pre : List Node) (W : World) (hN : ∀ n ∈ nodes, qan W n) (hJ : J pre W) (hX : pre ++ n :: (ch n).flatMap sub <+: XS) :
   CallsIn Fence.wide m Tryz.prog 150 #[nptr n.blk, .func (.yield l) #[] #[]] W fun e W' =>
    (e = .returned (.bool true) /\ J (pre ++ n :: (ch n).flatMap sub) W' /\ Keep Tm W W') \/ (e = .returned (.bool false) /\ ∃ q, q <+: XS /\ Jx q W') := by
 have hdd : ∀ k : Nat, Fence.wide.depth.isSome = true -> 1 <= k := fun k h => by simp [Fence.wide] at h
 have hX1 : pre ++ [n] <+: XS := List.IsPrefix.trans ⟨(ch n).flatMap sub, by simp⟩ hX
 obtain ⟨fn, tmps, assign, body, hy, hR⟩ := hY (m - 1) pre n W hJ hX1
 have hkl : n.kids.length = (ch n).length := by rw [K.blks n hn]; simp
 obtain ⟨ao, cap, hsl⟩ : ∃ ao cap, n.sl = .slice ao (ch n).length cap := by
  obtain ⟨_, hr⟩ := (hN n hn).row
  rcases hr with ⟨hv, h0⟩ | ⟨g, cap, cur, hv, _⟩
  ·exact ⟨none, 0, by rw [hv, <- hkl, h0]⟩
  ·exact ⟨_, _, by rw [hv, hkl]⟩
 have hR2 := hR.mono (R' := fun e W' => (e = .returned (.bool true) /\ J (pre ++ [n]) W' /\ Keep Tm W W' /\ W'.cell? ⟨n.blk, 7, none⟩ = some (.slice ao (ch n).length cap)) \/ (e = .returned (.bool false) /\ Jx (pre ++ [n]) W'))
  (fun e W' h => h.elim (fun ⟨he, hj, hk⟩ => .inl ⟨he, hj, hk, by rw [<- hsl]; exact ((hN n hn).keep hk (hT n hn).1 (hT n hn).2).cell rfl⟩) .inr)
 clear hR
 obtain ⟨L, hL⟩ : ∃ L, L = (ch n).length := ⟨_, rfl⟩
 rw [<- hL] at hR2 hlen
 have HL : Hid (L = (ch n).length) := hL
 have HSL : Hid (n.sl = .slice ao (ch n).length cap) := hsl
 clear hL hsl hkl
 refine callsIn_of_wp Tryz.func150 rfl trivial ?_ rfl
 unfold nptr at hy ⊢
 simp only [Tryz.ntmps150, List.size_toArray, List.length_cons, List.length_nil, Nat.reduceAdd, Nat.reduceSub, Array.replicate_succ, Array.replicate_zero, List.push_toArray, List.append_toArray, List.nil_append, List.cons_append]
 gi_wp2_with (refine ⟨hdd _, ?_⟩; refine hR2.mono ?_; clear hR2; rintro e W2 (⟨rfl, hJ2, hk2, hc2⟩ | ⟨rfl, hx2⟩))
 ·gi_loopw [16] (fun i wr => ∃ j : Nat, i = .int .i64 j /\ j <= L /\ J (pre ++ n :: ((ch n).take j).flatMap sub) wr /\ Keep Tm W wr) (fun i _ => L - (intOf i).toNat)
  case atStart => exact ⟨0, rfl, Nat.zero_le _, by simpa using hJ2, hk2⟩
  case round =>
   obtain ⟨j, rfl, hj, hJj, hkj⟩ := hrel
   have hNr := qel hT hN hkj
   by_cases hlt : j < L
   ·have hjl : j < (ch n).length := by rw [<- HL.out]; exact hlt
    obtain ⟨k, hk⟩ : ∃ k, (ch n)[j]? = some k := ⟨_, List.getElem?_eq_getElem hjl⟩
    have hkm : k ∈ ch n := List.mem_of_getElem? hk
    obtain ⟨g, cap', hv, hcell⟩ := (hNr n hn).kid (j := j) (b := k.blk) (by rw [K.blks n hn]; simp [hk])
    have hao : ao = some ⟨g, 0, none⟩ := by
     have := HSL.out; rw [hv] at this; injection this with h1 _ _; exact h1.symm
    have HTK : Hid ((ch n).take (j + 1) = (ch n).take j ++ [k]) := by
     rw [List.take_succ_eq_append_getElem hjl]
     rw [List.getElem?_eq_getElem hjl] at hk; cases hk; rfl
    have hpre2 : (pre ++ n :: ((ch n).take j).flatMap sub) ++ sub k <+: XS := by
     refine List.IsPrefix.trans ⟨((ch n).drop (j + 1)).flatMap sub, ?_⟩ hX
     conv => rhs; rw [<- List.take_append_drop (j + 1) (ch n), HTK.out]
     simp
    have hcall := ih k hkm (m - 1) _ wr hNr hJj hpre2
    clear ih hY hk hJj
    unfold nptr at hcall hcell
    subst hao
    gi_wp2_with ((first | refine ⟨trivial, hdd _, ?_⟩ | refine ⟨trivial, ?_⟩); gi_at_call 150; refine hcall.mono ?_; clear hcall; rintro e W3 (⟨rfl, hJ3, hk3⟩ | ⟨rfl, q, hq, hx3⟩))
    ·go_roundw
     case rel =>
      refine ⟨j + 1, by go_num, by omega, ?_, hkj.trans hk3⟩
      rw [HTK.out]; simpa using hJ3
     case measure => simp [intOf]; omega
    ·go_ret
     exact .inr ⟨rfl, q, hq, hx3⟩
   ·gi_wp2
    go_ret
    have hjl : (ch n).take j = ch n := List.take_of_length_le (by rw [<- HL.out]; omega)
    rw [hjl] at hJj
    exact .inl ⟨rfl, hJj, hkj⟩
 ·go_ret
  exact .inr ⟨rfl, _, hX1, hx2⟩
theorem qt8 {nodes : List Node} (T : Tree nodes) {ch : Node -> List Node} (K : Kids nodes ch) {n : Node} (hn : n ∈ nodes) : (ch n).length <= 20 := by
 have hsub : ((ch n).map (·.key)).Nodup := by
  have : ((ch n).map fun k => qbv k.key).Nodup := (K.sort n hn).imp (fun {a b} h e => by subst e; rw [show cmpB a a = 0 from qei a] at h; omega)
  rw [show ((ch n).map fun k => qbv k.key) = ((ch n).map (·.key)).map qbv by simp] at this
  exact qcc this
 have h1 : ∀ x ∈ (ch n).map (·.key), x ∈ nodes.map (·.key) := by
  intro k hk'; obtain ⟨c, hc, rfl⟩ := List.mem_map.1 hk'
  exact List.mem_map.2 ⟨c, ((K.mem n hn c).1 hc).1, rfl⟩
 have h2 := qdg hsub h1
 have h3 := T.len
 simp at h2; omega
theorem qvp {nodes : List Node} (T : Tree nodes) {ch : Node -> List Node} (K : Kids nodes ch) (l : Nat) (Tm : Nat -> Prop) (XS : List Node) (J Jx : List Node -> World -> Prop)
  (hT : ∀ n ∈ nodes, ¬ Tm n.blk /\ ∀ g, n.sl.ownBlock = some g -> ¬ Tm g)
  (hY : ∀ m pre x W1, J pre W1 -> pre ++ [x] <+: XS -> YieldAt Fence.wide m Tryz.prog l #[nptr x.blk] W1 fun e W' =>
   (e = .returned (.bool true) /\ J (pre ++ [x]) W' /\ Keep Tm W1 W') \/ (e = .returned (.bool false) /\ Jx (pre ++ [x]) W')) :
  ∀ (f : Nat) (n : Node), n ∈ nodes -> 4 <= n.key.length + f -> ∀ (m : Nat) (pre : List Node) (W : World), (∀ n ∈ nodes, qan W n) -> J pre W -> pre ++ dfs ch f n <+: XS ->
   CallsIn Fence.wide m Tryz.prog 150 #[nptr n.blk, .func (.yield l) #[] #[]] W fun e W' =>
    (e = .returned (.bool true) /\ J (pre ++ dfs ch f n) W' /\ Keep Tm W W') \/ (e = .returned (.bool false) /\ ∃ q, q <+: XS /\ Jx q W') := by
 intro f
 induction f with
 | zero =>
  intro n hn hk m pre W hN hJ hX
  have hch : ch n = [] := by
   rcases List.eq_nil_or_concat (ch n) with h | ⟨ks, k, h⟩
   ·exact h
   ·exfalso
    obtain ⟨hkn, x, hx⟩ := (K.mem n hn k).1 (by rw [h]; simp)
    have := (T.ok k hkn).2
    rw [hx] at this; simp at this; omega
  have h := qmk K l Tm XS J Jx hT hY n hn (by rw [hch]; simp) (fun _ => []) (by rw [hch]; simp) m pre W hN hJ (by rw [hch]; exact hX)
  rw [hch] at h; exact h
 | succ f ih =>
  intro n hn hk m pre W hN hJ hX
  exact qmk K l Tm XS J Jx hT hY n hn (by have := qt8 T K hn; omega) (dfs ch f) (fun k hk' => ih k ((K.mem n hn k).1 hk').1 (by obtain ⟨x, hx⟩ := ((K.mem n hn k).1 hk').2; rw [hx]; simp; omega)) m pre W hN hJ hX
set_option maxHeartbeats 1000000 in
theorem qm5 {nodes : List Node} (T : Tree nodes) {ch : Node -> List Node} (K : Kids nodes ch) {n : Node} (hn : n ∈ nodes) (w : World) (hN : ∀ n ∈ nodes, qan w n) :
  Calls Tryz.prog 101 #[nptr n.blk] w fun e w' => e = .returned (.func (.func 149) #[] #[.pointer (some ⟨w.heap.size, 0, none⟩)]) /\ w' = w.alloc (.cells #[nptr n.blk] 97) /\
   ∀ Tm : Nat -> Prop, (∀ n ∈ nodes, ¬ Tm n.blk /\ ∀ g, n.sl.ownBlock = some g -> ¬ Tm g) -> SeqK Tryz.prog 149 #[.pointer (some ⟨w.heap.size, 0, none⟩)] (fun x : Node => nptr x.blk) (fun _ => False) Tm (dfs ch 4 n) w' := by
 have hmf : ∀ (fn : Fn) (first cap : Array Value) (w : World), (Instr.makeFunc fn first cap).run Tryz.prog w = .ok (.func fn first cap) w := fun _ _ _ _ => rfl
 have key : ∀ Tm : Nat -> Prop, (∀ n ∈ nodes, ¬ Tm n.blk /\ ∀ g, n.sl.ownBlock = some g -> ¬ Tm g) -> SeqK Tryz.prog 149 #[.pointer (some ⟨w.heap.size, 0, none⟩)] (fun x : Node => nptr x.blk) (fun _ => False) Tm (dfs ch 4 n) (w.alloc (.cells #[nptr n.blk] 97)) := by
  intro Tm hT m l J Jx W hW hl hJ hJx hY h0
  have hdd : ∀ k : Nat, Fence.wide.depth.isSome = true -> 1 <= k := fun k h => by simp [Fence.wide] at h
  have hNW : ∀ n ∈ nodes, qan W n := fun n hn => (hN n hn).below (qac ((Below.refl _ _).alloc (Nat.le_refl _) _) hW)
  have hb : W.cell? ⟨w.heap.size, 0, none⟩ = some (nptr n.blk) := ((Box.new w 97 (nptr n.blk)).below hW (by simp)).cell
  have he := qvp T K l Tm (dfs ch 4 n) J Jx hT hY 4 n hn (by omega) (m - 1) [] W hNW h0 (List.prefix_refl _)
  refine callsIn_of_wp Tryz.func149 rfl trivial ?_ rfl
  unfold nptr at he hb
  simp only [Tryz.ntmps149, List.size_toArray, List.length_cons, List.length_nil, Nat.reduceAdd, Nat.reduceSub, Array.replicate_succ, Array.replicate_zero, List.push_toArray, List.append_toArray, List.nil_append, List.cons_append]
  gi_wp2_with ((first | refine ⟨trivial, hdd _, ?_⟩ | refine ⟨trivial, ?_⟩); gi_at_call 150; refine he.mono ?_; clear he; rintro e W3 (⟨rfl, hJ3, hk3⟩ | ⟨rfl, q, hq, hx3⟩))
  ·go_end0
   exact ⟨⟨_, rfl⟩, .inl hJ3⟩
  ·go_end0
   exact ⟨⟨_, rfl⟩, .inr ⟨q, hq, hx3⟩⟩
 unfold nptr at key ⊢
 go_enter Tryz.func101, Tryz.ntmps101
 go_wp2
 go_ret
 exact ⟨rfl, rfl, key⟩
end Go.Proofs.YtphclnolomgjoaaGreatDoor
