import Derived.Test.YtphclnolomgjoaaGreatDoorC02
import Derived.Deep.RegionLaw
import Derived.Lib.AppendZeros
import Derived.ArgAppend
import Derived.Test.YtphclnolomgjoaaGreatDoorC05
import Derived.BigQuiet
set_option linter.unusedVariables false
set_option linter.unusedSimpArgs false
namespace Go.Proofs.YtphclnolomgjoaaGreatDoor
open Go.RowKit
theorem qgu {P : Program} (w : World) (t e : TypeId) (i0 : TypeInfo) (z : Value) (size bytes : Nat) (ht : P.underlying t = some (.slice e)) (hi : P.info? e = some i0) (hz0 : i0.zero = some z)
  (hz1 : i0.size = size) (hz2 : i0.bytes = bytes) (hzs : z.cells.size = size) (hsz : 0 < size) (sl : Value) (n : Nat) (xs : List Value) (hown : w.ownsRow 0 e size sl n xs)
  (ad : Addr) (m c : Nat) (hm : 0 < n + m) (news : List Value) (hl : news.length = m * size) (hnews : ∀ j u, news[j]? = some u -> w.cell? (ad.add j) = some u) (h1 : ∀ u ∈ news, u.oneCell' = true)
  (h63 : n + m <= maxLen) (hb : (n + m) * bytes <= 140737488355328) :
  ∃ v' w', (∀ ty, (Builtin.append_ #[t, t] ty #[sl, .slice (some ad) m c]).run P w = .ok v' w') /\ w'.ownsRow 0 e size v' (n + m) (xs ++ news) /\ w.grownBy w' sl.ownBlock /\ (v'.ownBlock = sl.ownBlock \/ ∃ g, v'.ownBlock = some g /\ w.heap.size <= g) := by
 have hnew : ∀ {v' : Value} {w' : World}, w'.ownsRow w.heap.size e size v' (n + m) (xs ++ news) -> w'.ownsRow 0 e size v' (n + m) (xs ++ news) /\ ∃ g, v'.ownBlock = some g /\ w.heap.size <= g := fun {v' w'} h => by
  obtain ⟨h1, h2⟩ := h
  rcases h2 with ⟨_, h0⟩ | ⟨g, cap, cur, rfl, hb, rest⟩
  ·omega
  ·exact ⟨⟨h1, .inr ⟨g, cap, cur, rfl, Nat.zero_le _, rest⟩⟩, g, rfl, hb⟩
 rcases hown.2 with ⟨rfl, rfl⟩ | ⟨g, cap, cur, rfl, _, hg, hnc, hcm, hcs, htk⟩
 ·have hx : xs = [] := List.eq_nil_of_length_eq_zero (by simpa using hown.1)
  subst hx
  obtain ⟨v', w', hr, ho, hgr, _⟩ := run_append_own (P := P) w w.heap.size t 0 e i0 z size bytes ht hi hz0 hz1 hz2 hzs hsz (.slice none 0 0) 0 [] (World.ownsRow_nil w _ e size) ad m c news hl hnews h1 h63 hb (Nat.le_refl _)
  have ho' := hnew ho
  exact ⟨v', w', fun ty => hr, ho'.1, hgr, .inr ho'.2⟩
 ·by_cases hroom : n + m <= cap
  ·have hr := fun ty => run_append_room (P := P) w t ty e i0 ht hi g n cap cur hg ad m c news (by rw [hz1]; exact hl) hnews h1 hroom (by rw [hz1, hl, hcs, <- Nat.add_mul]; exact Nat.mul_le_mul_right _ hroom)
   rw [hz1] at hr
   have hlen : (xs ++ news).length = (n + m) * size := by rw [List.length_append, hown.1, hl, Nat.add_mul]
   refine ⟨_, _, hr, ⟨hlen, .inr ⟨g, cap, _, rfl, Nat.zero_le _, setRow_heap w g cur _ e _ hg, hroom, hcm, ?_, ?_⟩⟩, ⟨rfl, rfl, rfl, by simp, fun k _ hk => setRow_other w g k _ (fun e => hk (by simp [Value.ownBlock, e]))⟩, .inl rfl⟩
   ·have hfit : n * size + news.length <= cur.size := by rw [hl, hcs, <- Nat.add_mul]; exact Nat.mul_le_mul_right _ hroom
    simp only [List.size_toArray, List.length_append, List.length_take, List.length_drop, Array.length_toList]
    omega
   ·rw [htk, <- hlen]
    exact List.take_left
  ·obtain ⟨v', w', hr, ho, hgr⟩ := run_append_arg_grows (P := P) w t 0 e i0 z size bytes ht hi hz0 hz1 hz2 hzs hsz ⟨g, 0, none⟩ n cap xs hown.1 (hown.cells (g := g) rfl) ad m c news hl hnews (by omega) h63 hb
   have ho' := hnew ho
   exact ⟨v', w', fun ty => hr, ho'.1, ⟨hgr.os, hgr.tape, hgr.output, hgr.size, fun k hk _ => hgr.block k hk (by simp)⟩, .inr ho'.2⟩
theorem qau {P : Program} {ops : Array Oper} {o : Oper} {a : Act} {w : World} {K : Act -> World -> Prop} {Q : Exit -> Act -> World -> Prop} {E : Prop} {R : Value -> World -> Prop}
  (hg : o.guard = none) (d x : Operand) (dT sT : TypeId) (hop : o.op = Op.call { callee := Callee.builtin Builtin.append, args := #[d, x], argTypes := #[dT, sT] })
  (v u : Value) (hd : a.eval d = v) (hx : a.eval x = u) (hk : ∃ v' w', (∀ ty, (Builtin.append_ #[dT, sT] ty #[v, u]).run P w = .ok v' w') /\ R v' w') (hK : ∀ v' w', R v' w' -> K (a.put o.dst v') w') :
  if Region.wanted o (yielded ops a.tmps) = true then Oper.wp P o a w K Q else E := by
 obtain ⟨v', w', hr, hR⟩ := hk
 rw [if_pos (by simp [Region.wanted, hg])]
 unfold Oper.wp
 have hr' := hr o.type
 simp [execOp, hop, resolve, invoke, builtin, hd, hx, hr', Result.andThen]
 exact hK v' w' hR
theorem qah {P : Program} {w : World} {ops : Array Oper} {rest : List Oper} {o : Oper} {a : Act} {Q : Exit -> Act -> World -> Prop} {R : Value -> World -> Prop} (hgd : o.guard = none) (s x : Operand) (t tn : TypeId)
  (ho : o.op = .call { callee := .builtin .append, args := #[s, x], argTypes := #[t, tn] }) (vs vx : Value) (hs : a.eval s = vs) (hx : a.eval x = vx)
  (hk : ∃ v' w', (∀ ty, (Builtin.append_ #[t, tn] ty #[vs, vx]).run P w = .ok v' w') /\ R v' w') (h : ∀ v' w', R v' w' -> wpList P ops Q rest (a.put o.dst v') w') : wpList P ops Q (o :: rest) a w := by
 obtain ⟨v', w', hr, hR⟩ := hk
 exact Lib.wpList_append_run w hgd s x t tn ho vs vx hs hx v' w' (hr _) (h v' w' hR)
theorem qat {w : World} {e : TypeId} {size n : Nat} {v : Value} {xs : List Value} (h : w.ownsRow 0 e size v n xs) (hn : 0 < n) : ∃ g cap, v = .slice (some ⟨g, 0, none⟩) n cap /\ n <= cap /\ cap <= maxLen := by
 rcases h.2 with ⟨_, h0⟩ | ⟨g, cap, cur, rfl, _, _, h1, h2, _⟩
 ·omega
 ·exact ⟨g, cap, rfl, h1, h2⟩
theorem Blk.new' {W : World} {t : TypeId} {vs : Array Value} {b : Nat} (h : b = W.heap.size) : Blk (W.alloc (.cells vs t)) b t vs := by subst h; exact Blk.new W t vs
def qdf (e : TypeId) (size bytes : Nat) : Prop := ∃ i0 z, Tryz.prog.info? e = some i0 /\ i0.zero = some z /\ i0.size = size /\ i0.bytes = bytes /\ z.cells.size = size
theorem qep {e : TypeId} {size bytes : Nat} {z : Value} (h1 : (Tryz.prog.info? e).map (fun i => (i.size, i.bytes)) = some (size, bytes)) (h2 : (Tryz.prog.info? e).bind (fun i => i.zero) = some z) (hz : z.cells.size = size) : qdf e size bytes := by
 cases h : Tryz.prog.info? e with
 | none => rw [h] at h1; cases h1
 | some i0 =>
  rw [h] at h1 h2
  simp only [Option.map_some, Option.some.injEq, Prod.mk.injEq, Option.bind_some] at h1 h2
  exact ⟨i0, z, h, h2, h1.1, h1.2, hz⟩
theorem i3a : (Tryz.prog.info? 3).map (fun i => (i.size, i.bytes)) = some (1, 8) := by kernel_rfl
theorem i3b : (Tryz.prog.info? 3).bind (fun i => i.zero) = some (.int .i64 0) := by kernel_rfl
theorem i29a : (Tryz.prog.info? 25).map (fun i => (i.size, i.bytes)) = some (1, 24) := by kernel_rfl
theorem i29b : (Tryz.prog.info? 25).bind (fun i => i.zero) = some (.slice none 0 0) := by kernel_rfl
theorem i46a : (Tryz.prog.info? 48).map (fun i => (i.size, i.bytes)) = some (1, 24) := by kernel_rfl
theorem i46b : (Tryz.prog.info? 48).bind (fun i => i.zero) = some (.slice none 0 0) := by kernel_rfl
theorem i59a : (Tryz.prog.info? 60).map (fun i => (i.size, i.bytes)) = some (2, 16) := by kernel_rfl
theorem i59b : (Tryz.prog.info? 60).bind (fun i => i.zero) = some (.agg #[.int .i64 0, .int .i64 0]) := by kernel_rfl
theorem inf3 : qdf 3 1 8 := qep i3a i3b rfl
theorem qxb : qdf 25 1 24 := qep i29a i29b rfl
theorem qxd : qdf 48 1 24 := qep i46a i46b rfl
theorem qm7 : qdf 60 2 16 := qep i59a i59b rfl
theorem un29 : Tryz.prog.underlying 25 = some (.slice 3) := by kernel_rfl
theorem un27 : Tryz.prog.underlying 80 = some (.slice 25) := by kernel_rfl
theorem un28 : Tryz.prog.underlying 81 = some (.slice 48) := by kernel_rfl
theorem un46 : Tryz.prog.underlying 48 = some (.slice 60) := by kernel_rfl
structure AppR (W : World) (old : Option Nat) (e : TypeId) (size n : Nat) (xs : List Value) (g cap : Nat) (w' : World) : Prop where
 le : n <= cap
 mx : cap <= maxLen
 own : w'.ownsRow 0 e size (.slice (some ⟨g, 0, none⟩) n cap) n xs
 keep : Keep (fun b => old = some b) W w'
 new : old = some g \/ W.heap.size <= g
theorem qby {t e : TypeId} {size bytes : Nat} (ht : Tryz.prog.underlying t = some (.slice e)) (hi : qdf e size bytes) (hsz : 0 < size) (W : World) (sl : Value) (n : Nat) (xs : List Value) (hown : W.ownsRow 0 e size sl n xs)
  (nb m c : Nat) (hm : 0 < n + m) (news : List Value) (hl : news.length = m * size) {t' : TypeId} (hnb : Blk W nb t' news.toArray) (h1 : ∀ u ∈ news, u.oneCell' = true) (h63 : n + m <= maxLen) (hb : (n + m) * bytes <= 140737488355328) :
  ∃ v' w', (∀ ty, (Builtin.append_ #[t, t] ty #[sl, .slice (some ⟨nb, 0, none⟩) m c]).run Tryz.prog W = .ok v' w') /\ ∃ g cap, v' = .slice (some ⟨g, 0, none⟩) (n + m) cap /\ AppR W sl.ownBlock e size (n + m) (xs ++ news) g cap w' := by
 obtain ⟨i0, z, h2, h3, h4, h5, h6⟩ := hi
 obtain ⟨v', w', hr, ho, hgr, hor⟩ := qgu (P := Tryz.prog) W t e i0 z size bytes ht h2 h3 h4 h5 h6 hsz sl n xs hown ⟨nb, 0, none⟩ m c hm news hl
  (fun j u hu => by rw [Addr.add_lit, Nat.zero_add, hnb.cell]; simpa using hu) h1 h63 hb
 obtain ⟨g', cap', rfl, hle, hmx⟩ := qat ho (by omega)
 refine ⟨_, w', hr, g', cap', rfl, hle, hmx, ho, (Keep.refl _ _).grown hgr (fun k hk => hk), ?_⟩
 rcases hor with e | ⟨g2, e, h2⟩
 ·left; rw [<- e]; rfl
 ·simp [Value.ownBlock] at e; subst e; exact .inr h2
theorem qnf {t e : TypeId} {size bytes : Nat} (ht : Tryz.prog.underlying t = some (.slice e)) (hi : qdf e size bytes) (hsz : 0 < size) (W : World) (sl : Value) (n : Nat) (xs : List Value) (hown : W.ownsRow 0 e size sl n xs)
  (ad : Addr) (m c : Nat) (hm : 0 < n + m) (news : List Value) (hl : news.length = m * size) (hnb : ∀ j u, news[j]? = some u -> W.cell? (ad.add j) = some u) (h1 : ∀ u ∈ news, u.oneCell' = true) (h63 : n + m <= maxLen) (hb : (n + m) * bytes <= 140737488355328) :
  ∃ v' w', (∀ ty, (Builtin.append_ #[t, t] ty #[sl, .slice (some ad) m c]).run Tryz.prog W = .ok v' w') /\ ∃ g cap, v' = .slice (some ⟨g, 0, none⟩) (n + m) cap /\ AppR W sl.ownBlock e size (n + m) (xs ++ news) g cap w' := by
 obtain ⟨i0, z, h2, h3, h4, h5, h6⟩ := hi
 obtain ⟨v', w', hr, ho, hgr, hor⟩ := qgu (P := Tryz.prog) W t e i0 z size bytes ht h2 h3 h4 h5 h6 hsz sl n xs hown ad m c hm news hl hnb h1 h63 hb
 obtain ⟨g', cap', rfl, hle, hmx⟩ := qat ho (by omega)
 refine ⟨_, w', hr, g', cap', rfl, hle, hmx, ho, (Keep.refl _ _).grown hgr (fun k hk => hk), ?_⟩
 rcases hor with e | ⟨g2, e, h2⟩
 ·left; rw [<- e]; rfl
 ·simp [Value.ownBlock] at e; subst e; exact .inr h2
theorem qab {T : Nat -> Prop} {W W' : World} {e : TypeId} {size n : Nat} {sl : Value} {xs : List Value} (h : W.ownsRow 0 e size sl n xs) (hk : Keep T W W') (hT : ∀ g, sl.ownBlock = some g -> ¬ T g) : W'.ownsRow 0 e size sl n xs := by
 obtain ⟨hl, hr⟩ := h
 refine ⟨hl, ?_⟩
 rcases hr with hr | ⟨g', cap', cur, rfl, hbg, hg, rest⟩
 ·exact .inl hr
 ·exact .inr ⟨g', cap', cur, rfl, hbg, (hk.block g' (Array.getElem?_eq_some_iff.1 hg).1 (hT g' rfl)).trans hg, rest⟩
theorem qal {W : World} {e : TypeId} {size n : Nat} {sl : Value} {xs : List Value} (h : W.ownsRow 0 e size sl n xs) {g : Nat} (hg : sl.ownBlock = some g) : g < W.heap.size := by
 rcases h.2 with ⟨rfl, _⟩ | ⟨g', cap', cur, rfl, hbg, hg', rest⟩
 ·cases hg
 ·simp [Value.ownBlock] at hg; subst hg; exact (Array.getElem?_eq_some_iff.1 hg').1
theorem bel2 {p : Prop} (h : p := by (repeat (first | (with_reducible exact Below.refl _ _) | (with_reducible assumption) | ((with_reducible refine Below.setCell ?_ ?_ _); rotate_left; (focus (first | omega | (simp <;> omega)))) | ((with_reducible refine Below.alloc ?_ ?_ _); rotate_left; (focus (first | omega | (simp <;> omega)))) | (with_reducible refine Below.drew ?_) | (with_reducible refine below_drewN ?_ _) | (refine qac ?_ (by with_reducible assumption))))) : p := h
theorem blk2 {p : Prop} (h : p := by (repeat (first | (with_reducible assumption) | ((with_reducible refine Blk.new' ?_); simp; done) | (with_reducible refine Blk.alloc ?_ _) | (with_reducible refine Blk.drew ?_) | (with_reducible refine Blk.drewN ?_ _)))) : p := h
theorem blk3 {p : Prop} (h : p := by (repeat (first | (with_reducible assumption) | ((with_reducible refine Blk.new' ?_); simp; done) | (with_reducible refine Blk.alloc ?_ _) | (with_reducible refine Blk.drew ?_) | (with_reducible refine Blk.drewN ?_ _) | ((with_reducible refine Blk.other ?_ _ _ ?_); rotate_left; (focus (first | omega | (simp; done) | (simp; omega))))))) : p := h
theorem bel1 {p : Prop} (h : p := by (repeat (first | exact Below.refl _ _ | refine qac ?_ (by assumption) | refine Below.setCell ?_ (by first | omega | (simp <;> omega)) _ | refine Below.alloc ?_ (by first | omega | (simp <;> omega)) _ | refine Below.drew ?_ | refine below_drewN ?_ _))) : p := h
theorem blk1 {p : Prop} (h : p := by (repeat (first | assumption | (refine Blk.new' ?_; simp; done) | refine Blk.alloc ?_ _ | refine Blk.drew ?_ | refine Blk.drewN ?_ _))) : p := h
theorem qtn {t e : TypeId} {size bytes : Nat} (ht : Tryz.prog.underlying t = some (.slice e)) (hi : qdf e size bytes) (W : World) (base : Option Addr) (n cap : Nat) (hn : n <= cap) (x2 : Option Addr) (c : Nat) (ty : TypeId) :
  (Builtin.append_ #[t, t] ty #[.slice base n cap, .slice x2 0 c]).run Tryz.prog W = .ok (.slice base n cap) W := by
 obtain ⟨i0, z, h2, h3, h4, h5, h6⟩ := hi
 cases base <;> cases x2 <;> simp [Builtin.append_, run_underlying ht, sizeOf, typeInfo, h2, hn, Builtin.firstCells, Builtin.lenOf, storeCells, loadCells, loadCellsFrom]
structure AppO (W : World) (old : Option Nat) (e : TypeId) (size n : Nat) (xs : List Value) (a : Option Addr) (cap : Nat) (w' : World) : Prop where
 le : n <= cap
 mx : cap <= maxLen
 own : w'.ownsRow 0 e size (.slice a n cap) n xs
 keep : Keep (fun b => old = some b) W w'
 new : ∀ b, (Value.slice a n cap).ownBlock = some b -> old = some b \/ W.heap.size <= b
theorem qrk {t e : TypeId} {size bytes : Nat} (ht : Tryz.prog.underlying t = some (.slice e)) (hi : qdf e size bytes) (hsz : 0 < size) (W : World) (a : Option Addr) (n cap : Nat) (hn : n <= cap) (hmx : cap <= maxLen) (xs : List Value) (hown : W.ownsRow 0 e size (.slice a n cap) n xs)
  (x2 : Option Addr) (m c : Nat) (news : List Value) (hl : news.length = m * size) (hnb : 0 < m -> ∃ ad, x2 = some ad /\ ∀ j u, news[j]? = some u -> W.cell? (ad.add j) = some u) (h1 : ∀ u ∈ news, u.oneCell' = true) (h63 : n + m <= maxLen) (hb : (n + m) * bytes <= 140737488355328) :
  ∃ v' w', (∀ ty, (Builtin.append_ #[t, t] ty #[.slice a n cap, .slice x2 m c]).run Tryz.prog W = .ok v' w') /\ ∃ a' cap', v' = .slice a' (n + m) cap' /\ AppO W (Value.slice a n cap).ownBlock e size (n + m) (xs ++ news) a' cap' w' := by
 by_cases hm : m = 0
 ·subst hm
  have hz : news = [] := List.eq_nil_of_length_eq_zero (by simpa using hl)
  subst hz
  refine ⟨_, W, fun ty => qtn ht hi W a n cap hn x2 c ty, a, cap, by simp, by simpa using hn, hmx, by simpa using hown, Keep.refl _ _, fun b hb => .inl (by simpa using hb)⟩
 ·obtain ⟨ad, rfl, hcl⟩ := hnb (by omega)
  obtain ⟨v', w', hr, g, cap', rfl, R⟩ := qnf ht hi hsz W _ n xs hown ad m c (by omega) news hl hcl h1 h63 hb
  refine ⟨_, w', hr, some ⟨g, 0, none⟩, cap', rfl, R.le, R.mx, R.own, R.keep, fun b hb => ?_⟩
  simp [Value.ownBlock] at hb
  subst hb
  exact R.new
theorem qmm {P : Program} (w : World) (t e : TypeId) (i0 : TypeInfo) (z : Value) (size bytes : Nat) (ht : P.underlying t = some (.slice e)) (hi : P.info? e = some i0) (hz0 : i0.zero = some z)
  (hz1 : i0.size = size) (hz2 : i0.bytes = bytes) (hzs : z.cells.size = size) (hsz : 0 < size) (sl : Value) (n : Nat) (xs : List Value) (hown : w.ownsRow 0 e size sl n xs)
  (ad : Addr) (m c : Nat) (hm : 0 < n + m) (news : List Value) (hl : news.length = m * size) (hnews : ∀ j u, news[j]? = some u -> w.cell? (ad.add j) = some u) (h1 : ∀ u ∈ news, u.oneCell' = true)
  (h63 : n + m <= maxLen) (hb : (n + m) * bytes <= 140737488355328) (M : Value) (hM : ∀ u ∈ news, u = M) :
  ∃ v' w', (∀ ty, (Builtin.append_ #[t, t] ty #[sl, .slice (some ad) m c]).run P w = .ok v' w') /\ w'.ownsRow 0 e size v' (n + m) (xs ++ news) /\ w.grownBy w' sl.ownBlock /\ (v'.ownBlock = sl.ownBlock \/ ∃ g, v'.ownBlock = some g /\ w.heap.size <= g) /\
   w'.ownsRow 0 e size sl n xs /\ (∀ b j, w.cell? ⟨b, j, none⟩ = some M -> w'.cell? ⟨b, j, none⟩ = some M) := by
 have hnew : ∀ {v' : Value} {w' : World}, w'.ownsRow w.heap.size e size v' (n + m) (xs ++ news) -> w'.ownsRow 0 e size v' (n + m) (xs ++ news) /\ ∃ g, v'.ownBlock = some g /\ w.heap.size <= g := fun {v' w'} h => by
  obtain ⟨h1, h2⟩ := h
  rcases h2 with ⟨_, h0⟩ | ⟨g, cap, cur, rfl, hb, rest⟩
  ·omega
  ·exact ⟨⟨h1, .inr ⟨g, cap, cur, rfl, Nat.zero_le _, rest⟩⟩, g, rfl, hb⟩
 have hstay : ∀ {w' : World}, w.grownBy w' none -> ∀ b j, w.cell? ⟨b, j, none⟩ = some M -> w'.cell? ⟨b, j, none⟩ = some M := fun {w'} hgr b j hc => hgr.cell hc (by simp)
 rcases hown.2 with ⟨rfl, rfl⟩ | ⟨g, cap, cur, rfl, _, hg, hnc, hcm, hcs, htk⟩
 ·have hx : xs = [] := List.eq_nil_of_length_eq_zero (by simpa using hown.1)
  subst hx
  obtain ⟨v', w', hr, ho, hgr, _⟩ := run_append_own (P := P) w w.heap.size t 0 e i0 z size bytes ht hi hz0 hz1 hz2 hzs hsz (.slice none 0 0) 0 [] (World.ownsRow_nil w _ e size) ad m c news hl hnews h1 h63 hb (Nat.le_refl _)
  have ho' := hnew ho
  exact ⟨v', w', fun ty => hr, ho'.1, hgr, .inr ho'.2, World.ownsRow_nil _ _ _ _, hstay hgr⟩
 ·by_cases hroom : n + m <= cap
  ·have hr := fun ty => run_append_room (P := P) w t ty e i0 ht hi g n cap cur hg ad m c news (by rw [hz1]; exact hl) hnews h1 hroom (by rw [hz1, hl, hcs, <- Nat.add_mul]; exact Nat.mul_le_mul_right _ hroom)
   rw [hz1] at hr
   have hlen : (xs ++ news).length = (n + m) * size := by rw [List.length_append, hown.1, hl, Nat.add_mul]
   have hfit : n * size + news.length <= cur.size := by rw [hl, hcs, <- Nat.add_mul]; exact Nat.mul_le_mul_right _ hroom
   refine ⟨_, _, hr, ⟨hlen, .inr ⟨g, cap, _, rfl, Nat.zero_le _, setRow_heap w g cur _ e _ hg, hroom, hcm, ?_, ?_⟩⟩, ⟨rfl, rfl, rfl, by simp, fun k _ hk => setRow_other w g k _ (fun e => hk (by simp [Value.ownBlock, e]))⟩, .inl rfl,
    ⟨hown.1, .inr ⟨g, cap, _, rfl, Nat.zero_le _, setRow_heap w g cur _ e _ hg, hnc, hcm, ?_, ?_⟩⟩, ?_⟩
   ·simp only [List.size_toArray, List.length_append, List.length_take, List.length_drop, Array.length_toList]
    omega
   ·rw [htk, <- hlen]
    exact List.take_left
   ·simp only [List.size_toArray, List.length_append, List.length_take, List.length_drop, Array.length_toList]
    omega
   ·rw [htk, List.append_assoc, <- hown.1]
    exact List.take_left
   ·intro b j hc
    by_cases hbg : b = g
    ·subst hbg
     rw [cell_of_row w b j cur e (0, 0) hg] at hc
     rw [cell_of_row _ b j _ e _ (setRow_heap w b cur _ e _ hg)]
     rw [List.getElem?_toArray]
     rcases Nat.lt_or_ge j (n * size) with h2 | h2
     ·rw [List.append_assoc, List.getElem?_append_left (by simp; omega), List.getElem?_take, if_pos h2]; simpa using hc
     ·rcases Nat.lt_or_ge j (n * size + news.length) with h3 | h3
      ·rw [List.append_assoc, List.getElem?_append_right (by simp; omega)]
       have e1 : (List.take (n * size) cur.toList).length = n * size := by simp; omega
       rw [e1, List.getElem?_append_left (by omega)]
       have h4 : j - n * size < news.length := by omega
       rw [List.getElem?_eq_getElem h4, hM _ (List.getElem_mem h4)]
      ·rw [List.getElem?_append_right (by simp; omega)]
       have e1 : (List.take (n * size) cur.toList ++ news).length = n * size + news.length := by simp; omega
       rw [e1, List.getElem?_drop]
       rw [show n * size + news.length + (j - (n * size + news.length)) = j by omega]
       simpa using hc
    ·rw [World.cell?_of_block (w := w) (a := ⟨b, j, none⟩) (setRow_other w g b _ hbg)]
     exact hc
  ·obtain ⟨v', w', hr, ho, hgr⟩ := run_append_arg_grows (P := P) w t 0 e i0 z size bytes ht hi hz0 hz1 hz2 hzs hsz ⟨g, 0, none⟩ n cap xs hown.1 (hown.cells (g := g) rfl) ad m c news hl hnews (by omega) h63 hb
   have ho' := hnew ho
   refine ⟨v', w', fun ty => hr, ho'.1, ⟨hgr.os, hgr.tape, hgr.output, hgr.size, fun k hk _ => hgr.block k hk (by simp)⟩, .inr ho'.2, ?_, hstay hgr⟩
   exact ⟨hown.1, .inr ⟨g, cap, cur, rfl, Nat.zero_le _, (hgr.block g (Array.getElem?_eq_some_iff.1 hg).1 (by simp)).trans hg, hnc, hcm, hcs, htk⟩⟩
structure AppS (W : World) (l : Value) (e : TypeId) (size n k : Nat) (m : Int) (g cap : Nat) (w' : World) : Prop where
 le : k <= cap
 mx : cap <= maxLen
 own : w'.ownsRow 0 e size (.slice (some ⟨g, 0, none⟩) k cap) k (List.replicate (k * size) (.int .i64 m))
 keep : Keep (fun b => l.ownBlock = some b) W w'
 new : l.ownBlock = some g \/ W.heap.size <= g
 row : w'.ownsRow 0 e size l n (List.replicate (n * size) (.int .i64 m))
 stay : ∀ b j, W.cell? ⟨b, j, none⟩ = some (.int .i64 m) -> w'.cell? ⟨b, j, none⟩ = some (.int .i64 m)
theorem qfi {t e : TypeId} {size bytes : Nat} (ht : Tryz.prog.underlying t = some (.slice e)) (hi : qdf e size bytes) (hsz : 0 < size) (W : World) (sl : Value) (n : Nat) (M : Int) (hown : W.ownsRow 0 e size sl n (List.replicate (n * size) (.int .i64 M)))
  (nb m c : Nat) (hm : 0 < m) {t' : TypeId} (hnb : Blk W nb t' (List.replicate (m * size) (.int .i64 M)).toArray) (h63 : n + m <= maxLen) (hb : (n + m) * bytes <= 140737488355328) :
  ∃ v' w', (∀ ty, (Builtin.append_ #[t, t] ty #[sl, .slice (some ⟨nb, 0, none⟩) m c]).run Tryz.prog W = .ok v' w') /\ ∃ g cap, v' = .slice (some ⟨g, 0, none⟩) (n + m) cap /\ AppS W sl e size n (n + m) M g cap w' := by
 obtain ⟨i0, z, h2, h3, h4, h5, h6⟩ := hi
 obtain ⟨v', w', hr, ho, hgr, hor, hrow, hst⟩ := qmm (P := Tryz.prog) W t e i0 z size bytes ht h2 h3 h4 h5 h6 hsz sl n _ hown ⟨nb, 0, none⟩ m c (by omega) (List.replicate (m * size) (.int .i64 M)) (by simp)
  (fun j u hu => by rw [Addr.add_lit, Nat.zero_add, hnb.cell, List.getElem?_toArray]; exact hu) (fun u hu => by rw [List.eq_of_mem_replicate hu]; rfl) h63 hb (.int .i64 M) (fun u hu => List.eq_of_mem_replicate hu)
 obtain ⟨g', cap', rfl, hle, hmx⟩ := qat ho (by omega)
 rw [List.replicate_append_replicate, <- Nat.add_mul] at ho
 refine ⟨_, w', hr, g', cap', rfl, hle, hmx, ho, (Keep.refl _ _).grown hgr (fun k hk => hk), ?_, hrow, hst⟩
 rcases hor with e | ⟨g2, e, h2⟩
 ·left; rw [<- e]; rfl
 ·simp [Value.ownBlock] at e; subst e; exact .inr h2
def qbs (e : Ent) : List Value := [.string (sb (joinB e.key)), .bool e.leaf, .int .i64 e.n0, .int .i64 e.n1, .int .i64 e.b0, .int .i64 e.b1]
def qdi (L : List Ent) : List Value := L.flatMap qbs
theorem qf3 : ∀ (L : List Ent) (i j : Nat) (e : Ent), L[i]? = some e -> j < 6 -> (qdi L)[i * 6 + j]? = (qbs e)[j]?
 | [], i, j, e, h, _ => by simp at h
 | a :: l, 0, j, e, h, hj => by
  simp at h; subst h
  simp only [qdi, List.flatMap_cons, Nat.zero_mul, Nat.zero_add]
  rw [List.getElem?_append_left (by simp [qbs]; omega)]
 | a :: l, i + 1, j, e, h, hj => by
  have ih := qf3 l i j e (by simpa using h) hj
  simp only [qdi, List.flatMap_cons] at ih ⊢
  rw [List.getElem?_append_right (by simp [qbs]; omega)]
  rw [show (i + 1) * 6 + j - (qbs a).length = i * 6 + j by simp [qbs]; omega]
  exact ih
structure qc9 (W : World) (br g cap : Nat) (L : List Ent) (v1 v2 v3 : Value) : Prop where
 at_ : Blk W br 167 #[.slice (some ⟨g, 0, none⟩) L.length cap, v1, v2, v3]
 row : W.ownsRow 0 163 6 (.slice (some ⟨g, 0, none⟩) L.length cap) L.length (qdi L)
theorem qc9.below {W W' : World} {br g cap : Nat} {L : List Ent} {v1 v2 v3 : Value} (h : qc9 W br g cap L v1 v2 v3) (hb : Below W.heap.size W W') : qc9 W' br g cap L v1 v2 v3 :=
 ⟨h.at_.below hb h.at_.lt, h.row.kept (row := none) ⟨hb.os, hb.tape, hb.output, hb.size, fun k hk _ => hb.block k hk⟩ (.inr (by simp [Value.ownBlock]))⟩
theorem qc9.keep {T : Nat -> Prop} {W W' : World} {br g cap : Nat} {L : List Ent} {v1 v2 v3 : Value} (h : qc9 W br g cap L v1 v2 v3) (hk : Keep T W W') (h1 : ¬ T br) (h2 : ¬ T g) : qc9 W' br g cap L v1 v2 v3 := by
 refine ⟨h.at_.keep hk h1, ?_⟩
 obtain ⟨hl, hr⟩ := h.row
 refine ⟨hl, ?_⟩
 rcases hr with hr | ⟨g', cap', cur, hv, hbg, hg, rest⟩
 ·exact .inl hr
 ·have : g' = g := by injection hv with e _ _; injection e with e; injection e with e; exact e.symm
  subst this
  exact .inr ⟨g', cap', cur, hv, hbg, (hk.block g' (Array.getElem?_eq_some_iff.1 hg).1 h2).trans hg, rest⟩
theorem qc9.ent {W : World} {br g cap : Nat} {L : List Ent} {v1 v2 v3 : Value} (h : qc9 W br g cap L v1 v2 v3) {i : Nat} {e : Ent} (hi : L[i]? = some e) {j : Nat} {v : Value} (hj : (qbs e)[j]? = some v) : W.cell? ⟨g, i * 6 + j, none⟩ = some v := by
 have hj6 : j < 6 := by have := (List.getElem?_eq_some_iff.1 hj).1; simpa [qbs] using this
 have := h.row.cells (g := g) rfl (i * 6 + j) v (by rw [qf3 L i j e hi hj6]; exact hj)
 rwa [Addr.add_lit, Nat.zero_add] at this
theorem qc9.qjv {W : World} {br g cap : Nat} {L : List Ent} {v1 v2 v3 : Value} (h : qc9 W br g cap L v1 v2 v3) : L.length <= cap /\ cap <= maxLen := by
 obtain ⟨hl, hr⟩ := h.row
 rcases hr with ⟨hv, _⟩ | ⟨g', cap', cur, hv, hbg, hg, h1, h2, _⟩
 ·cases hv
 ·injection hv with _ _ e; subst e; exact ⟨h1, h2⟩
def qwb (L : List Ent) (s : Bs) (e : Ending) : Prop :=
 (∃ (i : Nat) (x : Ent), e = .returned (.int .i64 i) /\ L[i]? = some x /\ joinB x.key = s) \/ ((∀ x ∈ L, joinB x.key ≠ s) /\ e = .returned (.int .i64 (-1)))
set_option maxRecDepth 100000 in
set_option maxHeartbeats 1000000 in
theorem qwn {w : World} {br g cap : Nat} {L : List Ent} {v1 v2 v3 : Value} (h : qc9 w br g cap L v1 v2 v3) (hL20 : L.length <= 1000) (s : ByteArray) :
  Calls Tryz.prog 114 #[.pointer (some ⟨br, 0, none⟩), .string s] w fun e w' => qwb L (bl s) e /\ w' = w := by
 have hc := h.at_.cell 0
 simp only [List.getElem?_toArray, List.getElem?_cons_zero] at hc
 obtain ⟨n, hn⟩ : ∃ n, n = L.length := ⟨_, rfl⟩
 rw [<- hn] at hc hL20
 have HN : Hid (n = L.length) := hn
 clear hn
 go_enter Tryz.func114, Tryz.ntmps114
 go_wp2
 go_loop [5] (fun i => ∃ k : Nat, k <= n /\ i = .int .i64 k /\ ∀ j x, j < k -> L[j]? = some x -> joinB x.key ≠ bl s) (fun i => n - (intOf i).toNat)
 case atStart => exact ⟨0, Nat.zero_le _, rfl, fun j x hj => by omega⟩
 case round =>
  obtain ⟨k, hk, rfl, hno⟩ := hrel
  have HNO : Hid (∀ j x, j < k -> L[j]? = some x -> joinB x.key ≠ bl s) := hno
  clear hno
  by_cases hlt : k < n
  ·obtain ⟨x, hx⟩ : ∃ x, L[k]? = some x := ⟨_, List.getElem?_eq_getElem (by rw [<- HN.out]; exact hlt)⟩
   have HX : Hid (L[k]? = some x) := hx
   have hp := h.ent hx (j := 0) (v := .string (sb (joinB x.key))) rfl
   simp only [Nat.add_zero] at hp
   clear hx
   have hbeq : ((sb (joinB x.key)).toList == s.toList) = decide (joinB x.key = bl s) := by rw [qmj, qbi]
   by_cases he : joinB x.key = bl s
   ·have hb : ((sb (joinB x.key)).toList == s.toList) = true := by rw [hbeq]; simp [he]
    have HE : Hid (joinB x.key = bl s) := he
    clear he hbeq
    go_wp2
    go_ret
    exact ⟨.inl ⟨k, x, rfl, HX.out, HE.out⟩, rfl⟩
   ·have hb : ((sb (joinB x.key)).toList == s.toList) = false := by rw [hbeq]; simp [he]
    clear hbeq
    go_wp2
    go_round
    case rel =>
     refine ⟨k + 1, by omega, by go_num, fun j y hj hy => ?_⟩
     rcases Nat.lt_or_ge j k with h1 | h1
     ·exact HNO.out j y h1 hy
     ·obtain rfl : j = k := by omega
      rw [HX.out] at hy; cases hy; exact he
    case measure => simp [intOf]; omega
  ·go_wp2
   go_ret
   refine ⟨.inr ⟨fun x hx => ?_, rfl⟩, rfl⟩
   obtain ⟨j, hj⟩ := List.getElem?_of_mem hx
   exact HNO.out j x (by have := (List.getElem?_eq_some_iff.1 hj).1; have := HN.out; omega) hj
theorem qty (a b c e : Int) (w : World) : (Op.equalIn 10000 35 (.agg #[.int .i64 a, .int .i64 b]) (.agg #[.int .i64 c, .int .i64 e])).run Tryz.prog w = .ok (a == c && b == e) w := by
 rw [show (10000 : Nat) = 9998 + 2 from rfl, eq35]
theorem qw0 (d : Nat) (a b c e : Int) (w : World) : (Op.equalIn (d + 2) 60 (.agg #[.int .i64 a, .int .i64 b]) (.agg #[.int .i64 c, .int .i64 e])).run Tryz.prog w = .ok (a == c && b == e) w := by
 have u3 := Tryz.underlying3
 have u59 := Tryz.underlying60
 have z3 := Tryz.sizeOf3
 have a3 := Tryz.isAgg3
 unfold Op.equalIn
 simp only [Sem.run_bind, run_underlying u59, Result.andThen_ok]
 simp [go_sem, z3, a3, List.range', Std.Legacy.Range.forIn_eq_forIn_range', part]
 by_cases h : a = c <;> by_cases k : b = e <;> simp [h, k]
theorem qol (a b c e : Int) (w : World) : (Op.equalIn 10000 60 (.agg #[.int .i64 a, .int .i64 b]) (.agg #[.int .i64 c, .int .i64 e])).run Tryz.prog w = .ok (a == c && b == e) w := by
 rw [show (10000 : Nat) = 9998 + 2 from rfl, qw0]
def qry (W : World) (ao : Option Addr) (l : List (Int × Int)) : Prop := ∀ (i : Nat) e, l[i]? = some e -> ∃ g, ao = some ⟨g, 0, none⟩ /\ g < W.heap.size /\ W.cell? ⟨g, i * 2, none⟩ = some (.int .i64 e.1) /\ W.cell? ⟨g, i * 2 + 1, none⟩ = some (.int .i64 e.2)
def qlf (W : World) (ao : Option Addr) (l : List Int) : Prop := ∀ (i : Nat) e, l[i]? = some e -> ∃ g, ao = some ⟨g, 0, none⟩ /\ g < W.heap.size /\ W.cell? ⟨g, i, none⟩ = some (.int .i64 e)
set_option maxRecDepth 100000 in
set_option maxHeartbeats 1000000 in
theorem qit {w : World} {aA aB : Option Addr} {cA cB n : Nat} {l : List (Int × Int)} (hn : n = l.length) (hl : n <= 1000) (h1 : n <= cA /\ cA <= maxLen) (h2 : n <= cB /\ cB <= maxLen) (hA : qry w aA l) (hB : qry w aB l) :
  Calls Tryz.prog 110 #[.slice aA n cA, .slice aB n cB] w fun e w' => e = .returned (.bool true) /\ Below w.heap.size w w' := by
 have HN : Hid (n = l.length) := hn
 have HA : Hid (qry w aA l) := hA
 have HB : Hid (qry w aB l) := hB
 clear hn hA hB
 have hq := qol
 go_enter Tryz.func110, Tryz.ntmps110
 go_wp2
 go_loopw [5] (fun i wr => ∃ k : Nat, k <= n /\ i = .int .i64 k /\ Below w.heap.size w wr) (fun i _ => n - (intOf i).toNat)
 case atStart => exact ⟨0, Nat.zero_le _, rfl, by exact bel2⟩
 case round =>
  obtain ⟨k, hk, rfl, hbel⟩ := hrel
  by_cases hlt : k < n
  ·obtain ⟨e, he⟩ : ∃ e, l[k]? = some e := ⟨_, List.getElem?_eq_getElem (by rw [<- HN.out]; exact hlt)⟩
   obtain ⟨gA, rfl, lA, p0, p1⟩ := HA.out k e he
   obtain ⟨gB, rfl, lB, q0, q1⟩ := HB.out k e he
   have p0' := (hbel.cell (p := ⟨gA, k * 2, none⟩) lA).trans p0
   have p1' := (hbel.cell (p := ⟨gA, k * 2 + 1, none⟩) lA).trans p1
   have q0' := (hbel.cell (p := ⟨gB, k * 2, none⟩) lB).trans q0
   have q1' := (hbel.cell (p := ⟨gB, k * 2 + 1, none⟩) lB).trans q1
   clear he p0 p1 q0 q1
   have hki : (k : Int) < n := by omega
   have hki0 : (0 : Int) <= k := by omega
   go_wp2_with fail
   go_quiet (fail)
   go_wp2_with fail
   exact ⟨⟨k + 1, by omega, by go_num, below_drewN hbel _⟩, by simp [intOf]; omega⟩
  ·go_wp2
   go_ret
   exact ⟨rfl, hbel⟩
set_option maxRecDepth 100000 in
set_option maxHeartbeats 2000000 in
theorem qkp {w : World} {aA aB : Option Addr} {cA cB n : Nat} {l : List Int} (hn : n = l.length) (hl : n <= 1000) (h1 : n <= cA /\ cA <= maxLen) (h2 : n <= cB /\ cB <= maxLen) (hA : qlf w aA l) (hB : qlf w aB l) (p : ByteArray) (lf : Bool) (a b c d u v : Int) :
  Calls Tryz.prog 125 #[.agg #[.string p, .bool lf, .int .i64 a, .int .i64 b, .int .i64 c, .int .i64 d, .int .i64 u, .int .i64 v, .slice aA n cA], .agg #[.string p, .bool lf, .int .i64 a, .int .i64 b, .int .i64 c, .int .i64 d, .int .i64 u, .int .i64 v, .slice aB n cB]] w
   fun e w' => e = .returned (.bool true) /\ Below w.heap.size w w' := by
 have HN : Hid (n = l.length) := hn
 have HA : Hid (qlf w aA l) := hA
 have HB : Hid (qlf w aB l) := hB
 clear hn hA hB
 have hq := qty
 have b2 : Blk ((w.alloc (.cells #[.string p, .bool lf, .int .i64 a, .int .i64 b, .int .i64 c, .int .i64 d, .int .i64 u, .int .i64 v, .slice aA n cA] 37)).alloc (.cells #[.string p, .bool lf, .int .i64 a, .int .i64 b, .int .i64 c, .int .i64 d, .int .i64 u, .int .i64 v, .slice aB n cB] 37)) w.heap.size 37 #[.string p, .bool lf, .int .i64 a, .int .i64 b, .int .i64 c, .int .i64 d, .int .i64 u, .int .i64 v, .slice aA n cA] := by exact blk2
 have b3 : Blk ((w.alloc (.cells #[.string p, .bool lf, .int .i64 a, .int .i64 b, .int .i64 c, .int .i64 d, .int .i64 u, .int .i64 v, .slice aA n cA] 37)).alloc (.cells #[.string p, .bool lf, .int .i64 a, .int .i64 b, .int .i64 c, .int .i64 d, .int .i64 u, .int .i64 v, .slice aB n cB] 37)) (w.heap.size + 1) 37 #[.string p, .bool lf, .int .i64 a, .int .i64 b, .int .i64 c, .int .i64 d, .int .i64 u, .int .i64 v, .slice aB n cB] := Blk.new' (by simp)
 have hB0 : Below w.heap.size w ((w.alloc (.cells #[.string p, .bool lf, .int .i64 a, .int .i64 b, .int .i64 c, .int .i64 d, .int .i64 u, .int .i64 v, .slice aA n cA] 37)).alloc (.cells #[.string p, .bool lf, .int .i64 a, .int .i64 b, .int .i64 c, .int .i64 d, .int .i64 u, .int .i64 v, .slice aB n cB] 37)) := by exact bel2
 go_enter Tryz.func125, Tryz.ntmps125
 go_wp2_with fail
 generalize ((w.alloc (.cells #[.string p, .bool lf, .int .i64 a, .int .i64 b, .int .i64 c, .int .i64 d, .int .i64 u, .int .i64 v, .slice aA n cA] 37)).alloc (.cells #[.string p, .bool lf, .int .i64 a, .int .i64 b, .int .i64 c, .int .i64 d, .int .i64 u, .int .i64 v, .slice aB n cB] 37)) = W0 at b2 b3 hB0 ⊢
 go_loopw [5] (fun i wr => ∃ k : Nat, k <= n /\ i = .int .i64 k /\ Below W0.heap.size W0 wr) (fun i _ => n - (intOf i).toNat)
 case atStart => exact ⟨0, Nat.zero_le _, rfl, Below.refl _ _⟩
 case round =>
  obtain ⟨k, hk, rfl, hbel0⟩ := hrel
  have hbel := hB0.trans (hbel0.mono hB0.size)
  have c2 := b2.below hbel0 b2.lt
  have c3 := b3.below hbel0 b3.lt
  have z2 := c2.cell 8
  have z3 := c3.cell 8
  have m2 := c2.lt
  have m3 := c3.lt
  simp only [List.getElem?_toArray, List.getElem?_cons_zero, List.getElem?_cons_succ] at z2 z3
  by_cases hlt : k < n
  ·obtain ⟨e, he⟩ : ∃ e, l[k]? = some e := ⟨_, List.getElem?_eq_getElem (by rw [<- HN.out]; exact hlt)⟩
   obtain ⟨gA, hgA, lA, p0⟩ := HA.out k e he
   obtain ⟨gB, hgB, lB, q0⟩ := HB.out k e he
   rw [hgA] at z2
   rw [hgB] at z3
   have p0' := (hbel.cell (p := ⟨gA, k, none⟩) lA).trans p0
   have q0' := (hbel.cell (p := ⟨gB, k, none⟩) lB).trans q0
   clear he p0 q0
   have hki : (k : Int) < n := by omega
   have hki0 : (0 : Int) <= k := by omega
   go_wp2_with fail
   go_quiet (fail)
   go_wp2_with fail
   exact ⟨⟨k + 1, by omega, by go_num, below_drewN hbel0 _⟩, by simp [intOf]; omega⟩
  ·go_wp2
   go_ret
   exact ⟨rfl, hbel⟩
end Go.Proofs.YtphclnolomgjoaaGreatDoor
