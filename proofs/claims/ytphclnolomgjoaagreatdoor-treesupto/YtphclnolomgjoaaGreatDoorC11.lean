import Derived.Test.YtphclnolomgjoaaGreatDoorC06
import Derived.Test.YtphclnolomgjoaaGreatDoorC10
import Derived.BigRegion
import Derived.BigQuiet
import Derived.Deep.RegionHeld3
import Derived.Deep.CutRange
set_option linter.unusedVariables false
set_option linter.unusedSimpArgs false
namespace Go.Proofs.YtphclnolomgjoaaGreatDoor
open Go.RowKit
def sh0 (L : List Ent) (Ws : List Wk) (x : Ent) (d : Int) : Bool := decide (ws0 (qae Ws (joinB x.key)) + d > es0 (qaf L (joinB x.key)) + x.b0)
def sh1 (L : List Ent) (Ws : List Wk) (x : Ent) (d : Int) : Bool := decide (ws1 (qae Ws (joinB x.key)) + d > es1 (qaf L (joinB x.key)) + x.b1)
theorem qeo {L : List Ent} (E : Ents L) (s : Bs) : (0 <= es0 (qaf L s) /\ es0 (qaf L s) <= 20000) /\ (0 <= es1 (qaf L s) /\ es1 (qaf L s) <= 20000) := by
 have hsub : ∀ e ∈ qaf L s, e ∈ L := fun e he => (List.mem_filter.1 he).1
 have hlen : (qaf L s).length <= 20 := Nat.le_trans (List.length_filter_le _ _) E.len
 have s0 := qus (qaf L s) (fun e he => (E.num e (hsub e he)).1)
 have s1 := quq (qaf L s) (fun e he => (E.num e (hsub e he)).2)
 omega
set_option maxRecDepth 100000 in
set_option maxHeartbeats 2000000 in
theorem qlt {w : World} {br g cap : Nat} {L : List Ent} {ao : Option Addr} {cW : Nat} {Ws : List Wk} {cnt st : Int} (h : GRef w br g cap L ao cW Ws cnt st) (E : Ents L) (EW : Wks Ws) {i : Nat} {x : Ent} (hi : L[i]? = some x) (hxb : (0 <= x.b0 /\ x.b0 <= 1000) /\ (0 <= x.b1 /\ x.b1 <= 1000)) (a b : Int) (ha : 0 <= a /\ a <= 1000) (hb : 0 <= b /\ b <= 1000) :
  Calls Tryz.prog 202 #[.pointer (some ⟨br, 0, none⟩), .int .i64 i, .agg #[.int .i64 a, .int .i64 b]] w fun e w' => e = .returned (.agg #[.bool (sh0 L Ws x a), .bool (sh1 L Ws x b)]) /\ Below w.heap.size w w' := by
 have hxm := List.mem_of_getElem? hi
 have hil := (List.getElem?_eq_some_iff.1 hi).1
 have hL20 := E.len
 have hbr := h.ref.at_.lt
 have hgl := (h.ref.row.lt g rfl).2
 have hcap := h.ref.qjv
 have hnom := fun W (hW : Below w.heap.size w W) => qcr (h.ref.below hW) E (sb (joinB x.key)) (E.small hxm)
 have husg := fun W (hW : Below w.heap.size w W) => qe7 (h.below hW) EW (sb (joinB x.key)) (E.small hxm)
 have bd1 := qeo E (joinB x.key)
 have bd2 := qke EW (joinB x.key)
 have c0 := h.ref.at_.cell 0
 have q0 := h.ref.ent hi (j := 0) (v := .string (sb (joinB x.key))) rfl
 have q4 := h.ref.ent hi (j := 4) (v := .int .i64 x.b0) rfl
 have q5 := h.ref.ent hi (j := 5) (v := .int .i64 x.b1) rfl
 simp only [List.getElem?_toArray, List.getElem?_cons_zero, List.getElem?_cons_succ, Nat.add_zero] at c0 q0
 rw [qbi] at hnom husg
 unfold sh0 sh1
 obtain ⟨n, hn⟩ : ∃ n, n = L.length := ⟨_, rfl⟩
 rw [<- hn] at c0 hil hL20 hcap
 generalize es0 (qaf L (joinB x.key)) = n0 at *
 generalize es1 (qaf L (joinB x.key)) = n1 at *
 generalize ws0 (qae Ws (joinB x.key)) = u0 at *
 generalize ws1 (qae Ws (joinB x.key)) = u1 at *
 generalize x.b0 = y0 at *
 generalize x.b1 = y1 at *
 generalize sb (joinB x.key) = pth at *
 have HC : Hid (∀ W, Below w.heap.size w W -> W.cell? ⟨br, 0, none⟩ = some (.slice (some ⟨g, 0, none⟩) n cap) /\ W.cell? ⟨g, i * 6, none⟩ = some (.string pth) /\ W.cell? ⟨g, i * 6 + 4, none⟩ = some (.int .i64 y0) /\ W.cell? ⟨g, i * 6 + 5, none⟩ = some (.int .i64 y1)) := by
  suffices hh : (∀ W, Below w.heap.size w W -> W.cell? ⟨br, 0, none⟩ = some (.slice (some ⟨g, 0, none⟩) n cap) /\ W.cell? ⟨g, i * 6, none⟩ = some (.string pth) /\ W.cell? ⟨g, i * 6 + 4, none⟩ = some (.int .i64 y0) /\ W.cell? ⟨g, i * 6 + 5, none⟩ = some (.int .i64 y1)) from hh
  exact fun W hW => ⟨(hW.cell (p := ⟨br, 0, none⟩) hbr).trans c0, (hW.cell (p := ⟨g, i * 6, none⟩) hgl).trans q0, (hW.cell (p := ⟨g, i * 6 + 4, none⟩) hgl).trans q4, (hW.cell (p := ⟨g, i * 6 + 5, none⟩) hgl).trans q5⟩
 clear hn h E EW hxm hi q4 q5
 go_enter Tryz.func202, Tryz.ntmps202
 go_wp2_with fail
 refine (hnom _ (by exact bel2)).mono ?_
 rintro e w1 ⟨rfl, hb1⟩
 have hB1 : Below w.heap.size w w1 := qac (by exact bel2) hb1
 have b51 : Blk w1 w.heap.size 35 #[.int .i64 a, .int .i64 b] := Blk.below (by exact blk2) hb1 (by first | omega | (simp; done) | (simp; omega))
 have b61 : Blk w1 (w.heap.size + 1) 242 #[.bool false, .bool false] := Blk.below (Blk.new' (by simp)) hb1 (by first | omega | (simp; done) | (simp; omega))
 clear hb1
 have l51 := b51.lt
 have l61 := b61.lt
 have hz1 := hB1.size
 obtain ⟨c1, q10, q14, q15⟩ := HC.out w1 hB1
 clear q0 c0 q14 q15 hnom
 have nn1 : ¬ (br = w1.heap.size) := by omega
 have nn2 : ¬ (g = w1.heap.size) := by omega
 have mm1 : br < w1.heap.size := by omega
 have mm2 : g < w1.heap.size := by omega
 go_wp2_with fail
 refine (husg _ (by exact bel2)).mono ?_
 rintro e w2 ⟨rfl, hb2⟩
 have hB2 : Below w.heap.size w w2 := qac (by exact bel2) hb2
 have b52 : Blk w2 w.heap.size 35 #[.int .i64 a, .int .i64 b] := Blk.below (by exact blk2) hb2 (by first | omega | (simp; done) | (simp; omega))
 have b62 : Blk w2 (w.heap.size + 1) 242 #[.bool false, .bool false] := Blk.below (by exact blk2) hb2 (by first | omega | (simp; done) | (simp; omega))
 have b72 : Blk w2 w1.heap.size 35 #[.int .i64 n0, .int .i64 n1] := Blk.below (Blk.new' rfl) hb2 (by first | omega | (simp; done) | (simp; omega))
 clear hb2 husg b51 b61 c1 q10
 have l52 := b52.lt
 have l62 := b62.lt
 have l72 := b72.lt
 have hz2 := hB2.size
 go_wp2_with fail
 have b53 : Blk ((w2.alloc (.cells #[.int .i64 u0, .int .i64 u1] 35)).alloc (.cells #[.bool false, .bool false] 242)) w.heap.size 35 #[.int .i64 a, .int .i64 b] := by exact blk2
 have b63 : Blk ((w2.alloc (.cells #[.int .i64 u0, .int .i64 u1] 35)).alloc (.cells #[.bool false, .bool false] 242)) (w.heap.size + 1) 242 #[.bool false, .bool false] := by exact blk2
 have b73 : Blk ((w2.alloc (.cells #[.int .i64 u0, .int .i64 u1] 35)).alloc (.cells #[.bool false, .bool false] 242)) w1.heap.size 35 #[.int .i64 n0, .int .i64 n1] := by exact blk2
 have b83 : Blk ((w2.alloc (.cells #[.int .i64 u0, .int .i64 u1] 35)).alloc (.cells #[.bool false, .bool false] 242)) w2.heap.size 35 #[.int .i64 u0, .int .i64 u1] := by exact blk2
 have b93 : Blk ((w2.alloc (.cells #[.int .i64 u0, .int .i64 u1] 35)).alloc (.cells #[.bool false, .bool false] 242)) (w2.heap.size + 1) 242 #[.bool false, .bool false] := Blk.new' (by simp)
 have hB3 : Below w.heap.size w ((w2.alloc (.cells #[.int .i64 u0, .int .i64 u1] 35)).alloc (.cells #[.bool false, .bool false] 242)) := by exact bel2
 generalize ((w2.alloc (.cells #[.int .i64 u0, .int .i64 u1] 35)).alloc (.cells #[.bool false, .bool false] 242)) = W3 at b53 b63 b73 b83 b93 hB3 ⊢
 obtain ⟨c3, _, q34, q35⟩ := HC.out W3 hB3
 have x50 := b53.cell 0
 have x51 := b53.cell 1
 have x60 := b63.cell 0
 have x61 := b63.cell 1
 have y60 := b63.frozen 0
 have y61 := b63.frozen 1
 have x70 := b73.cell 0
 have x71 := b73.cell 1
 have x80 := b83.cell 0
 have x81 := b83.cell 1
 have x90 := b93.cell 0
 have x91 := b93.cell 1
 have y90 := b93.frozen 0
 have y91 := b93.frozen 1
 simp only [List.getElem?_toArray, List.getElem?_cons_zero, List.getElem?_cons_succ] at x50 x51 x60 x61 x70 x71 x80 x81 x90 x91
 have e1 : ¬ (br = w2.heap.size + 1) := by omega
 have e2 : ¬ (g = w2.heap.size + 1) := by omega
 have e3 : ¬ (w.heap.size = w2.heap.size + 1) := by omega
 have e4 : ¬ (w.heap.size + 1 = w2.heap.size + 1) := by omega
 have e5 : ¬ (w1.heap.size = w2.heap.size + 1) := by omega
 have e6 : ¬ (w2.heap.size = w2.heap.size + 1) := by omega
 refine wp_loop_rounds 3 ?_
 rw [rounds_succ]
 go_wp2_with fail
 go_region
 go_wp2_with fail
 rw [rounds_succ]
 go_wp2_with fail
 go_region
 go_wp2_with fail
 rw [rounds_succ]
 go_wp2_with fail
 have b64 := (((((b63.other ⟨w2.heap.size + 1, 0, none⟩ (.bool (decide (n0 + y0 < u0 + a))) (by simp; omega)).other ⟨w2.heap.size + 1, 1, none⟩ (.bool (decide (n1 + y1 < u1 + b))) (by simp; omega)).set 0 (.bool (decide (n0 + y0 < u0 + a)))).set 1 (.bool (decide (n1 + y1 < u1 + b)))).drew).drew
 have hc' := b64.cell
 refine bodyPost_ret (v := .agg #[.bool (decide (n0 + y0 < u0 + a)), .bool (decide (n1 + y1 < u1 + b))]) ?_ rfl ⟨rfl, by exact bel2⟩
 simp [results, Tryz.results202, go_sem, hc']
def ownW (L : List Ent) (Ws : List Wk) (x : Wk) : Bool := decide (ws0 (qae Ws (joinB x.key)) + x.d0 <= es0 (qaf L (joinB x.key))) && decide (ws1 (qae Ws (joinB x.key)) + x.d1 <= es1 (qaf L (joinB x.key)))
structure WkOK (x : Wk) : Prop where
 ok : qbn x.key = true /\ x.key.length <= 4
 n0 : 0 <= x.d0 /\ x.d0 <= 1000
 n1 : 0 <= x.d1 /\ x.d1 <= 1000
theorem WkOK.small {x : Wk} (h : WkOK x) : (sb (joinB x.key)).size <= 2000000 := by
 rw [qd3]; have := qgm _ h.ok.1; have := h.ok.2; omega
theorem Wks.at_ {Ws : List Wk} (h : Wks Ws) {x : Wk} (hx : x ∈ Ws) : WkOK x := ⟨h.ok x hx, (h.num x hx).1, (h.num x hx).2⟩
set_option maxRecDepth 100000 in
set_option maxHeartbeats 1000000 in
theorem qvg {w : World} {br g cap : Nat} {L : List Ent} {ao : Option Addr} {cW : Nat} {Ws : List Wk} {cnt st : Int} (h : GRef w br g cap L ao cW Ws cnt st) (E : Ents L) (EW : Wks Ws) (x : Wk) (hx : WkOK x) :
  Calls Tryz.prog 199 #[.pointer (some ⟨br, 0, none⟩), .agg #[.int .i64 x.num, .string (sb (joinB x.key)), .int .i64 x.d0, .int .i64 x.d1, .int .i64 x.st]] w fun e w' => e = .returned (.bool (ownW L Ws x)) /\ Below w.heap.size w w' := by
 have hbr := h.ref.at_.lt
 have hnom := fun W (hW : Below w.heap.size w W) => qcr (h.ref.below hW) E (sb (joinB x.key)) hx.small
 have husg := fun W (hW : Below w.heap.size w W) => qe7 (h.below hW) EW (sb (joinB x.key)) hx.small
 have bd1 := qeo E (joinB x.key)
 have bd2 := qke EW (joinB x.key)
 have bx0 := hx.n0
 have bx1 := hx.n1
 rw [qbi] at hnom husg
 unfold ownW
 generalize es0 (qaf L (joinB x.key)) = n0 at *
 generalize es1 (qaf L (joinB x.key)) = n1 at *
 generalize ws0 (qae Ws (joinB x.key)) = u0 at *
 generalize ws1 (qae Ws (joinB x.key)) = u1 at *
 generalize sb (joinB x.key) = pth at *
 generalize x.d0 = a at *
 generalize x.d1 = b at *
 generalize x.num = num at *
 generalize x.st = sx at *
 clear hx h E EW
 go_enter Tryz.func199, Tryz.ntmps199
 go_wp2_with fail
 refine (hnom _ (by exact bel2)).mono ?_
 rintro e w1 ⟨rfl, hb1⟩
 have hB1 : Below w.heap.size w w1 := qac (by exact bel2) hb1
 have b31 : Blk w1 w.heap.size 178 #[.int .i64 num, .string pth, .int .i64 a, .int .i64 b, .int .i64 sx] := Blk.below (by exact blk2) hb1 (by first | omega | (simp; done) | (simp; omega))
 clear hb1 hnom
 have l31 := b31.lt
 have hz1 := hB1.size
 have p1 := b31.cell 1
 simp only [List.getElem?_toArray, List.getElem?_cons_zero, List.getElem?_cons_succ] at p1
 have e1 : ¬ (w.heap.size = w1.heap.size) := by omega
 go_wp2_with fail
 refine (husg _ (by exact bel2)).mono ?_
 rintro e w2 ⟨rfl, hb2⟩
 have hB2 : Below w.heap.size w w2 := qac (by exact bel2) hb2
 have b32 : Blk w2 w.heap.size 178 #[.int .i64 num, .string pth, .int .i64 a, .int .i64 b, .int .i64 sx] := Blk.below (by exact blk2) hb2 (by first | omega | (simp; done) | (simp; omega))
 have b52 : Blk w2 w1.heap.size 35 #[.int .i64 n0, .int .i64 n1] := Blk.below (Blk.new' rfl) hb2 (by first | omega | (simp; done) | (simp; omega))
 clear hb2 husg b31 p1
 have l32 := b32.lt
 have l52 := b52.lt
 have hz2 := hB2.size
 have x2 := b32.cell 2
 have x3 := b32.cell 3
 have x50 := b52.cell 0
 have x51 := b52.cell 1
 simp only [List.getElem?_toArray, List.getElem?_cons_zero, List.getElem?_cons_succ] at x2 x3 x50 x51
 have e2 : ¬ (w.heap.size = w2.heap.size) := by omega
 have e3 : ¬ (w1.heap.size = w2.heap.size) := by omega
 by_cases t0 : u0 + a <= n0
 ·by_cases t1 : u1 + b <= n1
  ·go_wp2
   go_ret
   exact ⟨by simp [t0, t1], by exact bel2⟩
  ·go_wp2
   go_ret
   exact ⟨by simp [t0, t1], by exact bel2⟩
 ·go_wp2
  go_ret
  exact ⟨by have t0' : ¬ (u0 + a <= n0) := (by omega); simp [t0'], by exact bel2⟩
def qwe (Ws : List Wk) (n : Int) (e : Ending) : Prop :=
 (∃ (i : Nat) (x : Wk), e = .returned (.int .i64 i) /\ Ws[i]? = some x /\ x.num = n) \/ ((∀ x ∈ Ws, x.num ≠ n) /\ e = .returned (.int .i64 (-1)))
set_option maxRecDepth 100000 in
set_option maxHeartbeats 1000000 in
theorem qh6 {w : World} {br g cap : Nat} {L : List Ent} {ao : Option Addr} {cW : Nat} {Ws : List Wk} {cnt st : Int} (h : GRef w br g cap L ao cW Ws cnt st) (EW : Wks Ws) (m : Int) :
  Calls Tryz.prog 116 #[.pointer (some ⟨br, 0, none⟩), .int .i64 m] w fun e w' => qwe Ws m e /\ w' = w := by
 have hL20 := EW.len
 obtain ⟨n, hn⟩ : ∃ n, n = Ws.length := ⟨_, rfl⟩
 have hc : w.cell? ⟨br, 1, none⟩ = some (.slice ao n cW) := by have := h.ref.at_.cell 1; rw [hn]; simpa using this
 rw [<- hn] at hL20
 have HN : Hid (n = Ws.length) := hn
 clear hn
 go_enter Tryz.func116, Tryz.ntmps116
 go_wp2
 go_loop [5] (fun i => ∃ k : Nat, k <= n /\ i = .int .i64 k /\ ∀ j x, j < k -> Ws[j]? = some x -> x.num ≠ m) (fun i => n - (intOf i).toNat)
 case atStart => exact ⟨0, Nat.zero_le _, rfl, fun j x hj => by omega⟩
 case round =>
  obtain ⟨k, hk, rfl, hno⟩ := hrel
  have HNO : Hid (∀ j x, j < k -> Ws[j]? = some x -> x.num ≠ m) := hno
  clear hno
  by_cases hlt : k < n
  ·obtain ⟨x, hx⟩ : ∃ x, Ws[k]? = some x := ⟨_, List.getElem?_eq_getElem (by rw [<- HN.out]; exact hlt)⟩
   have HX : Hid (Ws[k]? = some x) := hx
   obtain ⟨b, hao, hbl, hcw1, hcw2, p0, p1, p2, p3, p4⟩ := h.wk hx
   subst hao
   clear hx p1 p2 p3 p4
   by_cases he : x.num = m
   ·have hb : (x.num == m) = true := by simp [he]
    have HE : Hid (x.num = m) := he
    clear he
    go_wp2
    go_ret
    exact ⟨.inl ⟨k, x, rfl, HX.out, HE.out⟩, rfl⟩
   ·have hb : (x.num == m) = false := by simp [he]
    go_wp2
    go_round
    case rel =>
     refine ⟨k + 1, by omega, by go_num, fun j y hj hy => ?_⟩
     rcases Nat.lt_or_ge j k with h1 | h1
     ·exact HNO.out j y h1 hy
     ·obtain rfl : j = k := by omega
      rw [HX.out] at hy; cases hy; exact he
    case measure => simp [intOf]; omega
  ·go_wp2
   go_ret
   refine ⟨.inr ⟨fun x hx => ?_, rfl⟩, rfl⟩
   obtain ⟨j, hj⟩ := List.getElem?_of_mem hx
   exact HNO.out j x (by have := (List.getElem?_eq_some_iff.1 hj).1; have := HN.out; omega) hj
def Bors (L : List Ent) : Prop := ∀ e ∈ L, (0 <= e.b0 /\ e.b0 <= 1000) /\ (0 <= e.b1 /\ e.b1 <= 1000)
def tight (L : List Ent) (Ws : List Wk) (x : Wk) (e : Ent) : Bool := inB (joinB x.key) (joinB e.key) && (sh0 L Ws e x.d0 || sh1 L Ws e x.d1)
def qbm (L : List Ent) (Ws : List Wk) (x : Wk) : Bool := L.all fun e => !tight L Ws x e
set_option maxRecDepth 100000 in
set_option maxHeartbeats 2000000 in
theorem qoj {w : World} {br g cap : Nat} {L : List Ent} {ao : Option Addr} {cW : Nat} {Ws : List Wk} {cnt st : Int} (h : GRef w br g cap L ao cW Ws cnt st) (E : Ents L) (EB : Bors L) (EW : Wks Ws) (x : Wk) (hx : WkOK x) :
  Calls Tryz.prog 159 #[.pointer (some ⟨br, 0, none⟩), .agg #[.int .i64 x.num, .string (sb (joinB x.key)), .int .i64 x.d0, .int .i64 x.d1, .int .i64 x.st]] w fun e w' => e = .returned (.bool (qbm L Ws x)) /\ Below w.heap.size w w' := by
 have hbr := h.ref.at_.lt
 have hgl := (h.ref.row.lt g rfl).2
 have hL20 := E.len
 have hcap := h.ref.qjv
 obtain ⟨n, hn⟩ : ∃ n, n = L.length := ⟨_, rfl⟩
 have hc0 : w.cell? ⟨br, 0, none⟩ = some (.slice (some ⟨g, 0, none⟩) n cap) := by have := h.ref.at_.cell 0; rw [hn]; simpa using this
 rw [<- hn] at hL20 hcap
 have HN : Hid (n = L.length) := hn
 have bx0 := hx.n0
 have bx1 := hx.n1
 clear hn
 go_enter Tryz.func159, Tryz.ntmps159
 go_wp2
 go_loopw [5] (fun i wr => ∃ k : Nat, k <= n /\ i = .int .i64 k /\ Below w.heap.size w wr /\ Blk wr w.heap.size 178 #[.int .i64 x.num, .string (sb (joinB x.key)), .int .i64 x.d0, .int .i64 x.d1, .int .i64 x.st] /\ (L.take k).all (fun e => !tight L Ws x e) = true) (fun i _ => n - (intOf i).toNat)
 case atStart => exact ⟨0, Nat.zero_le _, rfl, by exact bel2, by exact blk2, by simp⟩
 case round =>
  obtain ⟨k, hk, rfl, hbel, hb3, hall⟩ := hrel
  have hc := (hbel.cell (p := ⟨br, 0, none⟩) hbr).trans hc0
  have HALL : Hid ((L.take k).all (fun e => !tight L Ws x e) = true) := hall
  clear hall
  by_cases hlt : k < n
  ·have hlt' : k < L.length := by rw [<- HN.out]; exact hlt
   obtain ⟨y, hy⟩ : ∃ y, L[k]? = some y := ⟨_, List.getElem?_eq_getElem hlt'⟩
   have HT : Hid (L.take (k + 1) = L.take k ++ [y]) := by
    rw [List.take_succ_eq_append_getElem hlt']; rw [List.getElem?_eq_getElem hlt'] at hy; cases hy; rfl
   have hym := List.mem_of_getElem? hy
   have HM : Hid (y ∈ L) := hym
   have p0 := (h.ref.below hbel).ent hy (j := 0) (v := .string (sb (joinB y.key))) rfl
   simp only [Nat.add_zero] at p0
   have hin := fun W => qk9 (sb (joinB x.key)) (sb (joinB y.key)) W hx.small (E.small hym)
   rw [qbi, qbi] at hin
   have hsh := fun W (hW : Below w.heap.size w W) => qlt (h.below hW) E EW hy (EB y hym) x.d0 x.d1 hx.n0 hx.n1
   have HTI : Hid (tight L Ws x y = (inB (joinB x.key) (joinB y.key) && (sh0 L Ws y x.d0 || sh1 L Ws y x.d1))) := rfl
   have hall2 : Hid ((L.take (k + 1)).all (fun e => !tight L Ws x e) = !tight L Ws x y) := by
    show _ = _
    rw [HT.out, List.all_append, HALL.out]; simp
   have hno : Hid (tight L Ws x y = true -> qbm L Ws x = false) := by
    intro ht
    unfold qbm
    rw [List.all_eq_false]
    exact ⟨y, HM.out, by simp [ht]⟩
   clear hy hym HT HALL
   generalize sh0 L Ws y x.d0 = s0 at hsh HTI
   generalize sh1 L Ws y x.d1 = s1 at hsh HTI
   generalize inB (joinB x.key) (joinB y.key) = ab at hin HTI
   generalize sb (joinB y.key) = py at p0 hin
   generalize tight L Ws x y = tt at HTI hall2 hno
   have hgl' : g < wr.heap.size := Nat.lt_of_lt_of_le hgl hbel.size
   have z1 := hb3.cell 1
   have z2 := hb3.cell 2
   have z3 := hb3.cell 3
   have l3 := hb3.lt
   simp only [List.getElem?_toArray, List.getElem?_cons_zero, List.getElem?_cons_succ] at z1 z2 z3
   go_wp2_with fail
   go_quiet ((go_at_call 121; exact Calls.quiet_of_same (hin _)))
   go_wp2_with fail
   refine (hsh _ (below_drewN hbel _)).mono ?_
   rintro e w1 ⟨rfl, hb1⟩
   have hB1 : Below w.heap.size w w1 := qac (below_drewN hbel _) hb1
   have b31 : Blk w1 w.heap.size 178 #[.int .i64 x.num, .string (sb (joinB x.key)), .int .i64 x.d0, .int .i64 x.d1, .int .i64 x.st] := Blk.below (by exact blk2) hb1 l3
   have hz1 := hB1.size
   have l31 := b31.lt
   clear hb1 hsh hin hc p0 z1 z2 z3 hb3
   cases ab <;> cases s0 <;> cases s1
   all_goals go_wp2
   all_goals first
    | exact ⟨⟨k + 1, by omega, by go_num, by exact bel2, by exact blk2, by rw [hall2.out, HTI.out]; rfl⟩, by simp [intOf]; omega⟩
    | (go_ret; exact ⟨qa9 (hno.out (by rw [HTI.out]; rfl)).symm, by exact bel2⟩)
  ·go_wp2
   go_ret
   have hk' : L.take k = L := List.take_of_length_le (by have := HN.out; omega)
   have h1 := HALL.out
   rw [hk'] at h1
   exact ⟨qa9 (show true = qbm L Ws x from h1.symm), hbel⟩
def qd7 (Ws : List Wk) (i : Nat) (x : Wk) : Bool := (x.st == 0) && (Ws.take i).all fun y => decide (0 < y.st) || decide (y.key ≠ x.key)
def headAt (Ws : List Wk) (i : Nat) : Bool := match Ws[i]? with | some x => qd7 Ws i x | none => false
def qcw (Ws : List Wk) (k : Nat) : List Nat := (List.range k).filter (headAt Ws)
def qcn (Ws : List Wk) : List Nat := qcw Ws Ws.length
def nats (l : List Nat) : List Value := l.map fun (i : Nat) => Value.int .i64 i
theorem qrr {W W' : World} {B : Nat} {e : TypeId} {size n : Nat} {sl : Value} {xs : List Value} (h : W.ownsRow B e size sl n xs) (hb : Below W.heap.size W W') : W'.ownsRow B e size sl n xs := by
 obtain ⟨hl, hr⟩ := h
 refine ⟨hl, ?_⟩
 rcases hr with hr | ⟨g', cap', cur, rfl, hbg, hg, rest⟩
 ·exact .inl hr
 ·exact .inr ⟨g', cap', cur, rfl, hbg, (hb.block g' (Array.getElem?_eq_some_iff.1 hg).1).trans hg, rest⟩
theorem qlz (Ws : List Wk) (k : Nat) : qcw Ws (k + 1) = qcw Ws k ++ (if headAt Ws k then [k] else []) := by
 unfold qcw
 rw [List.range_succ, List.filter_append]
 simp [List.filter_cons]
theorem qgr (Ws : List Wk) (k : Nat) : (qcw Ws k).length <= k := by
 unfold qcw
 exact Nat.le_trans (List.length_filter_le _ _) (by simp)
theorem qvj {Ws : List Wk} (E : Wks Ws) {x y : Wk} (hx : x ∈ Ws) (hy : y ∈ Ws) : ((sb (joinB x.key)).toList == (sb (joinB y.key)).toList) = decide (x.key = y.key) := by
 rw [qmj, qbi, qbi]
 by_cases h : x.key = y.key
 ·simp [h]
 ·have : joinB x.key ≠ joinB y.key := fun e => h (qe5 (E.ok x hx).1 (E.ok y hy).1 e)
  simp [h, this]
set_option maxRecDepth 100000 in
set_option maxHeartbeats 2000000 in
theorem qlm {w : World} {br g cap : Nat} {L : List Ent} {ao : Option Addr} {cW : Nat} {Ws : List Wk} {cnt st : Int} (h : GRef w br g cap L ao cW Ws cnt st) (EW : Wks Ws) :
  Calls Tryz.prog 158 #[.pointer (some ⟨br, 0, none⟩)] w fun e w' => ∃ sl, e = .returned sl /\ w'.ownsRow w.heap.size 3 1 sl (qcn Ws).length (nats (qcn Ws)) /\ Below w.heap.size w w' := by
 have hbr := h.ref.at_.lt
 have hL20 := EW.len
 obtain ⟨n, hn⟩ : ∃ n, n = Ws.length := ⟨_, rfl⟩
 have hc0 : w.cell? ⟨br, 1, none⟩ = some (.slice ao n cW) := by have := h.ref.at_.cell 1; rw [hn]; simpa using this
 rw [<- hn] at hL20
 have HN : Hid (n = Ws.length) := hn
 clear hn
 have hwk : Hid (∀ W, Below w.heap.size w W -> ∀ (i : Nat) x, Ws[i]? = some x -> ∃ b, ao = some ⟨b, 0, none⟩ /\ b < w.heap.size /\ W.cell? ⟨b, i * 5 + 1, none⟩ = some (.string (sb (joinB x.key))) /\ W.cell? ⟨b, i * 5 + 4, none⟩ = some (.int .i64 x.st)) := by
  show ∀ W, Below w.heap.size w W -> ∀ (i : Nat) x, Ws[i]? = some x -> ∃ b, ao = some ⟨b, 0, none⟩ /\ b < w.heap.size /\ W.cell? ⟨b, i * 5 + 1, none⟩ = some (.string (sb (joinB x.key))) /\ W.cell? ⟨b, i * 5 + 4, none⟩ = some (.int .i64 x.st)
  intro W hW i x hx
  obtain ⟨b, h1, h2, h3, h4, p0, p1, p2, p3, p4⟩ := h.wk hx
  exact ⟨b, h1, h2, (hW.cell (p := ⟨b, i * 5 + 1, none⟩) h2).trans p1, (hW.cell (p := ⟨b, i * 5 + 4, none⟩) h2).trans p4⟩
 have hinf := inf3
 obtain ⟨i0, z, hi1, hi2, hi3, hi4, hi5⟩ := hinf
 go_enter Tryz.func158, Tryz.ntmps158
 go_wp2
 go_loopw [3, 4] (fun sl i wr => ∃ k : Nat, k <= n /\ i = .int .i64 k /\ Below w.heap.size w wr /\ wr.ownsRow w.heap.size 3 1 sl (qcw Ws k).length (nats (qcw Ws k))) (fun _ i _ => n - (intOf i).toNat)
 case atStart => exact ⟨0, Nat.zero_le _, rfl, Below.refl _ _, World.ownsRow_nil _ _ _ _⟩
 case round =>
  obtain ⟨k, hk, rfl, hbel, hown⟩ := hrel
  have hc := (hbel.cell (p := ⟨br, 1, none⟩) hbr).trans hc0
  by_cases hlt : k < n
  ·have hlt' : k < Ws.length := by rw [<- HN.out]; exact hlt
   obtain ⟨x, hx⟩ : ∃ x, Ws[k]? = some x := ⟨_, List.getElem?_eq_getElem hlt'⟩
   have HX : Hid (Ws[k]? = some x) := hx
   obtain ⟨b, hao, hb, p1, p4⟩ := hwk.out _ hbel k x hx
   subst hao
   have hcw : n <= cW /\ cW <= maxLen := by
    obtain ⟨_, _, _, h3, h4, _⟩ := h.wk hx
    exact ⟨by rw [HN.out]; exact h3, h4⟩
   clear hx
   go_wp2
   obtain ⟨wr0, hwr0⟩ : ∃ wr0, wr0 = wr := ⟨_, rfl⟩
   rw [<- hwr0] at hbel hown hc p1 p4 ⊢
   clear hwr0
   go_loopw [5, 6] (fun f j w2 => ∃ m : Nat, m <= k /\ j = .int .i64 m /\ f = .bool ((x.st == 0) && (Ws.take m).all fun y => decide (0 < y.st) || decide (y.key ≠ x.key)) /\ Below wr0.heap.size wr0 w2) (fun _ j _ => k - (intOf j).toNat)
   case atStart => exact ⟨0, Nat.zero_le _, rfl, by simp, Below.refl _ _⟩
   case round =>
    obtain ⟨m, hm, rfl, rfl, hbel2⟩ := hrel
    have hB := hbel.trans (hbel2.mono hbel.size)
    have hcB := (hB.cell (p := ⟨br, 1, none⟩) hbr).trans hc0
    by_cases hml : m < k
    ·have hml' : m < Ws.length := by omega
     obtain ⟨y, hy⟩ : ∃ y, Ws[m]? = some y := ⟨_, List.getElem?_eq_getElem hml'⟩
     obtain ⟨b', hb', _, q1, q4⟩ := hwk.out _ hB m y hy
     obtain ⟨b'', hb'', _, r1, r4⟩ := hwk.out _ hB k x HX.out
     injection hb' with hb'; injection hb' with hb'; subst hb'
     injection hb'' with hb''; injection hb'' with hb''; subst hb''
     have HT : Hid (Ws.take (m + 1) = Ws.take m ++ [y]) := by
      show _ = _
      rw [List.take_succ_eq_append_getElem hml']; rw [List.getElem?_eq_getElem hml'] at hy; cases hy; rfl
     have hpe := qvj EW (List.mem_of_getElem? hy) (List.mem_of_getElem? HX.out)
     have HF : Hid (((x.st == 0) && (Ws.take (m + 1)).all fun y => decide (0 < y.st) || decide (y.key ≠ x.key)) = (((x.st == 0) && (Ws.take m).all fun y => decide (0 < y.st) || decide (y.key ≠ x.key)) && (decide (0 < y.st) || decide (y.key ≠ x.key)))) := by
      show _ = _
      rw [HT.out, List.all_append]; simp [Bool.and_assoc]
     clear hy hc p1 p4 r4
     generalize ((x.st == 0) && (Ws.take m).all fun y => decide (0 < y.st) || decide (y.key ≠ x.key)) = ff at HF ⊢
     have hmi : (m : Int) < n := by omega
     have hmi0 : (0 : Int) <= m := by omega
     have hki : (k : Int) < n := by omega
     have hki0 : (0 : Int) <= k := by omega
     have hpe2 : (decide (y.key ≠ x.key)) = !decide (y.key = x.key) := by simp
     rw [hpe2] at HF
     generalize decide (y.key = x.key) = same at HF hpe
     generalize sb (joinB y.key) = py at q1 hpe
     generalize sb (joinB x.key) = px at r1 hpe
     have hfin : ∀ (f : Bool) (W : World), Below wr0.heap.size wr0 W -> f = ((x.st == 0) && (Ws.take (m + 1)).all fun y => decide (0 < y.st) || decide (y.key ≠ x.key)) -> (∃ m_1 : Nat, m_1 <= k /\ Value.int .i64 ((m : Int) + 1) = Value.int .i64 m_1 /\ Value.bool f = Value.bool ((x.st == 0) && (Ws.take m_1).all fun y => decide (0 < y.st) || decide (y.key ≠ x.key)) /\ Below wr0.heap.size wr0 W) /\ k - (intOf (Value.int .i64 ((m : Int) + 1))).toNat < k - (intOf (Value.int .i64 (m : Int))).toNat :=
      fun f W h1 h2 => ⟨⟨m + 1, by omega, by go_num, congrArg Value.bool h2, h1⟩, by simp [intOf]; omega⟩
     have HFIN : Hid (∀ (f : Bool) (W : World), Below wr0.heap.size wr0 W -> f = ((x.st == 0) && (Ws.take (m + 1)).all fun y => decide (0 < y.st) || decide (y.key ≠ x.key)) -> (∃ m_1 : Nat, m_1 <= k /\ Value.int .i64 ((m : Int) + 1) = Value.int .i64 m_1 /\ Value.bool f = Value.bool ((x.st == 0) && (Ws.take m_1).all fun y => decide (0 < y.st) || decide (y.key ≠ x.key)) /\ Below wr0.heap.size wr0 W) /\ k - (intOf (Value.int .i64 ((m : Int) + 1))).toNat < k - (intOf (Value.int .i64 (m : Int))).toNat) := hfin
     clear hfin
     by_cases hst : 0 < y.st
     ·rw [decide_eq_true hst] at HF
      cases ff
      ·go_wp2_with fail
       go_quiet (fail)
       go_wp2_with fail
       exact HFIN.out _ _ (below_drewN hbel2 _) (by rw [HF.out]; rfl)
      ·go_wp2_with fail
       go_quiet (fail)
       go_wp2_with fail
       exact HFIN.out _ _ (below_drewN hbel2 _) (by rw [HF.out]; rfl)
     ·rw [decide_eq_false hst] at HF
      cases ff
      ·go_wp2_with fail
       go_quiet (fail)
       go_wp2_with fail
       exact HFIN.out _ _ (below_drewN hbel2 _) (by rw [HF.out]; rfl)
      ·have hpn : (py.toList != px.toList) = !same := by simp [bne, hpe]
       cases same
       ·go_wp2_with fail
        go_quiet (fail)
        go_wp2_with fail
        exact HFIN.out _ _ (below_drewN hbel2 _) (by rw [HF.out]; rfl)
       ·go_wp2_with fail
        go_quiet (fail)
        go_wp2_with fail
        exact HFIN.out _ _ (below_drewN hbel2 _) (by rw [HF.out]; exact decide_eq_false (by omega))
    ·have hmk : m = k := by omega
     subst hmk
     have HH : Hid (headAt Ws m = ((x.st == 0) && (Ws.take m).all fun y => decide (0 < y.st) || decide (y.key ≠ x.key))) := by
      show _ = _
      unfold headAt
      rw [HX.out]; rfl
     have HS : Hid (qcw Ws (m + 1) = qcw Ws m ++ (if headAt Ws m then [m] else [])) := qlz Ws m
     have hlen := qgr Ws m
     generalize ((x.st == 0) && (Ws.take m).all fun y => decide (0 < y.st) || decide (y.key ≠ x.key)) = ff at HH ⊢
     have hown2 := qrr hown hbel2
     generalize qcw Ws m = hs at hown2 HS hlen
     cases ff
     ·go_wp2_with fail
      refine ⟨⟨m + 1, by omega, by go_num, hB, ?_⟩, by simp [intOf]; omega⟩
      rw [HS.out, HH.out]; simpa using hown2
     ·go_wp2_with (at_builtin; refine wpList_append_own _ rfl _ _ 25 rfl w.heap.size 3 i0 z 1 8 Tryz.underlying25 hi1 hi2 hi3 hi4 hi5 (by decide) _ _ _ rfl (hown2.alloc _) ⟨wr.heap.size, 0, none⟩ 1 1 [.int .i64 m] rfl rfl (cell_one_new _ _ _) (by simp [Value.oneCell']) (by unfold maxLen; omega) (by omega) (by have := hB.size; simp; omega) ?_; intro v' w1 hown' hgrow _)
      refine ⟨⟨m + 1, by omega, by go_num, (hB.alloc hB.size _).grown hgrow (by have := hB.size; simp; omega) (fun j hj => (hown2.lt j hj).1), ?_⟩, by simp [intOf]; omega⟩
      rw [HS.out, HH.out]
      simpa [nats] using hown'
  ·go_wp2
   go_ret
   have hkn : k = Ws.length := by have := HN.out; omega
   subst hkn
   exact ⟨_, rfl, hown, hbel⟩
theorem qib {w : World} {br g cap : Nat} {L : List Ent} {v1 v2 v3 : Value} (h : qc9 w br g cap L v1 v2 v3) (E : Ents L) (hinj : ∀ a ∈ L, ∀ b ∈ L, a.key = b.key -> a = b) (s : ByteArray) (k : List Bs) (hk : qbn k = true) (hs : bl s = joinB k) {x : Ent} (hx : qcv L k = some x) :
  Calls Tryz.prog 114 #[.pointer (some ⟨br, 0, none⟩), .string s] w fun e w' => (∃ i : Nat, e = .returned (.int .i64 i) /\ L[i]? = some x) /\ w' = w := by
 refine (qst h E hinj s k hk hs).mono ?_
 rintro e w' ⟨(⟨h1, _⟩ | ⟨i, y, h1, h2, rfl⟩), rfl⟩
 ·rw [hx] at h1; cases h1
 ·rw [hx] at h1; cases h1; exact ⟨⟨i, rfl, h2⟩, rfl⟩
theorem qgx {w : World} {br g cap : Nat} {L : List Ent} {v1 v2 v3 : Value} (h : qc9 w br g cap L v1 v2 v3) (E : Ents L) (hinj : ∀ a ∈ L, ∀ b ∈ L, a.key = b.key -> a = b) (s : ByteArray) (k : List Bs) (hk : qbn k = true) (hs : bl s = joinB k) (hx : qcv L k = none) :
  Calls Tryz.prog 114 #[.pointer (some ⟨br, 0, none⟩), .string s] w fun e w' => e = .returned (.int .i64 (-1)) /\ w' = w := by
 refine (qst h E hinj s k hk hs).mono ?_
 rintro e w' ⟨(⟨_, rfl⟩ | ⟨i, y, h1, h2, rfl⟩), rfl⟩
 ·exact ⟨rfl, rfl⟩
 ·rw [hx] at h1; cases h1
theorem qwc {w : World} {br g cap : Nat} {L : List Ent} {v1 v2 v3 : Value} (h : qc9 w br g cap L v1 v2 v3) (E : Ents L) (hinj : ∀ a ∈ L, ∀ b ∈ L, a.key = b.key -> a = b) (s : ByteArray) (k : List Bs) (hk : qbn k = true) (hs : bl s = joinB k) :
  Calls Tryz.prog 114 #[.pointer (some ⟨br, 0, none⟩), .string s] w fun e w' => (∃ z : Int, e = .returned (.int .i64 z)) /\ w' = w := by
 refine (qst h E hinj s k hk hs).mono ?_
 rintro e w' ⟨(⟨_, rfl⟩ | ⟨i, y, h1, h2, rfl⟩), rfl⟩
 ·exact ⟨⟨_, rfl⟩, rfl⟩
 ·exact ⟨⟨_, rfl⟩, rfl⟩
theorem qga (s : ByteArray) (hs : s.size <= 2000000) (hv : qar (bl s) = true) (M : Nat) (hM : (qaa (bl s)).length = M + 1) (w : World) :
  Calls Tryz.prog 113 #[.string s] w fun e w' => (∃ gg cap, e = .returned (.tuple #[.slice (some ⟨gg, 0, none⟩) (M + 1) cap, .bool true]) /\ M + 1 <= cap /\ cap <= maxLen /\ NRow w' (qaa (bl s)) (some ⟨gg, 0, none⟩) cap) /\ Below w.heap.size w w' := by
 refine (qdd s hs hv w).mono ?_
 rintro e w' ⟨⟨ao, cap, rfl, hrow⟩, hb⟩
 obtain ⟨x, hx⟩ : ∃ x, (qaa (bl s))[0]? = some x := ⟨_, List.getElem?_eq_getElem (by omega)⟩
 obtain ⟨gg, rfl, _, _⟩ := hrow.cell 0 x hx
 have := hrow.le
 exact ⟨⟨gg, cap, by rw [hM], by omega, hrow.mx, hrow⟩, hb⟩
theorem qc9.ne {W : World} {br g cap : Nat} {L : List Ent} {v1 v2 v3 : Value} (h : qc9 W br g cap L v1 v2 v3) : br ≠ g := fun e => by
 obtain ⟨hl, hr⟩ := h.row
 rcases hr with ⟨hv, _⟩ | ⟨g', cap', cur, hv, hbg, hg, _⟩
 ·cases hv
 ·injection hv with e1 _ _; injection e1 with e1; injection e1 with e1
  rw [<- e1, <- e] at hg
  have h9 := hg.symm.trans h.at_
  injection h9 with h9
  injection h9 with _ h9 _
  exact absurd h9 (by decide)
structure Late (v1 v2 v3 : Value) (w : World) (br g cap : Nat) (L : List Ent) (s : ByteArray) (a b c d : Int) : Prop where
 ref : qc9 w br g cap L v1 v2 v3
 ents : Ents L
 inj : ∀ a ∈ L, ∀ b ∈ L, a.key = b.key -> a = b
 small : s.size <= 2000000
 valid : qar (bl s) = true
 ne : bl s ≠ []
 fa : qao a b = true
 fb : qao c d = true
 deep : (qaa (bl s)).length <= 4
theorem Late.nz {v1 v2 v3 : Value} {w : World} {br g cap : Nat} {L : List Ent} {s : ByteArray} {a b c d : Int} (h : Late v1 v2 v3 w br g cap L s a b c d) : ∃ M, M <= 3 /\ (qaa (bl s)).length = M + 1 := by
 have hne : qaa (bl s) ≠ [] := fun e => h.ne (by rw [<- qa6 (bl s), e]; rfl)
 have hd := h.deep
 cases hh : qaa (bl s) with
 | nil => exact absurd hh hne
 | cons x y => rw [hh] at hd; exact ⟨y.length, by simp at hd; omega, by simp⟩
theorem Late.kok {v1 v2 v3 : Value} {w : World} {br g cap : Nat} {L : List Ent} {s : ByteArray} {a b c d : Int} (h : Late v1 v2 v3 w br g cap L s a b c d) : qbn (qaa (bl s)) = true := by rw [<- qba]; exact h.valid
theorem Late.kod {v1 v2 v3 : Value} {w : World} {br g cap : Nat} {L : List Ent} {s : ByteArray} {a b c d : Int} (h : Late v1 v2 v3 w br g cap L s a b c d) : qbn (qaa (bl s)).dropLast = true := by
 have := h.kok
 simp only [qbn, List.all_eq_true] at this ⊢
 exact fun x hx => this x (List.dropLast_subset _ hx)
theorem Late.join {v1 v2 v3 : Value} {w : World} {br g cap : Nat} {L : List Ent} {s : ByteArray} {a b c d : Int} (h : Late v1 v2 v3 w br g cap L s a b c d) {M : Nat} (hM : (qaa (bl s)).length = M + 1) (W : World) (gg cp : Nat) (hr : NRow W (qaa (bl s)) (some ⟨gg, 0, none⟩) cp) :
  Calls Tryz.prog 122 #[.slice (some ⟨gg, 0, none⟩) M cp] W fun e w' => e = .returned (.string (sb (joinB (qaa (bl s)).dropLast))) /\ w' = W := by
 have hd := h.deep
 have := quj (some ⟨gg, 0, none⟩) cp (qaa (bl s)).dropLast W (by simp; omega) (fun x hx => by have := (qea (qbz h.kod hx)).2; omega) (by simp; omega)
  (fun j x hx => by
   have hx2 : (qaa (bl s))[j]? = some x := by
    rw [List.dropLast_eq_take, List.getElem?_take] at hx
    split at hx
    ·exact hx
    ·cases hx
   obtain ⟨g', h1, _, h3⟩ := hr.cell j x hx2
   exact ⟨g', h1, h3⟩)
 rw [List.length_dropLast, hM] at this
 exact this
set_option maxRecDepth 100000 in
set_option maxHeartbeats 1000000 in
theorem qpi {v1 v2 v3 : Value} {w : World} {br g cap : Nat} {L : List Ent} (s : ByteArray) (leaf : Bool) (a b c d : Int) (x y : Ent) (h : Late v1 v2 v3 w br g cap L s a b c d) (hx : qcv L (qaa (bl s)) = some x) :
  Calls Tryz.prog 108 #[.pointer (some ⟨br, 0, none⟩), .agg #[.string s, .bool leaf, .int .i64 a, .int .i64 b, .int .i64 c, .int .i64 d]] w (qeg v1 v2 v3 br g L y 4 w) := by
 have hf1 := fun W => qcg a b W
 have hf2 := fun W => qcg c d W
 have b0 : Blk (w.alloc (.cells #[.string s, .bool leaf, .int .i64 a, .int .i64 b, .int .i64 c, .int .i64 d] 163)) w.heap.size 163 _ := Blk.new w 163 _
 have hq : (s.toList.isEmpty) = false := by rw [qaz]; simpa using h.ne
 rw [h.fa] at hf1
 rw [h.fb] at hf2
 obtain ⟨M, hM3, hM⟩ := h.nz
 have hn := fun W => qga s h.small h.valid M hM W
 have hjoin := fun W gg cp hr => h.join hM W gg cp hr
 have hat1 := fun W (hW : Below w.heap.size w W) => qib (h.ref.below hW) h.ents h.inj s (qaa (bl s)) h.kok (qa6 (bl s)).symm hx
 have hat2 := fun W (hW : Below w.heap.size w W) => qwc (h.ref.below hW) h.ents h.inj (sb (joinB (qaa (bl s)).dropLast)) (qaa (bl s)).dropLast h.kod (qbi _)
 clear hM hx h
 go_enter Tryz.func108, Tryz.ntmps108
 go_wp2_with (first
  | (go_at_call 113; refine (hn _).mono ?_; rintro e w1 ⟨⟨gg, cp, rfl, hcp1, hcp2, hrow⟩, hb1⟩; have hB1 : Below w.heap.size w w1 := qac (by (repeat (first | (with_reducible exact Below.refl _ _) | (with_reducible assumption) | ((with_reducible refine Below.setCell ?_ ?_ _); rotate_left; (focus (first | omega | (simp <;> omega)))) | ((with_reducible refine Below.alloc ?_ ?_ _); rotate_left; (focus (first | omega | (simp <;> omega)))) | (with_reducible refine Below.drew ?_) | (with_reducible refine below_drewN ?_ _) | (refine qac ?_ (by with_reducible assumption))))) hb1; have b1 := b0.below hb1 (by simp); have hcl := b1.cell; have hr1 := hrow)
  | (go_at_call 115; refine (hf1 _).mono ?_; clear hf1; rintro e w2 ⟨rfl, hb2⟩; have hB2 : Below w.heap.size w w2 := qac hB1 hb2; have b2 := b1.below hb2 (by have := hb1.size; simp at this; omega); have hcl2 := b2.cell; clear hcl; have hr2 := hr1.below hb2)
  | (go_at_call 115; refine (hf2 _).mono ?_; clear hf2; rintro e w3 ⟨rfl, hb3⟩; have hB3 : Below w.heap.size w w3 := qac hB2 hb3; have b3 := b2.below hb3 (by have := hb1.size; have := hb2.size; simp at *; omega); have hcl3 := b3.cell; clear hcl2; have hr3 := hr2.below hb3)
  | (go_at_call 122; refine (hjoin _ _ _ hr3).mono ?_; rintro e w9 ⟨rfl, hw9⟩; subst hw9)
  | (go_at_call 114; refine (hat1 _ hB3).mono ?_; clear hat1; rintro e w4 ⟨⟨i, rfl, hi⟩, hw4⟩; subst hw4)
  | (go_at_call 114; refine (hat2 _ hB3).mono ?_; rintro e w5 ⟨⟨z, rfl⟩, hw5⟩; subst hw5))
 all_goals go_ret
 all_goals exact ⟨rfl, .inl ⟨by decide, hB3⟩⟩
end Go.Proofs.YtphclnolomgjoaaGreatDoor
