import Derived.Test.YtphclnolomgjoaaGreatDoorC06
import Derived.Deep.RegionLaw
set_option linter.unusedVariables false
set_option linter.unusedSimpArgs false
namespace Go.Proofs.YtphclnolomgjoaaGreatDoor
open Go.RowKit
def qdv (W : World) (c : Nat) (v : Value) (m : Int) : Prop :=
 v = .slice none 0 0 \/ ∃ b len cap, v = .slice (some ⟨b, 0, none⟩) len cap /\ len <= 1000 /\ len <= cap /\ cap <= maxLen /\ b < W.heap.size /\ ∀ j, j < len * c -> W.cell? ⟨b, j, none⟩ = some (.int .i64 m)
def ints (ms : List Int) : List Value := ms.map fun m => .int .i64 m
structure qdz (W : World) (c : Nat) (tl : TypeId) (sl slm : Value) (ns : List Value) (ms : List Int) : Prop where
 row : W.ownsRow 0 tl 1 sl ns.length ns
 mrow : W.ownsRow 0 3 1 slm ms.length (ints ms)
 len : ns.length = ms.length
 ok : ∀ (i : Nat) v m, ns[i]? = some v -> ms[i]? = some m -> qdv W c v m
theorem qdr {W : World} {t : TypeId} {sl : Value} {n : Nat} {xs : List Value} (h : W.ownsRow 0 t 1 sl n xs) : ∃ ao cap, sl = .slice ao n cap /\ n <= cap /\ cap <= maxLen /\ ∀ (i : Nat) v, xs[i]? = some v -> ∃ g, ao = some ⟨g, 0, none⟩ /\ g < W.heap.size /\ W.cell? ⟨g, i, none⟩ = some v := by
 rcases h.2 with ⟨rfl, rfl⟩ | ⟨g, cap, cur, rfl, _, hg, h1, h2, h3⟩
 ·refine ⟨none, 0, rfl, Nat.le_refl _, Nat.zero_le _, fun i v hv => ?_⟩
  have := h.1
  rw [List.getElem?_eq_none (by omega)] at hv; cases hv
 ·refine ⟨_, cap, rfl, h1, h2, fun i v hv => ⟨g, rfl, (Array.getElem?_eq_some_iff.1 hg).1, ?_⟩⟩
  have := h.cells (g := g) rfl i v hv
  rwa [Addr.add_lit, Nat.zero_add] at this
set_option maxRecDepth 100000 in
set_option maxHeartbeats 1000000 in
theorem qhq {W : World} {bw : Nat} {slT slN slE slA slB : Value} (hb : Blk W bw 84 #[slT, slN, slE, slA, slB]) {ns es : List Value} {ms me : List Int} (hN : qdz W 1 25 slN slA ns ms) (hE : qdz W 2 48 slE slB es me)
  (hl1 : ns.length <= 1000000000) (hl2 : es.length <= 1000000000) :
  Calls Tryz.prog 37 #[.pointer (some ⟨bw, 0, none⟩)] W fun e w' => e = .returned (.bool true) /\ Below W.heap.size W w' := by
 obtain ⟨aN, cN, rfl, n1, n2, n3⟩ := qdr hN.row
 obtain ⟨aE, cE, rfl, e1, e2, e3⟩ := qdr hE.row
 obtain ⟨aA, cA, rfl, a1, a2, a3⟩ := qdr hN.mrow
 obtain ⟨aB, cB, rfl, b1, b2, b3⟩ := qdr hE.mrow
 have hnl := hN.len
 have hel := hE.len
 have hNok := hN.ok
 have hEok := hE.ok
 clear hN hE
 have c1 := hb.cell 1
 have c2 := hb.cell 2
 have c3 := hb.cell 3
 have c4 := hb.cell 4
 simp only [List.getElem?_toArray, List.getElem?_cons_zero, List.getElem?_cons_succ] at c1 c2 c3 c4
 rw [<- hnl] at c3 a1
 rw [<- hel] at c4 b1
 obtain ⟨n, hn⟩ : ∃ n, n = ns.length := ⟨_, rfl⟩
 obtain ⟨q, hq⟩ : ∃ q, q = es.length := ⟨_, rfl⟩
 rw [<- hn] at c1 c3 hl1 n1 a1
 rw [<- hq] at c2 c4 hl2 e1 b1
 have HN : Hid (n = ns.length /\ ns.length = ms.length) := ⟨hn, hnl⟩
 have HQ : Hid (q = es.length /\ es.length = me.length) := ⟨hq, hel⟩
 have HNok : Hid (∀ (i : Nat) v m, ns[i]? = some v -> ms[i]? = some m -> qdv W 1 v m) := hNok
 have HEok : Hid (∀ (i : Nat) v m, es[i]? = some v -> me[i]? = some m -> qdv W 2 v m) := hEok
 clear hn hq hnl hel hNok hEok
 have hbw := hb.lt
 have HC : Hid (∀ W', Below W.heap.size W W' -> W'.cell? ⟨bw, 1, none⟩ = some (.slice aN n cN) /\ W'.cell? ⟨bw, 2, none⟩ = some (.slice aE q cE) /\ W'.cell? ⟨bw, 3, none⟩ = some (.slice aA n cA) /\ W'.cell? ⟨bw, 4, none⟩ = some (.slice aB q cB)) := by
  suffices hh : (∀ W', Below W.heap.size W W' -> W'.cell? ⟨bw, 1, none⟩ = some (.slice aN n cN) /\ W'.cell? ⟨bw, 2, none⟩ = some (.slice aE q cE) /\ W'.cell? ⟨bw, 3, none⟩ = some (.slice aA n cA) /\ W'.cell? ⟨bw, 4, none⟩ = some (.slice aB q cB)) from hh
  exact fun W' hW => ⟨(hW.cell (p := ⟨bw, 1, none⟩) hbw).trans c1, (hW.cell (p := ⟨bw, 2, none⟩) hbw).trans c2, (hW.cell (p := ⟨bw, 3, none⟩) hbw).trans c3, (hW.cell (p := ⟨bw, 4, none⟩) hbw).trans c4⟩
 clear c1 c2 c3 c4
 go_enter Tryz.func37, Tryz.ntmps37
 go_wp2
 go_loopw [3] (fun i wr => ∃ k : Nat, k <= n /\ i = .int .i64 k /\ Below W.heap.size W wr) (fun i _ => n - (intOf i).toNat)
 case atStart => exact ⟨0, Nat.zero_le _, rfl, Below.refl _ _⟩
 case round =>
  obtain ⟨k, hk, rfl, hbel⟩ := hrel
  obtain ⟨c1, c2, c3, c4⟩ := HC.out _ hbel
  by_cases hlt : k < n
  ·obtain ⟨v, hv⟩ : ∃ v, ns[k]? = some v := ⟨_, List.getElem?_eq_getElem (by rw [<- HN.out.1]; exact hlt)⟩
   obtain ⟨m, hm⟩ : ∃ m, ms[k]? = some m := ⟨_, List.getElem?_eq_getElem (by rw [<- HN.out.2, <- HN.out.1]; exact hlt)⟩
   obtain ⟨gN, rfl, gNl, pN⟩ := n3 k v hv
   obtain ⟨gA, rfl, gAl, pA⟩ := a3 k (.int .i64 m) (by simp [ints, hm])
   have hlo := HNok.out k v m hv hm
   clear hv hm n3 a3
   have pN' := (hbel.cell (p := ⟨gN, k, none⟩) gNl).trans pN
   rcases hlo with rfl | ⟨b, len, cap, rfl, l3, lc, lm, hbl, hcs⟩
   ·go_wp2
    refine wp_loop_rounds 1 ?_
    rw [rounds_succ]
    go_wp2
    exact ⟨⟨k + 1, by omega, by go_num, hbel⟩, by simp [intOf]; omega⟩
   ·simp only [Nat.mul_one] at hcs
    go_wp2
    go_loopw [4] (fun j wr => ∃ x : Nat, x <= len /\ j = .int .i64 x /\ Below W.heap.size W wr) (fun j _ => len - (intOf j).toNat)
    case atStart => exact ⟨0, Nat.zero_le _, rfl, hbel⟩
    case round =>
     clear c1 c2 c3 c4 pN'
     obtain ⟨x, hx, rfl, hbel2⟩ := hrel
     obtain ⟨c1, c2, c3, c4⟩ := HC.out _ hbel2
     have pN' := (hbel2.cell (p := ⟨gN, k, none⟩) gNl).trans pN
     have pA' := (hbel2.cell (p := ⟨gA, k, none⟩) gAl).trans pA
     by_cases hxl : x < len
     ·have hcx := (hbel2.cell (p := ⟨b, x, none⟩) hbl).trans (hcs x hxl)
      clear hcs
      go_wp2
      go_quiet (fail)
      go_wp2
      exact ⟨⟨x + 1, by omega, by go_num, below_drewN hbel2 _⟩, by simp [intOf]; omega⟩
     ·go_wp2
      exact ⟨⟨k + 1, by omega, by go_num, hbel2⟩, by simp [intOf]; omega⟩
  ·go_wp2
   go_loopw [5] (fun i wr => ∃ k : Nat, k <= q /\ i = .int .i64 k /\ Below W.heap.size W wr) (fun i _ => q - (intOf i).toNat)
   case atStart => exact ⟨0, Nat.zero_le _, rfl, hbel⟩
   case round =>
    clear c1 c2 c3 c4
    obtain ⟨k, hk, rfl, hbel⟩ := hrel
    obtain ⟨c1, c2, c3, c4⟩ := HC.out _ hbel
    by_cases hlt : k < q
    ·obtain ⟨v, hv⟩ : ∃ v, es[k]? = some v := ⟨_, List.getElem?_eq_getElem (by rw [<- HQ.out.1]; exact hlt)⟩
     obtain ⟨m, hm⟩ : ∃ m, me[k]? = some m := ⟨_, List.getElem?_eq_getElem (by rw [<- HQ.out.2, <- HQ.out.1]; exact hlt)⟩
     obtain ⟨gE, rfl, gEl, pE⟩ := e3 k v hv
     obtain ⟨gB, rfl, gBl, pB⟩ := b3 k (.int .i64 m) (by simp [ints, hm])
     have hlo := HEok.out k v m hv hm
     clear hv hm e3 b3
     have pE' := (hbel.cell (p := ⟨gE, k, none⟩) gEl).trans pE
     have pB' := (hbel.cell (p := ⟨gB, k, none⟩) gBl).trans pB
     rcases hlo with rfl | ⟨b, len, cap, rfl, l3, lc, lm, hbl, hcs⟩
     ·go_wp2
      refine wp_loop_rounds 1 ?_
      rw [rounds_succ]
      go_wp2
      exact ⟨⟨k + 1, by omega, by go_num, hbel⟩, by simp [intOf]; omega⟩
     ·go_wp2
      go_loopw [7] (fun j wr => ∃ x : Nat, x <= len /\ j = .int .i64 x /\ Below W.heap.size W wr) (fun j _ => len - (intOf j).toNat)
      case atStart => exact ⟨0, Nat.zero_le _, rfl, hbel⟩
      case round =>
       clear c1 c2 c3 c4 pE' pB'
       obtain ⟨x, hx, rfl, hbel2⟩ := hrel
       obtain ⟨c1, c2, c3, c4⟩ := HC.out _ hbel2
       have pE' := (hbel2.cell (p := ⟨gE, k, none⟩) gEl).trans pE
       by_cases hxl : x < len
       ·have hcx := (hbel2.cell (p := ⟨b, x * 2, none⟩) hbl).trans (hcs (x * 2) (by omega))
        have hcy := (hbel2.cell (p := ⟨b, x * 2 + 1, none⟩) hbl).trans (hcs (x * 2 + 1) (by omega))
        clear hcs
        have hq9 := qol
        go_wp2
        exact ⟨⟨x + 1, by omega, by go_num, hbel2⟩, by simp [intOf]; omega⟩
       ·go_wp2
        exact ⟨⟨k + 1, by omega, by go_num, hbel2⟩, by simp [intOf]; omega⟩
    ·go_wp2
     go_ret
     exact ⟨rfl, hbel⟩
structure OwnP (W : World) (bw f1 f3 : Nat) (el lt : TypeId) (sz : Nat) (vs : Array Value) (slN slA : Value) (ns : List Value) (ms : List Int) (l : Value) (k0 : Nat) (m : Int) (n : Nat)
  (U0 w1 w2 w3 wN wA U1 U2 U3 U4 U5 : World) (g1 k1 g2 k2 g3 k3 gN kN gA kA : Nat) (w' : World) : Prop where
 kp0 : Keep (fun b => l.ownBlock = some b) W U0
 r0 : U0.ownsRow 0 el sz l k0 (List.replicate (k0 * sz) (.int .i64 m))
 u1 : Below U0.heap.size U0 U1
 a1 : AppS U1 l el sz k0 (k0 + 1) m g1 k1 w1
 u2 : Below w1.heap.size w1 U2
 a2 : AppS U2 l el sz k0 (k0 + 2) m g2 k2 w2
 u3 : Below w2.heap.size w2 U3
 a3 : AppS U3 l el sz k0 (k0 + 3) m g3 k3 w3
 u4 : Below w3.heap.size w3 U4
 aN : AppR U4 slN.ownBlock lt 1 (n + 4) (ns ++ [l, .slice (some ⟨g1, 0, none⟩) (k0 + 1) k1, .slice (some ⟨g2, 0, none⟩) (k0 + 2) k2, .slice (some ⟨g3, 0, none⟩) (k0 + 3) k3]) gN kN wN
 u5 : Below wN.heap.size (wN.setCell ⟨bw, f1, none⟩ (.slice (some ⟨gN, 0, none⟩) (n + 4) kN)) U5
 aA : AppR U5 slA.ownBlock 3 1 (n + 4) (ints ms ++ [.int .i64 m, .int .i64 m, .int .i64 m, .int .i64 m]) gA kA wA
 end_ : w' = wA.setCell ⟨bw, f3, none⟩ (.slice (some ⟨gA, 0, none⟩) (n + 4) kA)
theorem qki {xs : List Value} {k n : Nat} {M : Value} (hl : xs.length = n) (hk : k < n) : (List.replicate k M ++ xs.drop k).set k M = List.replicate (k + 1) M ++ xs.drop (k + 1) := by
 rw [List.set_append_right _ _ (by simp)]
 simp only [List.length_replicate, Nat.sub_self]
 rw [List.drop_eq_getElem_cons (by omega), List.set_cons_zero, List.replicate_succ', List.append_assoc]
 rfl
set_option maxRecDepth 100000 in
set_option maxHeartbeats 2000000 in
theorem qh7 {W : World} {bw : Nat} {slT slN slE slA slB : Value} (hb : Blk W bw 84 #[slT, slN, slE, slA, slB]) {ns : List Value} {ms : List Int} (hN : W.ownsRow 0 25 1 slN ns.length ns) (hA : W.ownsRow 0 3 1 slA ns.length (ints ms))
  (hl : ns.length <= 1000000000) (hne1 : slN.ownBlock ≠ some bw) (hne2 : slA.ownBlock ≠ some bw) (hne3 : ∀ g, slN.ownBlock = some g -> slA.ownBlock ≠ some g)
  {al : Option Addr} {k0 cl : Nat} {xs : List Value} (hL : W.ownsRow 0 3 1 (.slice al k0 cl) k0 xs) (hk0 : k0 <= 990) (hlw : (Value.slice al k0 cl).ownBlock ≠ some bw) (hlN : ∀ g, (Value.slice al k0 cl).ownBlock = some g -> slN.ownBlock ≠ some g) (hlA : ∀ g, (Value.slice al k0 cl).ownBlock = some g -> slA.ownBlock ≠ some g) :
  Calls Tryz.prog 126 #[.pointer (some ⟨bw, 0, none⟩), .slice al k0 cl] W fun e w' => e = .returned (.tuple #[]) /\ ∃ U0 w1 w2 w3 wN wA U1 U2 U3 U4 U5 g1 k1 g2 k2 g3 k3 gN kN gA kA,
   OwnP W bw 1 3 3 25 1 #[slT, slN, slE, slA, slB] slN slA ns ms (.slice al k0 cl) k0 (-1 - (ns.length : Int)) ns.length U0 w1 w2 w3 wN wA U1 U2 U3 U4 U5 g1 k1 g2 k2 g3 k3 gN kN gA kA w' := by
 obtain ⟨aA, cA, rfl, a1, a2, _⟩ := qdr hA
 obtain ⟨aN, cN, rfl, n1, n2, _⟩ := qdr hN
 obtain ⟨n, hn⟩ : ∃ n, n = ns.length := ⟨_, rfl⟩
 rw [<- hn] at hb hN hA hl a1 n1 hne1 hne2 hne3 hlN hlA ⊢
 have c1 := hb.cell 1
 have c3 := hb.cell 3
 simp only [List.getElem?_toArray, List.getElem?_cons_zero, List.getElem?_cons_succ] at c1 c3
 have hlt := hb.lt
 have hlk : k0 <= cl /\ cl <= maxLen := by
  rcases hL.2 with ⟨h, h0⟩ | ⟨g, cap, cur, h, _, _, h2, h3, _⟩
  ·cases h; exact ⟨Nat.le_refl _, Nat.zero_le _⟩
  ·cases h; exact ⟨h2, h3⟩
 obtain ⟨hlk, hlc⟩ := hlk
 have HA := fun W' (h : W'.ownsRow 0 3 1 (.slice aA n cA) n (ints ms)) nb (hnb : Blk W' nb 3 #[.int .i64 (-1 - (n : Int)), .int .i64 (-1 - (n : Int)), .int .i64 (-1 - (n : Int)), .int .i64 (-1 - (n : Int))]) =>
  qby un29 inf3 (by omega) W' _ n (ints ms) h nb 4 4 (by omega) [.int .i64 (-1 - (n : Int)), .int .i64 (-1 - (n : Int)), .int .i64 (-1 - (n : Int)), .int .i64 (-1 - (n : Int))] rfl hnb (by intro u hu; simp at hu; subst hu; rfl) (by unfold maxLen; omega) (by omega)
 have H1 := fun W' (h : W'.ownsRow 0 3 1 (.slice al k0 cl) k0 (List.replicate (k0 * 1) (.int .i64 (-1 - (n : Int))))) nb (hnb : Blk W' nb 3 #[.int .i64 (-1 - (n : Int))]) =>
  qfi un29 inf3 (by omega) W' (.slice al k0 cl) k0 (-1 - (n : Int)) h nb 1 1 (by omega) (by simpa using hnb) (by unfold maxLen; omega) (by omega)
 have H2 := fun W' (h : W'.ownsRow 0 3 1 (.slice al k0 cl) k0 (List.replicate (k0 * 1) (.int .i64 (-1 - (n : Int))))) nb (hnb : Blk W' nb 3 #[.int .i64 (-1 - (n : Int)), .int .i64 (-1 - (n : Int))]) =>
  qfi un29 inf3 (by omega) W' (.slice al k0 cl) k0 (-1 - (n : Int)) h nb 2 2 (by omega) (by simpa using hnb) (by unfold maxLen; omega) (by omega)
 have H3 := fun W' (h : W'.ownsRow 0 3 1 (.slice al k0 cl) k0 (List.replicate (k0 * 1) (.int .i64 (-1 - (n : Int))))) nb (hnb : Blk W' nb 3 #[.int .i64 (-1 - (n : Int)), .int .i64 (-1 - (n : Int)), .int .i64 (-1 - (n : Int))]) =>
  qfi un29 inf3 (by omega) W' (.slice al k0 cl) k0 (-1 - (n : Int)) h nb 3 3 (by omega) (by simpa using hnb) (by unfold maxLen; omega) (by omega)
 have HNN := fun W' (h : W'.ownsRow 0 25 1 (.slice aN n cN) n ns) nb (g1 k1 g2 k2 g3 k3 : Nat) (hnb : Blk W' nb 25 #[.slice al k0 cl, .slice (some ⟨g1, 0, none⟩) (k0 + 1) k1, .slice (some ⟨g2, 0, none⟩) (k0 + 2) k2, .slice (some ⟨g3, 0, none⟩) (k0 + 3) k3]) =>
  qby un27 qxb (by omega) W' _ n ns h nb 4 4 (by omega) [.slice al k0 cl, .slice (some ⟨g1, 0, none⟩) (k0 + 1) k1, .slice (some ⟨g2, 0, none⟩) (k0 + 2) k2, .slice (some ⟨g3, 0, none⟩) (k0 + 3) k3] rfl hnb (by intro u hu; simp at hu; rcases hu with rfl | rfl | rfl | rfl <;> rfl) (by unfold maxLen; omega) (by omega)
 clear hn
 have HXL : Hid (xs.length = k0 * 1) := hL.1
 go_enter Tryz.func126, Tryz.ntmps126
 go_wp2
 go_loopw [5] (fun i wr => ∃ k : Nat, k <= k0 /\ i = .int .i64 k /\ wr.ownsRow 0 3 1 (.slice al k0 cl) k0 (List.replicate k (.int .i64 (-1 - (n : Int))) ++ xs.drop k) /\ Keep (fun b => (Value.slice al k0 cl).ownBlock = some b) W wr) (fun i _ => k0 - (intOf i).toNat)
 case atStart => exact ⟨0, Nat.zero_le _, rfl, by simpa using hL, Keep.refl _ _⟩
 case round =>
  obtain ⟨k, hk, rfl, hrow, hkp⟩ := hrel
  by_cases hlt2 : k < k0
  ·obtain ⟨gl, cl', hal, _⟩ := qat hL (by omega)
   cases hal
   have hfz := hrow.frozenAt k
   have hcl := hrow.cellAt k (by omega)
   have hst := hrow.stored k (.int .i64 (-1 - (n : Int)))
   rw [qki HXL.out (by omega)] at hst
   obtain ⟨hst1, hst2⟩ := hst
   have hkp2 := hkp.grown hst2 (fun b hb => by simp [Value.ownBlock] at hb ⊢; exact hb)
   obtain ⟨u, hu⟩ : ∃ u, (List.replicate k (.int .i64 (-1 - (n : Int))) ++ xs.drop k)[k]? = some u := ⟨_, List.getElem?_eq_getElem (by have := HXL.out; simp; omega)⟩
   rw [hu] at hcl
   clear hrow hst2 hkp H1 H2 H3 HA HNN
   go_wp2
   exact ⟨⟨k + 1, by omega, by go_num, hst1, hkp2⟩, by simp [intOf]; omega⟩
  ·obtain rfl : k = k0 := by omega
   rw [List.drop_of_length_le (by have := HXL.out; omega), List.append_nil, show List.replicate k (Value.int .i64 (-1 - (n : Int))) = List.replicate (k * 1) (.int .i64 (-1 - (n : Int))) by simp] at hrow
   have hb0 := hb.keep hkp hlw
   have hN0 := qab hN hkp (fun g hg e => hlN g e hg)
   have hA0 := qab hA hkp (fun g hg e => hlA g e hg)
   have c10 := hb0.cell 1
   have c30 := hb0.cell 3
   have hlt0 := hb0.lt
   simp only [List.getElem?_toArray, List.getElem?_cons_zero, List.getElem?_cons_succ] at c10 c30
   clear c1 c3 hlt
   have HK0 : Hid (Keep (fun b => (Value.slice al k cl).ownBlock = some b) W wr) := hkp
   have HR0 : Hid (wr.ownsRow 0 3 1 (.slice al k cl) k (List.replicate (k * 1) (.int .i64 (-1 - (n : Int))))) := hrow
   have hzw := hkp.size
   clear hkp hN hA hL hb HXL
   go_wp2_with (first
    | (at_builtin; refine qah (by rfl) _ _ 25 25 (by rfl) _ _ (by rfl) (by rfl) (H1 _ ?_ _ ?_) ?_; (focus (exact qab (T := fun _ => False) hrow (Keep.new (by exact bel2)) (fun _ _ h => h))); (focus exact blk2); rintro v1 w1 ⟨g1, k1, rfl, R1⟩; have hB1 : Keep (fun b => (Value.slice al k cl).ownBlock = some b) wr w1 := (Keep.new (by exact bel2)).trans R1.keep)
    | (at_builtin; refine qah (by rfl) _ _ 25 25 (by rfl) _ _ (by rfl) (by rfl) (H2 _ ?_ _ ?_) ?_; (focus (exact qab (T := fun _ => False) R1.row (Keep.new (by exact bel2)) (fun _ _ h => h))); (focus exact blk2); rintro v2 w2 ⟨g2, k2, rfl, R2⟩; have hB2 : Keep (fun b => (Value.slice al k cl).ownBlock = some b) wr w2 := (hB1.alloc _).trans R2.keep)
    | (at_builtin; refine qah (by rfl) _ _ 25 25 (by rfl) _ _ (by rfl) (by rfl) (H3 _ ?_ _ ?_) ?_; (focus (exact qab (T := fun _ => False) R2.row (Keep.new (by exact bel2)) (fun _ _ h => h))); (focus exact blk2); rintro v3 w3 ⟨g3, k3, rfl, R3⟩; have hB3 : Keep (fun b => (Value.slice al k cl).ownBlock = some b) wr w3 := (hB2.alloc _).trans R3.keep; have b3 := hb0.keep hB3 hlw; have c31 := b3.cell 1; have hlt3 := b3.lt; simp only [List.getElem?_toArray, List.getElem?_cons_zero, List.getElem?_cons_succ] at c31; have hN3 := qab hN0 hB3 (fun g hg e => hlN g e hg); have hA3 := qab hA0 hB3 (fun g hg e => hlA g e hg))
    | (at_builtin; refine qah (by rfl) _ _ 80 80 (by rfl) _ _ (by rfl) (by rfl) (HNN _ ?_ _ g1 k1 g2 k2 g3 k3 ?_) ?_; (focus (exact qab (T := fun _ => False) hN3 (Keep.new (by exact bel2)) (fun _ _ h => h))); (focus exact blk2); rintro vN wN ⟨gN, kN, rfl, RN⟩; have bN := (b3.alloc _).keep RN.keep hne1; have cN1 := bN.cell 1; have fN1 := bN.frozen 1; have cN3 := bN.cell 3; have fN3 := bN.frozen 3; have hltN := bN.lt; simp only [List.getElem?_toArray, List.getElem?_cons_zero, List.getElem?_cons_succ] at cN1 cN3))
   have bS := bN.set 1 (.slice (some ⟨gN, 0, none⟩) (n + 4) kN)
   simp only [List.setIfInBounds_toArray, List.set_cons_zero, List.set_cons_succ] at bS
   have hAS : (wN.setCell ⟨bw, 1, none⟩ (.slice (some ⟨gN, 0, none⟩) (n + 4) kN)).ownsRow 0 3 1 (.slice aA n cA) n (ints ms) := by
    refine qab (T := fun b => b = bw \/ (Value.slice aN n cN).ownBlock = some b) hA3 ?_ ?_
    ·exact ((Keep.trans (T := fun b => b = bw \/ (Value.slice aN n cN).ownBlock = some b) (Keep.alloc (Keep.refl _ _) _) (RN.keep.mono (fun b hb => Or.inr hb))).setCell (p := ⟨bw, 1, none⟩) (Or.inl rfl) _)
    ·rintro g hg (rfl | h)
     ·exact hne2 hg
     ·exact hne3 g h hg
   obtain ⟨WS, hWS⟩ : ∃ WS, WS = wN.setCell ⟨bw, 1, none⟩ (.slice (some ⟨gN, 0, none⟩) (n + 4) kN) := ⟨_, rfl⟩
   have hsz : WS.heap.size = wN.heap.size := by rw [hWS]; simp
   rw [<- hWS] at bS hAS ⊢
   have HS : Hid (WS = wN.setCell ⟨bw, 1, none⟩ (.slice (some ⟨gN, 0, none⟩) (n + 4) kN)) := hWS
   have HSZ : Hid (WS.heap.size = wN.heap.size) := hsz
   clear hWS hsz cN1 cN3 fN1 fN3 H1 H2 H3 HNN c10 c30 c31
   have cS3 := bS.cell 3
   have hltS := bS.lt
   simp only [List.getElem?_toArray, List.getElem?_cons_zero, List.getElem?_cons_succ] at cS3
   go_region_law (refine qau rfl (.tmp 59) (.tmp 64) 25 25 rfl _ _ ?_ ?_ (HA _ ?_ ?_ ?_) ?_; (focus (simp [Act.eval, Act.put])); (focus ((try simp [Act.eval, Act.put]); (try rfl))); (focus (exact qab (T := fun _ => False) hAS (Keep.new (by exact bel2)) (fun _ _ h => h))); (focus exact blk2); rintro vA wA ⟨gA, kA, rfl, RA⟩; have bA := Blk.keep (show Blk _ bw 84 #[slT, .slice (some ⟨gN, 0, none⟩) (n + 4) kN, slE, .slice aA n cA, slB] by exact blk2) RA.keep hne2; have cA3 := bA.cell 3; have fA3 := bA.frozen 3; simp only [List.getElem?_toArray, List.getElem?_cons_zero, List.getElem?_cons_succ] at cA3)
   all_goals go_wp2
   all_goals go_end0
   all_goals refine ⟨rfl, wr, w1, w2, w3, wN, wA, _, _, _, _, _, g1, k1, g2, k2, g3, k3, gN, kN, gA, kA, ⟨HK0.out, HR0.out, ?_, R1, ?_, R2, ?_, R3, ?_, RN, ?_, RA, rfl⟩⟩
   all_goals first | (rw [<- HS.out, <- HSZ.out]; exact bel2; done) | (exact bel2; done)
theorem qdv.keep {T : Nat -> Prop} {W W' : World} {c : Nat} {v : Value} {m : Int} (h : qdv W c v m) (hk : Keep T W W') (hT : ∀ g, v.ownBlock = some g -> ¬ T g) : qdv W' c v m := by
 rcases h with rfl | ⟨b, len, cap, rfl, h1, h2, h3, h4, h5⟩
 ·exact .inl rfl
 ·exact .inr ⟨b, len, cap, rfl, h1, h2, h3, Nat.lt_of_lt_of_le h4 hk.size, fun j hj => (hk.cell (p := ⟨b, j, none⟩) h4 (hT b rfl)).trans (h5 j hj)⟩
theorem qdv.stay {W W' : World} {c : Nat} {v : Value} {m : Int} (h : qdv W c v m) (hz : W.heap.size <= W'.heap.size) (hs : ∀ b j, b < W.heap.size -> W.cell? ⟨b, j, none⟩ = some (.int .i64 m) -> W'.cell? ⟨b, j, none⟩ = some (.int .i64 m)) : qdv W' c v m := by
 rcases h with rfl | ⟨b, len, cap, rfl, h1, h2, h3, h4, h5⟩
 ·exact .inl rfl
 ·exact .inr ⟨b, len, cap, rfl, h1, h2, h3, Nat.lt_of_lt_of_le h4 hz, fun j hj => hs b j h4 (h5 j hj)⟩
theorem qdz.keep {T : Nat -> Prop} {W W' : World} {c : Nat} {tl : TypeId} {sl slm : Value} {ns : List Value} {ms : List Int} (h : qdz W c tl sl slm ns ms) (hk : Keep T W W')
  (h1 : ∀ g, sl.ownBlock = some g -> ¬ T g) (h2 : ∀ g, slm.ownBlock = some g -> ¬ T g) (h3 : ∀ v ∈ ns, ∀ g, v.ownBlock = some g -> ¬ T g) : qdz W' c tl sl slm ns ms :=
 ⟨qab h.row hk h1, qab h.mrow hk h2, h.len, fun i v m hv hm => (h.ok i v m hv hm).keep hk (h3 v (List.mem_of_getElem? hv))⟩
theorem qhm {w' : World} {e : TypeId} {c k : Nat} {l : Value} {m : Int} (h : w'.ownsRow 0 e c l k (List.replicate (k * c) (.int .i64 m))) (hk : k <= 1000) : qdv w' c l m := by
 rcases h.2 with ⟨rfl, _⟩ | ⟨g, cap, cur, rfl, _, hg, h1, h2, _⟩
 ·exact .inl rfl
 ·refine .inr ⟨g, k, cap, rfl, hk, h1, h2, (Array.getElem?_eq_some_iff.1 hg).1, fun j hj => ?_⟩
  have := h.cells (g := g) rfl j (.int .i64 m) (by rw [List.getElem?_replicate, if_pos hj])
  rwa [Addr.add_lit, Nat.zero_add] at this
structure OwnQ (W : World) (bw f1 f3 : Nat) (lt : TypeId) (c : Nat) (vs : Array Value) (slN slA : Value) (ns : List Value) (ms : List Int) (l : Value) (m : Int) (H3 g1 g2 g3 gN gA : Nat) (sN sA s1 s2 s3 : Value) (w' : World) : Prop where
 keep : Keep (fun b => b = bw \/ slN.ownBlock = some b \/ slA.ownBlock = some b \/ l.ownBlock = some b) W w'
 marked : qdz w' c lt sN sA (ns ++ [l, s1, s2, s3]) (ms ++ [m, m, m, m])
 blk : Blk w' bw 84 ((vs.setIfInBounds f1 sN).setIfInBounds f3 sA)
 h3 : W.heap.size <= H3
 o1 : s1.ownBlock = some g1 /\ g1 < H3 /\ (l.ownBlock = some g1 \/ W.heap.size <= g1)
 o2 : s2.ownBlock = some g2 /\ g2 < H3 /\ (l.ownBlock = some g2 \/ W.heap.size <= g2)
 o3 : s3.ownBlock = some g3 /\ g3 < H3 /\ (l.ownBlock = some g3 \/ W.heap.size <= g3)
 oN : sN.ownBlock = some gN /\ (slN.ownBlock = some gN \/ H3 <= gN)
 oA : sA.ownBlock = some gA /\ (slA.ownBlock = some gA \/ (H3 <= gA /\ gN < gA))
theorem qjs {W : World} {bw f1 f3 : Nat} {el lt : TypeId} {c : Nat} {vs : Array Value} {slN slA : Value} {ns : List Value} {ms : List Int} {l : Value} {k0 : Nat} {m : Int}
  {U0 w1 w2 w3 wN wA U1 U2 U3 U4 U5 : World} {g1 k1 g2 k2 g3 k3 gN kN gA kA : Nat} {w' : World}
  (hb : Blk W bw 84 vs) (hM : qdz W c lt slN slA ns ms) (hk0 : k0 <= 990) {xs : List Value} (hl0 : W.ownsRow 0 el c l k0 xs)
  (hne1 : slN.ownBlock ≠ some bw) (hne2 : slA.ownBlock ≠ some bw) (hne3 : ∀ g, slN.ownBlock = some g -> slA.ownBlock ≠ some g)
  (hlw : l.ownBlock ≠ some bw) (hlN : ∀ g, l.ownBlock = some g -> slN.ownBlock ≠ some g) (hlA : ∀ g, l.ownBlock = some g -> slA.ownBlock ≠ some g)
  (hL : ∀ v ∈ ns, ∀ g, v.ownBlock = some g -> g ≠ bw /\ slN.ownBlock ≠ some g /\ slA.ownBlock ≠ some g /\ l.ownBlock ≠ some g)
  (h : OwnP W bw f1 f3 el lt c vs slN slA ns ms l k0 m ns.length U0 w1 w2 w3 wN wA U1 U2 U3 U4 U5 g1 k1 g2 k2 g3 k3 gN kN gA kA w') :
  OwnQ W bw f1 f3 lt c vs slN slA ns ms l m w3.heap.size g1 g2 g3 gN gA (.slice (some ⟨gN, 0, none⟩) (ns.length + 4) kN) (.slice (some ⟨gA, 0, none⟩) (ns.length + 4) kA) (.slice (some ⟨g1, 0, none⟩) (k0 + 1) k1) (.slice (some ⟨g2, 0, none⟩) (k0 + 2) k2) (.slice (some ⟨g3, 0, none⟩) (k0 + 3) k3) w' := by
 obtain ⟨T, hT⟩ : ∃ T : Nat -> Prop, T = fun b => b = bw \/ slN.ownBlock = some b \/ slA.ownBlock = some b \/ l.ownBlock = some b := ⟨_, rfl⟩
 obtain ⟨T3, hT3⟩ : ∃ T3 : Nat -> Prop, T3 = fun b => b = bw \/ slN.ownBlock = some b \/ slA.ownBlock = some b := ⟨_, rfl⟩
 have hTlt : ∀ b, T3 b -> b < W.heap.size := fun b hb' => by
  rw [hT3] at hb'
  rcases hb' with rfl | h1 | h1
  ·exact hb.lt
  ·exact qal hM.row h1
  ·exact qal hM.mrow h1
 have z0 := h.kp0.size
 have z1 := h.u1.size
 have z2 := h.u2.size
 have z3 := h.u3.size
 have z4 := h.u4.size
 have y1 := h.a1.keep.size
 have y2 := h.a2.keep.size
 have y3 := h.a3.keep.size
 have yN := h.aN.keep.size
 have z5 : wN.heap.size <= U5.heap.size := by have := h.u5.size; simpa using this
 have hgN : gN < wN.heap.size := qal h.aN.own rfl
 have q1 : g1 < w1.heap.size := qal h.a1.own rfl
 have q2 : g2 < w2.heap.size := qal h.a2.own rfl
 have q3 : g3 < w3.heap.size := qal h.a3.own rfl
 have hlT : ∀ g, l.ownBlock = some g -> ¬ T3 g := fun g hg e => by
  rw [hT3] at e
  rcases e with e | e | e
  ·exact hlw (by rw [hg, e])
  ·exact hlN g hg e
  ·exact hlA g hg e
 have hkp : ∀ {T' : Nat -> Prop}, (∀ b, l.ownBlock = some b -> T' b) -> Keep T' W w3 := fun {T'} ht =>
  ((((((h.kp0.mono ht).trans (Keep.new h.u1)).trans (h.a1.keep.mono ht)).trans (Keep.new h.u2)).trans (h.a2.keep.mono ht)).trans (Keep.new h.u3)).trans (h.a3.keep.mono ht)
 have kA' : Keep T3 wA w' := by rw [h.end_]; exact (Keep.refl _ _).setCell (p := ⟨bw, f3, none⟩) (by rw [hT3]; exact Or.inl rfl) _
 have k5 : Keep T3 U5 wA := h.aA.keep.mono (fun b hb' => by rw [hT3]; exact Or.inr (Or.inr hb'))
 have k45 : Keep T3 wN U5 := by
  have e1 : Keep T3 wN (wN.setCell ⟨bw, f1, none⟩ (.slice (some ⟨gN, 0, none⟩) (ns.length + 4) kN)) := (Keep.refl _ _).setCell (p := ⟨bw, f1, none⟩) (by rw [hT3]; exact Or.inl rfl) _
  have e2 : Keep T3 (wN.setCell ⟨bw, f1, none⟩ (.slice (some ⟨gN, 0, none⟩) (ns.length + 4) kN)) U5 := Keep.new (by have := h.u5; simpa using this)
  exact e1.trans e2
 have k4 : Keep T3 U4 wN := h.aN.keep.mono (fun b hb' => by rw [hT3]; exact Or.inr (Or.inl hb'))
 have k3' : Keep T3 w3 w' := ((((Keep.new h.u4 : Keep T3 w3 U4).trans k4).trans k45).trans k5).trans kA'
 have hTT : ∀ b, T3 b -> T b := fun b e => by rw [hT3] at e; rw [hT]; rcases e with e | e | e; exact .inl e; exact .inr (.inl e); exact .inr (.inr (.inl e))
 have k0' : Keep T W w' := (hkp (T' := T) (fun b e => by rw [hT]; exact .inr (.inr (.inr e)))).trans (k3'.mono hTT)
 have hTg : ∀ g, (l.ownBlock = some g \/ W.heap.size <= g) -> ¬ T3 g := fun g hg ht => by
  rcases hg with hg | hg
  ·exact hlT g hg ht
  ·have := hTlt g ht; omega
 have n1 : l.ownBlock = some g1 \/ W.heap.size <= g1 := h.a1.new.imp id (fun e => by omega)
 have n2 : l.ownBlock = some g2 \/ W.heap.size <= g2 := h.a2.new.imp id (fun e => by omega)
 have n3 : l.ownBlock = some g3 \/ W.heap.size <= g3 := h.a3.new.imp id (fun e => by omega)
 have hlt3 : ∀ g, l.ownBlock = some g -> g < w3.heap.size := fun g hg => qal h.a3.row hg
 have l0 : qdv w3 c l m := qhm h.a3.row (by omega)
 have st2 : ∀ b j, b < w1.heap.size -> w1.cell? ⟨b, j, none⟩ = some (.int .i64 m) -> w2.cell? ⟨b, j, none⟩ = some (.int .i64 m) := fun b j hb hc => h.a2.stay b j ((h.u2.cell (p := ⟨b, j, none⟩) hb).trans hc)
 have st3 : ∀ b j, b < w2.heap.size -> w2.cell? ⟨b, j, none⟩ = some (.int .i64 m) -> w3.cell? ⟨b, j, none⟩ = some (.int .i64 m) := fun b j hb hc => h.a3.stay b j ((h.u3.cell (p := ⟨b, j, none⟩) hb).trans hc)
 have l1 : qdv w3 c (.slice (some ⟨g1, 0, none⟩) (k0 + 1) k1) m := ((qhm h.a1.own (by omega)).stay (by omega) st2).stay (by omega) st3
 have l2 : qdv w3 c (.slice (some ⟨g2, 0, none⟩) (k0 + 2) k2) m := (qhm h.a2.own (by omega)).stay (by omega) st3
 have l3 : qdv w3 c (.slice (some ⟨g3, 0, none⟩) (k0 + 3) k3) m := qhm h.a3.own (by omega)
 have hNT : gN ≠ bw /\ slA.ownBlock ≠ some gN := by
  rcases h.aN.new with e | e
  ·exact ⟨fun e2 => hne1 (by rw [e, e2]), hne3 gN e⟩
  ·refine ⟨fun e2 => ?_, fun e2 => ?_⟩
   ·have := hb.lt; omega
   ·have := qal hM.mrow e2; omega
 have hAT : gA ≠ bw := by
  rcases h.aA.new with e | e
  ·exact fun e2 => hne2 (by rw [e, e2])
  ·intro e2; have := hb.lt; omega
 have hlen := hM.len
 refine ⟨by rw [<- hT]; exact k0', ⟨?_, ?_, ?_, ?_⟩, ?_, by omega, ⟨rfl, by omega, n1⟩, ⟨rfl, by omega, n2⟩, ⟨rfl, by omega, n3⟩, ⟨rfl, ?_⟩, ⟨rfl, ?_⟩⟩
 ·-- the row of lists
  rw [show (ns ++ [l, (.slice (some ⟨g1, 0, none⟩) (k0 + 1) k1 : Value), .slice (some ⟨g2, 0, none⟩) (k0 + 2) k2, .slice (some ⟨g3, 0, none⟩) (k0 + 3) k3]).length = ns.length + 4 by simp]
  have kk : Keep (fun b => b = bw \/ slA.ownBlock = some b) wN w' := by
   have e1 : Keep (fun b => b = bw \/ slA.ownBlock = some b) wN (wN.setCell ⟨bw, f1, none⟩ (.slice (some ⟨gN, 0, none⟩) (ns.length + 4) kN)) := (Keep.refl _ _).setCell (p := ⟨bw, f1, none⟩) (Or.inl rfl) _
   have e2 : Keep (fun b => b = bw \/ slA.ownBlock = some b) (wN.setCell ⟨bw, f1, none⟩ (.slice (some ⟨gN, 0, none⟩) (ns.length + 4) kN)) U5 := Keep.new (by have := h.u5; simpa using this)
   have e3 : Keep (fun b => b = bw \/ slA.ownBlock = some b) U5 wA := h.aA.keep.mono (fun b hb' => Or.inr hb')
   have e4 : Keep (fun b => b = bw \/ slA.ownBlock = some b) wA w' := by rw [h.end_]; exact (Keep.refl _ _).setCell (p := ⟨bw, f3, none⟩) (Or.inl rfl) _
   exact ((e1.trans e2).trans e3).trans e4
  exact qab h.aN.own kk (fun g hg => by simp [Value.ownBlock] at hg; subst hg; rintro (e | e); exact hNT.1 e; exact hNT.2 e)
 ·rw [show (ms ++ [m, m, m, m]).length = ns.length + 4 by simp [hlen]]
  rw [show ints (ms ++ [m, m, m, m]) = ints ms ++ [.int .i64 m, .int .i64 m, .int .i64 m, .int .i64 m] by simp [ints]]
  have e4 : Keep (fun b => b = bw) wA w' := by rw [h.end_]; exact (Keep.refl (fun b => b = bw) _).setCell (p := ⟨bw, f3, none⟩) rfl _
  exact qab h.aA.own e4 (fun g hg => by simp [Value.ownBlock] at hg; subst hg; exact hAT)
 ·simp [hlen]
 ·intro i v m' hv hm'
  rcases Nat.lt_or_ge i ns.length with hi | hi
  ·rw [List.getElem?_append_left hi] at hv
   rw [List.getElem?_append_left (by omega)] at hm'
   exact (hM.ok i v m' hv hm').keep k0' (fun g hg => by
    obtain ⟨a1, a2, a3, a4⟩ := hL v (List.mem_of_getElem? hv) g hg
    rw [hT]; rintro (e | e | e | e)
    ·exact a1 e
    ·exact a2 e
    ·exact a3 e
    ·exact a4 e)
  ·rw [List.getElem?_append_right hi] at hv
   rw [List.getElem?_append_right (by omega)] at hm'
   rw [<- hlen] at hm'
   generalize i - ns.length = q at hv hm'
   match q, hv, hm' with
   | 0, hv, hm' => simp at hv hm'; subst hv hm'; exact l0.keep k3' (fun g hg => hTg g (.inl hg))
   | 1, hv, hm' => simp at hv hm'; subst hv hm'; exact l1.keep k3' (fun g hg => by simp [Value.ownBlock] at hg; subst hg; exact hTg _ n1)
   | 2, hv, hm' => simp at hv hm'; subst hv hm'; exact l2.keep k3' (fun g hg => by simp [Value.ownBlock] at hg; subst hg; exact hTg _ n2)
   | 3, hv, hm' => simp at hv hm'; subst hv hm'; exact l3.keep k3' (fun g hg => by simp [Value.ownBlock] at hg; subst hg; exact hTg _ n3)
   | q + 4, hv, hm' => simp at hv
 ·-- the block
  have e0 : Blk wN bw 84 vs := by
   have kk : Keep (fun b => l.ownBlock = some b \/ slN.ownBlock = some b) W wN := ((hkp (fun b e => .inl e)).trans (Keep.new h.u4)).trans (h.aN.keep.mono (fun b e => .inr e))
   exact hb.keep kk (fun e => by rcases e with e | e; exact hlw e; exact hne1 e)
  have e1 := e0.set f1 (.slice (some ⟨gN, 0, none⟩) (ns.length + 4) kN)
  have e2 : Blk U5 bw 84 _ := e1.keep (T := fun _ => False) (Keep.new (by have := h.u5; simpa using this)) (fun h => h)
  have e3 := e2.keep h.aA.keep hne2
  rw [h.end_]
  exact e3.set f3 _
 ·rcases h.aN.new with e | e
  ·exact .inl e
  ·exact .inr (by omega)
 ·rcases h.aA.new with e | e
  ·exact .inl e
  ·exact .inr ⟨by omega, by omega⟩
end Go.Proofs.YtphclnolomgjoaaGreatDoor
