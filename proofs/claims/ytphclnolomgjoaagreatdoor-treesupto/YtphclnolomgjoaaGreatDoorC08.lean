import Derived.Test.YtphclnolomgjoaaGreatDoorC06
import Derived.Test.YtphclnolomgjoaaGreatDoorC07
import Derived.Test.YtphclnolomgjoaaGreatDoorC05
set_option linter.unusedVariables false
set_option linter.unusedSimpArgs false
namespace Go.Proofs.YtphclnolomgjoaaGreatDoor
open Go.RowKit
set_option maxRecDepth 100000 in
set_option maxHeartbeats 2000000 in
theorem qir {W : World} {bw : Nat} {slT slN slE slA slB : Value} (hb : Blk W bw 84 #[slT, slN, slE, slA, slB]) {ns : List Value} {ms : List Int} (hN : W.ownsRow 0 48 1 slE ns.length ns) (hA : W.ownsRow 0 3 1 slB ns.length (ints ms))
  (hl : ns.length <= 1000000000) (hne1 : slE.ownBlock ≠ some bw) (hne2 : slB.ownBlock ≠ some bw) (hne3 : ∀ g, slE.ownBlock = some g -> slB.ownBlock ≠ some g)
  {al : Option Addr} {k0 cl : Nat} {xs : List Value} (hL : W.ownsRow 0 60 2 (.slice al k0 cl) k0 xs) (hk0 : k0 <= 990) (hlw : (Value.slice al k0 cl).ownBlock ≠ some bw) (hlN : ∀ g, (Value.slice al k0 cl).ownBlock = some g -> slE.ownBlock ≠ some g) (hlA : ∀ g, (Value.slice al k0 cl).ownBlock = some g -> slB.ownBlock ≠ some g) :
  Calls Tryz.prog 111 #[.pointer (some ⟨bw, 0, none⟩), .slice al k0 cl] W fun e w' => e = .returned (.tuple #[]) /\ ∃ U0 w1 w2 w3 wN wA U1 U2 U3 U4 U5 g1 k1 g2 k2 g3 k3 gN kN gA kA,
   OwnP W bw 2 4 60 48 2 #[slT, slN, slE, slA, slB] slE slB ns ms (.slice al k0 cl) k0 (-1 - (ns.length : Int)) ns.length U0 w1 w2 w3 wN wA U1 U2 U3 U4 U5 g1 k1 g2 k2 g3 k3 gN kN gA kA w' := by
 obtain ⟨aA, cA, rfl, a1, a2, _⟩ := qdr hA
 obtain ⟨aN, cN, rfl, n1, n2, _⟩ := qdr hN
 obtain ⟨n, hn⟩ : ∃ n, n = ns.length := ⟨_, rfl⟩
 rw [<- hn] at hb hN hA hl a1 n1 hne1 hne2 hne3 hlN hlA ⊢
 have c1 := hb.cell 2
 have c3 := hb.cell 4
 simp only [List.getElem?_toArray, List.getElem?_cons_zero, List.getElem?_cons_succ] at c1 c3
 have hlt := hb.lt
 have hlk : k0 <= cl /\ cl <= maxLen := by
  rcases hL.2 with ⟨h, h0⟩ | ⟨g, cap, cur, h, _, _, h2, h3, _⟩
  ·cases h; exact ⟨Nat.le_refl _, Nat.zero_le _⟩
  ·cases h; exact ⟨h2, h3⟩
 obtain ⟨hlk, hlc⟩ := hlk
 have HA := fun W' (h : W'.ownsRow 0 3 1 (.slice aA n cA) n (ints ms)) nb (hnb : Blk W' nb 3 #[.int .i64 (-1 - (n : Int)), .int .i64 (-1 - (n : Int)), .int .i64 (-1 - (n : Int)), .int .i64 (-1 - (n : Int))]) =>
  qby un29 inf3 (by omega) W' _ n (ints ms) h nb 4 4 (by omega) [.int .i64 (-1 - (n : Int)), .int .i64 (-1 - (n : Int)), .int .i64 (-1 - (n : Int)), .int .i64 (-1 - (n : Int))] rfl hnb (by intro u hu; simp at hu; subst hu; rfl) (by unfold maxLen; omega) (by omega)
 have H1 := fun W' (h : W'.ownsRow 0 60 2 (.slice al k0 cl) k0 (List.replicate (k0 * 2) (.int .i64 (-1 - (n : Int))))) nb (hnb : Blk W' nb 60 #[.int .i64 (-1 - (n : Int)), .int .i64 (-1 - (n : Int))]) =>
  qfi un46 qm7 (by omega) W' (.slice al k0 cl) k0 (-1 - (n : Int)) h nb 1 1 (by omega) (by simpa using hnb) (by unfold maxLen; omega) (by omega)
 have H2 := fun W' (h : W'.ownsRow 0 60 2 (.slice al k0 cl) k0 (List.replicate (k0 * 2) (.int .i64 (-1 - (n : Int))))) nb (hnb : Blk W' nb 60 #[.int .i64 (-1 - (n : Int)), .int .i64 (-1 - (n : Int)), .int .i64 (-1 - (n : Int)), .int .i64 (-1 - (n : Int))]) =>
  qfi un46 qm7 (by omega) W' (.slice al k0 cl) k0 (-1 - (n : Int)) h nb 2 2 (by omega) (by simpa using hnb) (by unfold maxLen; omega) (by omega)
 have H3 := fun W' (h : W'.ownsRow 0 60 2 (.slice al k0 cl) k0 (List.replicate (k0 * 2) (.int .i64 (-1 - (n : Int))))) nb (hnb : Blk W' nb 60 #[.int .i64 (-1 - (n : Int)), .int .i64 (-1 - (n : Int)), .int .i64 (-1 - (n : Int)), .int .i64 (-1 - (n : Int)), .int .i64 (-1 - (n : Int)), .int .i64 (-1 - (n : Int))]) =>
  qfi un46 qm7 (by omega) W' (.slice al k0 cl) k0 (-1 - (n : Int)) h nb 3 3 (by omega) (by simpa using hnb) (by unfold maxLen; omega) (by omega)
 have HNN := fun W' (h : W'.ownsRow 0 48 1 (.slice aN n cN) n ns) nb (g1 k1 g2 k2 g3 k3 : Nat) (hnb : Blk W' nb 48 #[.slice al k0 cl, .slice (some ⟨g1, 0, none⟩) (k0 + 1) k1, .slice (some ⟨g2, 0, none⟩) (k0 + 2) k2, .slice (some ⟨g3, 0, none⟩) (k0 + 3) k3]) =>
  qby un28 qxd (by omega) W' _ n ns h nb 4 4 (by omega) [.slice al k0 cl, .slice (some ⟨g1, 0, none⟩) (k0 + 1) k1, .slice (some ⟨g2, 0, none⟩) (k0 + 2) k2, .slice (some ⟨g3, 0, none⟩) (k0 + 3) k3] rfl hnb (by intro u hu; simp at hu; rcases hu with rfl | rfl | rfl | rfl <;> rfl) (by unfold maxLen; omega) (by omega)
 clear hn
 have HXL : Hid (xs.length = k0 * 2) := hL.1
 have b0 : Blk (W.alloc (.cells #[.int .i64 (-1 - (n : Int)), .int .i64 (-1 - (n : Int))] 60)) W.heap.size 60 #[.int .i64 (-1 - (n : Int)), .int .i64 (-1 - (n : Int))] := Blk.new W 60 _
 go_enter Tryz.func111, Tryz.ntmps111
 go_wp2
 go_loopw [6] (fun i wr => ∃ k : Nat, k <= k0 /\ i = .int .i64 k /\ wr.ownsRow 0 60 2 (.slice al k0 cl) k0 (List.replicate (k * 2) (.int .i64 (-1 - (n : Int))) ++ xs.drop (k * 2)) /\ Keep (fun b => (Value.slice al k0 cl).ownBlock = some b) W wr /\ Blk wr W.heap.size 60 #[.int .i64 (-1 - (n : Int)), .int .i64 (-1 - (n : Int))]) (fun i _ => k0 - (intOf i).toNat)
 case atStart => exact ⟨0, Nat.zero_le _, rfl, by simpa using hL.alloc _, (Keep.refl _ _).alloc _, b0⟩
 case round =>
  obtain ⟨k, hk, rfl, hrow, hkp, bx⟩ := hrel
  have x0 := bx.cell 0
  have x1 := bx.cell 1
  have xl := bx.lt
  simp only [List.getElem?_toArray, List.getElem?_cons_zero, List.getElem?_cons_succ] at x0 x1
  by_cases hlt2 : k < k0
  ·obtain ⟨gl, cl', hal, _⟩ := qat hL (by omega)
   cases hal
   have hlb : gl < W.heap.size := qal hL rfl
   have hfz := hrow.frozenAt (k * 2)
   have hfz1 := hrow.frozenAt (k * 2 + 1)
   have hcl := hrow.cellAt (k * 2) (by omega)
   have hcl1 := hrow.cellAt (k * 2 + 1) (by omega)
   have hlt4 : gl < wr.heap.size := qal hrow rfl
   obtain ⟨s1, t1⟩ := hrow.stored (k * 2) (.int .i64 (-1 - (n : Int)))
   obtain ⟨s2, t2⟩ := s1.stored (k * 2 + 1) (.int .i64 (-1 - (n : Int)))
   rw [qki HXL.out (by omega)] at s2
   rw [qki HXL.out (by omega)] at s2
   have hkp2 := (hkp.grown t1 (fun b hb => by simp [Value.ownBlock] at hb ⊢; exact hb)).grown t2 (fun b hb => by simp [Value.ownBlock] at hb ⊢; exact hb)
   have bx2 := (bx.other ⟨gl, k * 2, none⟩ (.int .i64 (-1 - (n : Int))) (by simp; omega)).other ⟨gl, k * 2 + 1, none⟩ (.int .i64 (-1 - (n : Int))) (by simp; omega)
   obtain ⟨u, hu⟩ : ∃ u, (List.replicate (k * 2) (.int .i64 (-1 - (n : Int))) ++ xs.drop (k * 2))[k * 2]? = some u := ⟨_, List.getElem?_eq_getElem (by have := HXL.out; simp; omega)⟩
   obtain ⟨u1, hu1⟩ : ∃ u, (List.replicate (k * 2) (.int .i64 (-1 - (n : Int))) ++ xs.drop (k * 2))[k * 2 + 1]? = some u := ⟨_, List.getElem?_eq_getElem (by have := HXL.out; simp; omega)⟩
   rw [hu] at hcl
   rw [hu1] at hcl1
   have HF : Hid (∃ k' : Nat, k' <= k0 /\ (Value.int .i64 ((k : Int) + 1)) = .int .i64 k' /\ World.ownsRow ((wr.setCell ⟨gl, k * 2, none⟩ (.int .i64 (-1 - (n : Int)))).setCell ⟨gl, k * 2 + 1, none⟩ (.int .i64 (-1 - (n : Int)))) 0 60 2 (.slice (some ⟨gl, 0, none⟩) k0 cl) k0 (List.replicate (k' * 2) (.int .i64 (-1 - (n : Int))) ++ xs.drop (k' * 2)) /\ Keep (fun b => (Value.slice (some ⟨gl, 0, none⟩) k0 cl).ownBlock = some b) W ((wr.setCell ⟨gl, k * 2, none⟩ (.int .i64 (-1 - (n : Int)))).setCell ⟨gl, k * 2 + 1, none⟩ (.int .i64 (-1 - (n : Int)))) /\ Blk ((wr.setCell ⟨gl, k * 2, none⟩ (.int .i64 (-1 - (n : Int)))).setCell ⟨gl, k * 2 + 1, none⟩ (.int .i64 (-1 - (n : Int)))) W.heap.size 60 #[.int .i64 (-1 - (n : Int)), .int .i64 (-1 - (n : Int))]) := ⟨k + 1, by omega, by simp, by rw [show (k + 1) * 2 = k * 2 + 1 + 1 by omega]; exact s2, hkp2, bx2⟩
   clear hrow s1 s2 t1 t2 hkp hkp2 bx bx2 H1 H2 H3 HA HNN
   go_wp2
   exact ⟨HF.out, by simp [intOf]; omega⟩
  ·obtain rfl : k = k0 := by omega
   rw [List.drop_of_length_le (by have := HXL.out; omega), List.append_nil] at hrow
   have hb0 := hb.keep hkp hlw
   have hN0 := qab hN hkp (fun g hg e => hlN g e hg)
   have hA0 := qab hA hkp (fun g hg e => hlA g e hg)
   have c10 := hb0.cell 2
   have c30 := hb0.cell 4
   have hlt0 := hb0.lt
   simp only [List.getElem?_toArray, List.getElem?_cons_zero, List.getElem?_cons_succ] at c10 c30
   clear c1 c3 hlt
   have HK0 : Hid (Keep (fun b => (Value.slice al k cl).ownBlock = some b) W wr) := hkp
   have HR0 : Hid (wr.ownsRow 0 60 2 (.slice al k cl) k (List.replicate (k * 2) (.int .i64 (-1 - (n : Int))))) := hrow
   have hzw := hkp.size
   have hxb : (Value.slice al k cl).ownBlock ≠ some W.heap.size := fun e => by have := qal hL e; omega
   clear hkp hN hA hL hb HXL
   go_wp2_with (first
    | (at_builtin; refine qah (by rfl) _ _ 48 48 (by rfl) _ _ (by rfl) (by rfl) (H1 _ ?_ _ ?_) ?_; (focus (exact qab (T := fun _ => False) hrow (Keep.new (by exact bel2)) (fun _ _ h => h))); (focus exact blk2); rintro v1 w1 ⟨g1, k1, rfl, R1⟩; have hB1 : Keep (fun b => (Value.slice al k cl).ownBlock = some b) wr w1 := (Keep.new (by exact bel2)).trans R1.keep; have d1 := bx.keep hB1 hxb; have e10 := d1.cell 0; have e11 := d1.cell 1; have el1 := d1.lt; simp only [List.getElem?_toArray, List.getElem?_cons_zero, List.getElem?_cons_succ] at e10 e11)
    | (at_builtin; refine qah (by rfl) _ _ 48 48 (by rfl) _ _ (by rfl) (by rfl) (H2 _ ?_ _ ?_) ?_; (focus (exact qab (T := fun _ => False) R1.row (Keep.new (by exact bel2)) (fun _ _ h => h))); (focus exact blk2); rintro v2 w2 ⟨g2, k2, rfl, R2⟩; have hB2 : Keep (fun b => (Value.slice al k cl).ownBlock = some b) wr w2 := (hB1.alloc _).trans R2.keep; have d2 := bx.keep hB2 hxb; have e20 := d2.cell 0; have e21 := d2.cell 1; have el2 := d2.lt; simp only [List.getElem?_toArray, List.getElem?_cons_zero, List.getElem?_cons_succ] at e20 e21)
    | (at_builtin; refine qah (by rfl) _ _ 48 48 (by rfl) _ _ (by rfl) (by rfl) (H3 _ ?_ _ ?_) ?_; (focus (exact qab (T := fun _ => False) R2.row (Keep.new (by exact bel2)) (fun _ _ h => h))); (focus exact blk2); rintro v3 w3 ⟨g3, k3, rfl, R3⟩; have hB3 : Keep (fun b => (Value.slice al k cl).ownBlock = some b) wr w3 := (hB2.alloc _).trans R3.keep; have b3 := hb0.keep hB3 hlw; have c31 := b3.cell 2; have hlt3 := b3.lt; simp only [List.getElem?_toArray, List.getElem?_cons_zero, List.getElem?_cons_succ] at c31; have hN3 := qab hN0 hB3 (fun g hg e => hlN g e hg); have hA3 := qab hA0 hB3 (fun g hg e => hlA g e hg))
    | (at_builtin; refine qah (by rfl) _ _ 81 81 (by rfl) _ _ (by rfl) (by rfl) (HNN _ ?_ _ g1 k1 g2 k2 g3 k3 ?_) ?_; (focus (exact qab (T := fun _ => False) hN3 (Keep.new (by exact bel2)) (fun _ _ h => h))); (focus exact blk2); rintro vN wN ⟨gN, kN, rfl, RN⟩; have bN := (b3.alloc _).keep RN.keep hne1; have cN1 := bN.cell 2; have fN1 := bN.frozen 2; have cN3 := bN.cell 4; have fN3 := bN.frozen 4; have hltN := bN.lt; simp only [List.getElem?_toArray, List.getElem?_cons_zero, List.getElem?_cons_succ] at cN1 cN3))
   have bS := bN.set 2 (.slice (some ⟨gN, 0, none⟩) (n + 4) kN)
   simp only [List.setIfInBounds_toArray, List.set_cons_zero, List.set_cons_succ] at bS
   have hAS : (wN.setCell ⟨bw, 2, none⟩ (.slice (some ⟨gN, 0, none⟩) (n + 4) kN)).ownsRow 0 3 1 (.slice aA n cA) n (ints ms) := by
    refine qab (T := fun b => b = bw \/ (Value.slice aN n cN).ownBlock = some b) hA3 ?_ ?_
    ·exact ((Keep.trans (T := fun b => b = bw \/ (Value.slice aN n cN).ownBlock = some b) (Keep.alloc (Keep.refl _ _) _) (RN.keep.mono (fun b hb => Or.inr hb))).setCell (p := ⟨bw, 2, none⟩) (Or.inl rfl) _)
    ·rintro g hg (rfl | h)
     ·exact hne2 hg
     ·exact hne3 g h hg
   obtain ⟨WS, hWS⟩ : ∃ WS, WS = wN.setCell ⟨bw, 2, none⟩ (.slice (some ⟨gN, 0, none⟩) (n + 4) kN) := ⟨_, rfl⟩
   have hsz : WS.heap.size = wN.heap.size := by rw [hWS]; simp
   rw [<- hWS] at bS hAS ⊢
   have HS : Hid (WS = wN.setCell ⟨bw, 2, none⟩ (.slice (some ⟨gN, 0, none⟩) (n + 4) kN)) := hWS
   have HSZ : Hid (WS.heap.size = wN.heap.size) := hsz
   clear hWS hsz cN1 cN3 fN1 fN3 H1 H2 H3 HNN c10 c30 c31
   have cS3 := bS.cell 4
   have hltS := bS.lt
   simp only [List.getElem?_toArray, List.getElem?_cons_zero, List.getElem?_cons_succ] at cS3
   go_region_law (refine qau rfl (.tmp 63) (.tmp 68) 25 25 rfl _ _ ?_ ?_ (HA _ ?_ ?_ ?_) ?_; (focus (simp [Act.eval, Act.put])); (focus ((try simp [Act.eval, Act.put]); (try rfl))); (focus (exact qab (T := fun _ => False) hAS (Keep.new (by exact bel2)) (fun _ _ h => h))); (focus exact blk2); rintro vA wA ⟨gA, kA, rfl, RA⟩; have bA := Blk.keep (show Blk _ bw 84 #[slT, slN, .slice (some ⟨gN, 0, none⟩) (n + 4) kN, slA, .slice aA n cA] by exact blk2) RA.keep hne2; have cA3 := bA.cell 4; have fA3 := bA.frozen 4; simp only [List.getElem?_toArray, List.getElem?_cons_zero, List.getElem?_cons_succ] at cA3)
   all_goals go_wp2
   all_goals go_end0
   all_goals refine ⟨rfl, wr, w1, w2, w3, wN, wA, _, _, _, _, _, g1, k1, g2, k2, g3, k3, gN, kN, gA, kA, ⟨HK0.out, HR0.out, ?_, R1, ?_, R2, ?_, R3, ?_, RN, ?_, RA, rfl⟩⟩
   all_goals first | (rw [<- HS.out, <- HSZ.out]; exact bel2; done) | (exact bel2; done)
def errP (l : List Bs) (first : Bs) : Int := if (l.all qar) = false then 1 else if first = [] then 2 else 0
theorem i9a : (Tryz.prog.info? 9).map (fun i => (i.size, i.bytes)) = some (1, 16) := by kernel_rfl
theorem i9b : (Tryz.prog.info? 9).bind (fun i => i.zero) = some (.string ⟨#[]⟩) := by kernel_rfl
theorem inf9 : qdf 9 1 16 := qep i9a i9b rfl
theorem qw8 : Tryz.prog.underlying 46 = some (.slice 9) := by kernel_rfl
set_option maxRecDepth 100000 in
set_option maxHeartbeats 1000000 in
theorem qhf (first : ByteArray) (v : Value) (l : List ByteArray) (hsz : ∀ s ∈ l, s.size <= 2000000) (hl : l.length <= 100) (w : World)
  (hap : ∃ v' w', (∀ ty, (Builtin.append_ #[46, 46] ty #[v, .slice (some ⟨w.heap.size, 0, none⟩) 1 1]).run Tryz.prog (w.alloc (.cells #[.string first] 9)) = .ok v' w') /\ ∃ g cap, v' = .slice (some ⟨g, 0, none⟩) l.length cap /\ l.length <= cap /\ cap <= maxLen /\ g < w'.heap.size /\ Below w.heap.size w w' /\ ∀ (k : Nat) s, l[k]? = some s -> w'.cell? ⟨g, k, none⟩ = some (.string s)) :
  Calls Tryz.prog 132 #[.string first, v] w fun e w' => e = .returned (.int .i64 (errP (l.map bl) (bl first))) /\ Below w.heap.size w w' := by
 have hval := fun s (hs : s ∈ l) W => qh2 s (hsz s hs) W
 obtain ⟨n, hn⟩ : ∃ n, n = l.length := ⟨_, rfl⟩
 rw [<- hn] at hap hl
 have HN : Hid (n = l.length) := hn
 clear hn
 go_enter Tryz.func132, Tryz.ntmps132
 go_wp2_with (at_builtin; refine qah (by rfl) _ _ _ _ rfl _ _ rfl (by rfl) hap ?_; rintro v1 w1 ⟨g1, q1, rfl, hq1, hq2, hg1, hB1, hcl⟩)
 clear hap
 go_loopw [12] (fun i wr => ∃ k : Nat, k <= n /\ i = .int .i64 k /\ ((l.map bl).take k).all qar = true /\ Below w1.heap.size w1 wr) (fun i _ => n - (intOf i).toNat)
 case atStart => exact ⟨0, Nat.zero_le _, rfl, rfl, Below.refl _ _⟩
 case round =>
  obtain ⟨k, hk, rfl, hall, hbel⟩ := hrel
  have HA : Hid (((l.map bl).take k).all qar = true) := hall
  clear hall
  by_cases hlt : k < n
  ·have hlt' : k < l.length := by rw [<- HN.out]; exact hlt
   obtain ⟨s, hs⟩ : ∃ s, l[k]? = some s := ⟨_, List.getElem?_eq_getElem hlt'⟩
   have hc := (hbel.cell (p := ⟨g1, k, none⟩) hg1).trans (hcl k s hs)
   have hv := hval s (List.mem_of_getElem? hs)
   have HT : Hid ((l.map bl).take (k + 1) = (l.map bl).take k ++ [bl s]) := by
    show _ = _
    rw [List.take_succ_eq_append_getElem (by simpa using hlt')]
    rw [List.getElem?_eq_getElem hlt'] at hs; cases hs; simp
   have HM : Hid (bl s ∈ l.map bl) := List.mem_map.2 ⟨s, List.mem_of_getElem? hs, rfl⟩
   clear hs hcl hval
   have hki : (k : Int) < n := by omega
   have hki0 : (0 : Int) <= k := by omega
   cases hvb : qar (bl s)
   ·rw [hvb] at hv
    go_wp2_with (go_at_call 62; refine (hv _).mono ?_; rintro e w2 ⟨rfl, hb2⟩)
    go_ret
    have h1 : errP (l.map bl) (bl first) = 1 := by
     unfold errP
     exact if_pos (List.all_eq_false.2 ⟨_, HM.out, by simp [hvb]⟩)
    exact ⟨by rw [h1]; rfl, qac (qac hB1 hbel) hb2⟩
   ·rw [hvb] at hv
    go_wp2_with (go_at_call 62; refine (hv _).mono ?_; rintro e w2 ⟨rfl, hb2⟩)
    refine ⟨⟨k + 1, by omega, by go_num, ?_, qac hbel hb2⟩, by simp [intOf]; omega⟩
    rw [HT.out, List.all_append, HA.out]
    simp [hvb]
  ·have hall : (l.map bl).all qar = true := by
    have := HA.out
    rwa [List.take_of_length_le (by simp; have := HN.out; omega)] at this
   have HF : Hid (errP (l.map bl) (bl first) = if bl first = [] then 2 else 0) := by
    show _ = _
    unfold errP; rw [hall]; simp
   clear hall HA hcl hval
   by_cases h0 : bl first = []
   ·have hz : first = ⟨#[]⟩ := qer (h0.trans qh4.symm)
    have h1 : errP (l.map bl) (bl first) = 2 := by rw [HF.out, if_pos h0]
    subst hz
    have H1 : Hid (errP (l.map bl) (bl ⟨#[]⟩) = 2) := h1
    clear h1 HF h0
    go_wp2
    go_ret
    exact ⟨by rw [H1.out]; rfl, qac hB1 hbel⟩
   ·have hq : (first.toList.isEmpty) = false := by rw [qaz]; simpa using h0
    have h1 : errP (l.map bl) (bl first) = 0 := by rw [HF.out, if_neg h0]
    have H1 : Hid (errP (l.map bl) (bl first) = 0) := h1
    clear h1 HF h0
    go_wp2
    go_ret
    exact ⟨by rw [H1.out]; rfl, qac hB1 hbel⟩
theorem qhr (first : ByteArray) (hs : first.size <= 2000000) (w : World) : Calls Tryz.prog 132 #[.string first, .slice none 0 0] w fun e w' => e = .returned (.int .i64 (errP [bl first] (bl first))) /\ Below w.heap.size w w' := by
 refine qhf first (.slice none 0 0) [first] (fun s h => by simp at h; subst h; exact hs) (by simp) w ?_
 have hb : Blk (w.alloc (.cells #[.string first] 9)) w.heap.size 9 #[.string first] := Blk.new w 9 _
 obtain ⟨v', w', hr, g, cap, rfl, R⟩ := qby qw8 inf9 (by omega) (w.alloc (.cells #[.string first] 9)) (.slice none 0 0) 0 [] (World.ownsRow_nil _ _ _ _) w.heap.size 1 1 (by omega) [.string first] rfl hb (fun u hu => by simp at hu; subst hu; rfl) (by unfold maxLen; omega) (by omega)
 refine ⟨_, w', hr, g, cap, rfl, R.le, R.mx, qal R.own rfl, ?_, fun k s hk => ?_⟩
 ·have hk := R.keep
  exact (((Below.refl _ _).alloc (Nat.le_refl _) _ : Below w.heap.size w (w.alloc (.cells #[.string first] 9)))).trans ⟨hk.os, hk.tape, hk.output, hk.size, fun k hk1 => hk.block k (by simp; omega) (by simp [Value.ownBlock])⟩
 ·have := R.own.cells (g := g) rfl k (.string s) (by
   cases k with
   | zero => simp at hk; subst hk; rfl
   | succ k => simp at hk)
  rwa [Addr.add_lit, Nat.zero_add] at this
theorem qs3 (s : Bs) : errP [s] s = if qar s = false then 1 else if s = [] then 2 else 0 := by
 unfold errP; simp
theorem qu1 (a : Addr) (w : World) : (binOp .neq 97 (.pointer (some a)) (.pointer none)).run Tryz.prog w = .ok (.bool true) w := by
 kernel_rfl
set_option maxRecDepth 100000 in
set_option maxHeartbeats 2000000 in
theorem qj7 {nodes : List Node} (T : Tree nodes) (w : World) (hN : ∀ n ∈ nodes, qan w n) {r : Node} (hr : r ∈ nodes) (hrk : r.key = []) (bt : Nat) (ht : w.cell? ⟨bt, 0, none⟩ = some (nptr r.blk))
  (s : ByteArray) (hs : s.size <= 2000000) (vb c : Nat) (l : List (Int × Int)) (hl : l.length <= 100) (hb : vb < w.heap.size)
  (hc : ∀ (j : Nat) (x : Int × Int), l[j]? = some x -> w.cell? ⟨vb, j * 2, none⟩ = some (.int .i64 x.1) /\ w.cell? ⟨vb, j * 2 + 1, none⟩ = some (.int .i64 x.2)) :
  Calls Tryz.prog 80 #[.pointer (some ⟨bt, 0, none⟩), .string s, .slice (some ⟨vb, 0, none⟩) l.length c] w fun e w' => e = .returned (.int .i64 (qbc nodes (bl s) (qb3 l))) /\ Below w.heap.size w w' := by
 have hval := fun W => qhr s hs W
 rw [qs3] at hval
 have hal := fun W (hW : Below w.heap.size w W) => qi1 vb c l hl W (by have := hW.size; omega) (fun j x hx => ⟨(hW.cell (p := ⟨vb, j * 2, none⟩) hb).trans (hc j x hx).1, (hW.cell (p := ⟨vb, j * 2 + 1, none⟩) hb).trans (hc j x hx).2⟩)
 have hdep := fun W => qq5 s W hs
 have hbt := World.block_lt_of_cell? w _ ht
 have htW := fun W (hW : Below w.heap.size w W) => (hW.cell (p := ⟨bt, 0, none⟩) hbt).trans ht
 have hNW := fun W (hW : Below w.heap.size w W) n hn => (hN n hn).below hW
 have hfind := fun W (hW : Below w.heap.size w W) v hv => qfh T hr hrk s hs W (hNW W hW) v hv
 unfold nptr at hfind htW
 unfold qbc
 clear hc
 obtain ⟨L, hL⟩ : ∃ L, L = l.length := ⟨_, rfl⟩
 rw [<- hL] at hal ⊢
 clear hL
 cases hv : qar (bl s)
 ·rw [hv] at hval
  simp only [if_true] at hval ⊢
  go_enter Tryz.func80, Tryz.ntmps80
  go_wp2_with (go_at_call 132; refine (hval _).mono ?_; rintro e w1 ⟨rfl, hb1⟩)
  go_ret
  exact ⟨rfl, hb1⟩
 rw [hv] at hval
 simp only [Bool.true_eq_false, if_false] at hval ⊢
 by_cases h0 : bl s = []
 ·have hz : s = ⟨#[]⟩ := qer (h0.trans qh4.symm)
  simp only [h0, if_true] at hval ⊢
  subst hz
  go_enter Tryz.func80, Tryz.ntmps80
  go_wp2_with (go_at_call 132; refine (hval _).mono ?_; rintro e w1 ⟨rfl, hb1⟩)
  go_ret
  exact ⟨rfl, hb1⟩
 simp only [h0, if_false] at hval ⊢
 cases hfl : qb3 l
 ·rw [hfl] at hal
  simp only [if_true]
  go_enter Tryz.func80, Tryz.ntmps80
  go_wp2_with (first | (go_at_call 132; refine (hval _).mono ?_; rintro e w1 ⟨rfl, hb1⟩) | (go_at_call 133; refine (hal w1 hb1).mono ?_; rintro e w2 ⟨rfl, hb2⟩))
  go_ret
  exact ⟨rfl, qac hb1 hb2⟩
 rw [hfl] at hal
 simp only [Bool.true_eq_false, if_false]
 by_cases hd : 4 < qdm (bl s)
 ·simp only [hd, if_true]
  go_enter Tryz.func80, Tryz.ntmps80
  go_wp2_with (first | (go_at_call 132; refine (hval _).mono ?_; rintro e w1 ⟨rfl, hb1⟩) | (go_at_call 133; refine (hal w1 hb1).mono ?_; rintro e w2 ⟨rfl, hb2⟩) | (go_at_call 134; refine (hdep _).mono ?_; rintro e w3 ⟨rfl, hw3⟩; subst hw3))
  go_ret
  exact ⟨rfl, qac hb1 hb2⟩
 simp only [hd, if_false]
 have hsn := fun W => qih s hs hv h0 W
 cases hfk : findKey nodes (qaa (bl s)) with
 | some n =>
  simp only [Option.isSome_some, if_true]
  rw [hfk] at hfind
  simp only [nptr] at hfind
  clear hfk
  have hneq := qu1
  go_enter Tryz.func80, Tryz.ntmps80
  go_wp2_with (first | (go_at_call 132; refine (hval _).mono ?_; rintro e w1 ⟨rfl, hb1⟩) | (go_at_call 133; refine (hal w1 hb1).mono ?_; rintro e w2 ⟨rfl, hb2⟩; have hB2 : Below w.heap.size w w2 := qac hb1 hb2; have ht2 := htW w2 hB2) | (go_at_call 134; refine (hdep _).mono ?_; rintro e w3 ⟨rfl, hw3⟩; subst hw3) | (go_at_call 63; refine (hfind _ hB2 (.pointer (some ⟨n.blk, 0, none⟩)) rfl).mono ?_; rintro e w4 ⟨rfl, hb4⟩))
  go_ret
  exact ⟨rfl, qac hB2 hb4⟩
 | none =>
  simp only [Option.isSome_none, Bool.false_eq_true, if_false]
  rw [hfk] at hfind
  clear hfk
  have hri := fun W (hW : Below w.heap.size w W) k => qmi T W (hNW W hW) hr hrk bt ((hW.cell (p := ⟨bt, 0, none⟩) hbt).trans ht) k
  have hfind2 := fun W (hW : Below w.heap.size w W) (a : ByteArray) (ha : a.size <= 2000000) => qfh T hr hrk a ha W (hNW W hW) _ rfl
  unfold nptr at hfind2
  go_enter Tryz.func80, Tryz.ntmps80
  go_wp2_with (first | (go_at_call 132; refine (hval _).mono ?_; clear hval; rintro e w1 ⟨rfl, hb1⟩) | (go_at_call 133; refine (hal w1 hb1).mono ?_; clear hal; rintro e w2 ⟨rfl, hb2⟩; have hB2 : Below w.heap.size w w2 := qac hb1 hb2; have ht2 := htW w2 hB2) | (go_at_call 134; refine (hdep _).mono ?_; clear hdep; rintro e w3 ⟨rfl, hw3⟩; subst hw3) | (go_at_call 63; refine (hfind _ hB2 (.pointer none) rfl).mono ?_; clear hfind; rintro e w4 ⟨rfl, hb4⟩) | (go_at_call 81; refine (hsn _).mono ?_; rintro e w5 ⟨⟨sa, sbb, rfl, hnm, hsa⟩, hb5⟩; have hB5 : Below w.heap.size w w5 := qac (qac hB2 hb4) hb5; have ht5 := htW w5 hB5))
  refine (hfind2 w5 hB5 sa (by omega)).mono ?_
  rintro e w6 ⟨rfl, hb6⟩
  have hB6 : Below w.heap.size w w6 := qac hB5 hb6
  have hri6 := hri w6 hB6 (qaa (bl sa))
  unfold nptr at hri6
  clear hri hfind2 hsn htW
  generalize (match findKey nodes (qaa (bl sa)) with | none => Value.pointer none | some p => Value.pointer (some ⟨p.blk, 0, none⟩)) = vq at hri6 ⊢
  go_wp2_with (go_at_call 135; refine hri6.mono ?_; rintro e w7 ⟨rfl, hb7⟩)
  all_goals go_ret
  all_goals exact ⟨qgn (by rw [hnm, List.dropLast_concat]), qac hB6 hb7⟩
theorem qic {nodes : List Node} {s : Bs} {ok : Bool} (h : qbc nodes s ok = 0) :
  qar s = true /\ s ≠ [] /\ ok = true /\ qdm s <= 4 /\ findKey nodes (qaa s) = none /\ ∃ p, findKey nodes (qaa s).dropLast = some p /\ p.leaf = false /\ nodes.length < 20 := by
 unfold qbc at h
 cases hv : qar s
 ·simp [hv] at h
 by_cases h0 : s = []
 ·rw [hv] at h; simp [h0] at h
 cases hok : ok
 ·simp [hv, h0, hok] at h
 by_cases hd : 4 < qdm s
 ·simp [hv, h0, hok, hd] at h
 cases hf : findKey nodes (qaa s) with
 | some n => simp [hv, h0, hok, hd, hf] at h
 | none =>
  simp [hv, h0, hok, hd, hf] at h
  unfold errIn at h
  cases hp : findKey nodes (qaa s).dropLast with
  | none => simp [hp] at h
  | some p =>
   simp only [hp] at h
   cases hl : p.leaf
   ·by_cases h20 : 20 <= nodes.length
    ·simp [hl, h20] at h
    ·exact ⟨rfl, h0, rfl, by omega, rfl, p, rfl, hl, by omega⟩
   ·simp [hl] at h
structure qkx (nodes : List Node) (q : Nat) (s : Bs) (leaf : Bool) (a b c d : Int) (w w' : World) : Prop where
 ex : ∃ p nm ks at_ sl, p ∈ nodes /\ p.leaf = false /\ qaa s = p.key ++ [nm] /\ nodes.length < 20 /\ (∀ n ∈ nodes, n.key ≠ qaa s) /\ qf7 nodes p q nm leaf a b c d w w' ks at_ sl
theorem qf7.from {nodes : List Node} {p : Node} {q : Nat} {nm : Bs} {leaf : Bool} {a b c d : Int} {w w1 w' : World} {ks : List Node} {at_ : Nat} {sl : Value} (h : qf7 nodes p q nm leaf a b c d w1 w' ks at_ sl) (hb : Below w.heap.size w w1) : qf7 nodes p q nm leaf a b c d w w' ks at_ sl :=
 ⟨h.kids, h.mem, h.sort, h.found, h.par, h.new, (Keep.new hb).trans h.keep, h.own.imp id (fun ⟨g, h1, h2⟩ => ⟨g, h1, Nat.le_trans hb.size h2⟩)⟩
def qwy (nodes : List Node) (q : Nat) (s : Bs) (ok : Bool) (leaf : Bool) (a b c d : Int) (w : World) (e : Ending) (w' : World) : Prop :=
 (qbc nodes s ok ≠ 0 /\ e = .returned (.int .i64 (qbc nodes s ok)) /\ Below w.heap.size w w') \/ (qbc nodes s ok = 0 /\ e = .returned (.int .i64 0) /\ qkx nodes q s leaf a b c d w w')
set_option maxRecDepth 100000 in
set_option maxHeartbeats 2000000 in
theorem qtu {nodes : List Node} (T : Tree nodes) (w : World) (hN : ∀ n ∈ nodes, qan w n) {r : Node} (hr : r ∈ nodes) (hrk : r.key = []) (bt : Nat) (ht : w.cell? ⟨bt, 0, none⟩ = some (nptr r.blk))
  (s : ByteArray) (hs : s.size <= 2000000) (vb cp : Nat) (l : List (Int × Int)) (hl : l.length <= 100) (hb : vb < w.heap.size)
  (hc : ∀ (j : Nat) (x : Int × Int), l[j]? = some x -> w.cell? ⟨vb, j * 2, none⟩ = some (.int .i64 x.1) /\ w.cell? ⟨vb, j * 2 + 1, none⟩ = some (.int .i64 x.2))
  (q : Nat) (leaf : Bool) (a b c d : Int) (hq : Blk w q 136 #[.string ⟨#[]⟩, .bool leaf, .int .i64 a, .int .i64 b, .int .i64 c, .int .i64 d, .pointer none, .slice none 0 0])
  (hsep : ∀ n ∈ nodes, q ≠ n.blk /\ n.sl.ownBlock ≠ some q /\ n.sl.ownBlock ≠ some n.blk) :
  Calls Tryz.prog 52 #[.pointer (some ⟨bt, 0, none⟩), .string s, nptr q, .slice (some ⟨vb, 0, none⟩) l.length cp] w (qwy nodes q (bl s) (qb3 l) leaf a b c d w) := by
 have hrn := qj7 T w hN hr hrk bt ht s hs vb cp l hl hb hc
 clear hc
 obtain ⟨L, hL⟩ : ∃ L, L = l.length := ⟨_, rfl⟩
 rw [<- hL] at hrn ⊢
 clear hL
 generalize hok : qb3 l = ok at hrn ⊢
 by_cases he : qbc nodes (bl s) ok = 0
 ·obtain ⟨hv, h0, hokt, hd, hf, p, hp, hpl, h20⟩ := qic he
  have HE : Hid (qbc nodes (bl s) ok = 0) := he
  rw [he] at hrn
  clear he
  obtain ⟨hpn, hpk⟩ := qbw hp
  have hsn := fun W => qih s hs hv h0 W
  have hbt := World.block_lt_of_cell? w _ ht
  have htW := fun W (hW : Below w.heap.size w W) => (hW.cell (p := ⟨bt, 0, none⟩) hbt).trans ht
  unfold nptr at htW
  have hNW := fun W (hW : Below w.heap.size w W) n hn => (hN n hn).below hW
  have hfind2 := fun W (hW : Below w.heap.size w W) (sa : ByteArray) (ha : sa.size <= 2000000) (hk : qaa (bl sa) = (qaa (bl s)).dropLast) => qfh T hr hrk sa ha W (hNW W hW) (nptr p.blk) (by rw [hk, hp])
  have hno : ∀ n ∈ nodes, n.key ≠ qaa (bl s) := fun n hn e => by rw [qdp T hn e] at hf; cases hf
  have hhang := fun W (hW : Below w.heap.size w W) (nm : Bs) (hnm : qbd nm = true) (hn2 : ∀ n ∈ nodes, n.key ≠ p.key ++ [nm]) => qsj T W (hNW W hW) hpn q nm hnm hn2 leaf a b c d (hq.below hW hq.lt) (hsep p hpn).1 (hsep p hpn).2.1 (hsep p hpn).2.2
  unfold nptr at hfind2 hhang ⊢
  clear hf hsep hq
  go_enter Tryz.func52, Tryz.ntmps52
  go_wp2_with (first | (go_at_call 80; refine hrn.mono ?_; clear hrn; rintro e w1 ⟨rfl, hb1⟩) | (go_at_call 81; refine (hsn _).mono ?_; clear hsn; rintro e w2 ⟨⟨sa, sbb, rfl, hnm, hsa⟩, hb2⟩; have hB2 : Below w.heap.size w w2 := qac hb1 hb2; have ht2 := htW w2 hB2))
  have hk : qaa (bl sa) = (qaa (bl s)).dropLast := by rw [hnm, List.dropLast_concat]
  refine (hfind2 w2 hB2 sa (by omega) hk).mono ?_
  rintro e w3 ⟨rfl, hb3⟩
  have hB3 : Below w.heap.size w w3 := qac hB2 hb3
  have hnmo : qbd (bl sbb) = true := qbz (k := qaa (bl s)) (by rw [<- qba]; exact hv) (by rw [hnm]; simp)
  have hpk2 : p.key ++ [bl sbb] = qaa (bl s) := by rw [hpk, <- hk, hnm]
  have hh := hhang w3 hB3 (bl sbb) hnmo (fun n hn => by rw [hpk2]; exact hno n hn)
  rw [qp4] at hh
  clear hhang hfind2 htW hk hnm
  have HP2 : Hid (p.key ++ [bl sbb] = qaa (bl s)) := hpk2
  clear hpk2 hpk
  go_wp2_with (go_at_call 82; refine hh.mono ?_; clear hh; rintro e w4 ⟨rfl, ks, at_, sl, hpost⟩)
  go_ret
  exact .inr ⟨HE.out, rfl, ⟨p, bl sbb, ks, at_, sl, hpn, hpl, HP2.out.symm, h20, hno, hpost.from hB3⟩⟩
 ·have hne : (qbc nodes (bl s) ok != 0) = true := by simpa using he
  unfold nptr
  generalize hE : qbc nodes (bl s) ok = E at hrn hne
  have HE : Hid (qbc nodes (bl s) ok = E) := hE
  clear hE he hN T ht hr hrk hsep hq
  go_enter Tryz.func52, Tryz.ntmps52
  go_wp2_with (go_at_call 80; refine hrn.mono ?_; rintro e w1 ⟨rfl, hb1⟩)
  go_ret
  exact .inl ⟨by rw [HE.out]; simpa using hne, qgn HE.out.symm, hb1⟩
end Go.Proofs.YtphclnolomgjoaaGreatDoor
