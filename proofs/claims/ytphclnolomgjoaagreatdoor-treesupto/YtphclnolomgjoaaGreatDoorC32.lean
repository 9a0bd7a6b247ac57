import Derived.Test.YtphclnolomgjoaaGreatDoorC06
import Derived.Test.YtphclnolomgjoaaGreatDoorC12
import Derived.Test.YtphclnolomgjoaaGreatDoorC13
set_option linter.unusedVariables false
set_option linter.unusedSimpArgs false
namespace Go.Proofs.YtphclnolomgjoaaGreatDoor
open Go.RowKit
theorem qu2 {a b A B : Int} (ha : 0 <= a /\ a <= A) (hb : 0 <= b /\ b <= B) : 0 <= a * b /\ a * b <= A * B :=
 ⟨Int.mul_nonneg ha.1 hb.1, Int.mul_le_mul ha.2 hb.2 hb.1 (Int.le_trans ha.1 ha.2)⟩
set_option maxRecDepth 100000 in
set_option maxHeartbeats 1000000 in
theorem qe9 (a0 a1 b0 b1 : Int) (h1 : 0 <= a0 /\ a0 <= 100000) (h2 : 0 <= a1 /\ a1 <= 100000) (h3 : 0 <= b0 /\ b0 <= 100000) (h4 : 0 <= b1 /\ b1 <= 100000) (w : World) :
  Calls Tryz.prog 161 #[.agg #[.int .i64 a0, .int .i64 a1], .agg #[.int .i64 b0, .int .i64 b1]] w fun e w' => e = .returned (.bool (decide (a0 * b1 < b0 * a1))) /\ Below w.heap.size w w' := by
 have m1 := qu2 h1 h4
 have m2 := qu2 h3 h2
 go_enter Tryz.func161, Tryz.ntmps161
 go_wp2
 go_ret
 exact ⟨rfl, by exact bel2⟩
set_option maxRecDepth 100000 in
set_option maxHeartbeats 4000000 in
theorem qql {w : World} {br g cap : Nat} {L : List Ent} {ao : Option Addr} {cW : Nat} {Ws : List Wk} {cnt st : Int} (h : GRef w br g cap L ao cW Ws cnt st) (E : Ents L) (EW : Wks Ws) (x : Wk) (hx : WkOK x) :
  Calls Tryz.prog 160 #[.pointer (some ⟨br, 0, none⟩), .agg #[.int .i64 x.num, .string (sb (joinB x.key)), .int .i64 x.d0, .int .i64 x.d1, .int .i64 x.st]] w fun e w' => e = .returned (.agg #[.int .i64 (qav L Ws x).1, .int .i64 (qav L Ws x).2]) /\ Below w.heap.size w w' := by
 have hnom := fun W (hW : Below w.heap.size w W) => qcr (h.ref.below hW) E (sb (joinB x.key)) hx.small
 have hall := fun W (hW : Below w.heap.size w W) => qcr (h.ref.below hW) E ⟨#[]⟩ (by decide)
 have husg := fun W (hW : Below w.heap.size w W) => qe7 (h.below hW) EW (sb (joinB x.key)) hx.small
 have bd1 := qeo E (joinB x.key)
 have bd2 := qke EW (joinB x.key)
 have bd3 := qeo E []
 have bx0 := hx.n0
 have bx1 := hx.n1
 rw [qbi] at hnom husg
 have hempty : bl ⟨#[]⟩ = [] := rfl
 rw [hempty] at hall
 unfold qav
 generalize es0 (qaf L (joinB x.key)) = n0 at *
 generalize es1 (qaf L (joinB x.key)) = n1 at *
 generalize es0 (qaf L []) = al0 at *
 generalize es1 (qaf L []) = al1 at *
 generalize ws0 (qae Ws (joinB x.key)) = u0 at *
 generalize ws1 (qae Ws (joinB x.key)) = u1 at *
 generalize sb (joinB x.key) = pth at *
 generalize x.d0 = a at *
 generalize x.d1 = b at *
 generalize x.num = num at *
 generalize x.st = sx at *
 clear hx h E EW hempty
 obtain ⟨T1, hT1⟩ : ∃ T1, T1 = better (0, 1) (shr u0 a n0 al0) := ⟨_, rfl⟩
 obtain ⟨T2, hT2⟩ : ∃ T2, T2 = better T1 (shr u1 b n1 al1) := ⟨_, rfl⟩
 have HT1 : Hid (T1 = better (0, 1) (shr u0 a n0 al0)) := hT1
 have HT2 : Hid (T2 = better T1 (shr u1 b n1 al1)) := hT2
 have q1 := qf4 (a := ((0 : Int), (1 : Int))) (by simp) (qof bd2.1 bx0 bd1.1 bd3.1)
 have q2 := qf4 (a := T1) (by rw [hT1]; exact q1) (qof bd2.2 bx1 bd1.2 bd3.2)
 rw [<- hT1] at q1
 rw [<- hT2] at q2
 rw [<- hT1, <- hT2]
 clear hT1 hT2
 obtain ⟨t0, t1⟩ := T1
 obtain ⟨v0, v1⟩ := T2
 simp only at q1 q2
 obtain ⟨bst, hbst⟩ : ∃ bst : Nat -> Int × Int, bst = fun k => if k = 0 then (0, 1) else if k = 1 then (t0, t1) else (v0, v1) := ⟨_, rfl⟩
 have bst0 : bst 0 = (0, 1) := by rw [hbst]; rfl
 have bst1 : bst 1 = (t0, t1) := by rw [hbst]; rfl
 have bst2 : bst 2 = (v0, v1) := by rw [hbst]; rfl
 clear hbst
 go_enter Tryz.func160, Tryz.ntmps160
 go_wp2_with fail
 refine (hnom _ (by exact bel2)).mono ?_
 rintro e w1 ⟨rfl, hb1⟩
 have hB1 : Below w.heap.size w w1 := qac (by exact bel2) hb1
 have b31 : Blk w1 w.heap.size 178 #[.int .i64 num, .string pth, .int .i64 a, .int .i64 b, .int .i64 sx] := Blk.below (by exact blk2) hb1 (by first | omega | (simp; done) | (simp; omega))
 have b41 : Blk w1 (w.heap.size + 1) 209 #[.int .i64 0, .int .i64 0] := Blk.below (Blk.alloc (Blk.new' (by simp)) _) hb1 (by first | omega | (simp; done) | (simp; omega))
 have b51 : Blk w1 (w.heap.size + 1 + 1) 209 #[.int .i64 0, .int .i64 1] := Blk.below (Blk.new' (by simp)) hb1 (by first | omega | (simp; done) | (simp; omega))
 clear hb1 hnom
 have l31 := b31.lt
 have l41 := b41.lt
 have l51 := b51.lt
 have hz1 := hB1.size
 have p1 := b31.cell 1
 simp only [List.getElem?_toArray, List.getElem?_cons_zero, List.getElem?_cons_succ] at p1
 have e1 : ¬ (w.heap.size = w1.heap.size) := by omega
 go_wp2_with fail
 refine (husg _ (by exact bel2)).mono ?_
 rintro e w2 ⟨rfl, hb2⟩
 have hB2 : Below w.heap.size w w2 := qac (by exact bel2) hb2
 have b32 : Blk w2 w.heap.size 178 #[.int .i64 num, .string pth, .int .i64 a, .int .i64 b, .int .i64 sx] := Blk.below (by exact blk2) hb2 (by first | omega | (simp; done) | (simp; omega))
 have b42 : Blk w2 (w.heap.size + 1) 209 #[.int .i64 0, .int .i64 0] := Blk.below (by exact blk2) hb2 (by first | omega | (simp; done) | (simp; omega))
 have b52 : Blk w2 (w.heap.size + 1 + 1) 209 #[.int .i64 0, .int .i64 1] := Blk.below (by exact blk2) hb2 (by first | omega | (simp; done) | (simp; omega))
 have b62 : Blk w2 w1.heap.size 35 #[.int .i64 n0, .int .i64 n1] := Blk.below (Blk.new' rfl) hb2 (by first | omega | (simp; done) | (simp; omega))
 clear hb2 husg b31 b41 b51 p1
 have l32 := b32.lt
 have l42 := b42.lt
 have l52 := b52.lt
 have l62 := b62.lt
 have hz2 := hB2.size
 go_wp2_with fail
 refine (hall _ (by exact bel2)).mono ?_
 rintro e w3 ⟨rfl, hb3⟩
 have hB3 : Below w.heap.size w w3 := qac (by exact bel2) hb3
 have b33 : Blk w3 w.heap.size 178 #[.int .i64 num, .string pth, .int .i64 a, .int .i64 b, .int .i64 sx] := Blk.below (by exact blk2) hb3 (by first | omega | (simp; done) | (simp; omega))
 have b43 : Blk w3 (w.heap.size + 1) 209 #[.int .i64 0, .int .i64 0] := Blk.below (by exact blk2) hb3 (by first | omega | (simp; done) | (simp; omega))
 have b53 : Blk w3 (w.heap.size + 1 + 1) 209 #[.int .i64 0, .int .i64 1] := Blk.below (by exact blk2) hb3 (by first | omega | (simp; done) | (simp; omega))
 have b63 : Blk w3 w1.heap.size 35 #[.int .i64 n0, .int .i64 n1] := Blk.below (by exact blk2) hb3 (by first | omega | (simp; done) | (simp; omega))
 have b73 : Blk w3 w2.heap.size 35 #[.int .i64 u0, .int .i64 u1] := Blk.below (Blk.new' rfl) hb3 (by first | omega | (simp; done) | (simp; omega))
 clear hb3 hall b32 b42 b52 b62
 have l33 := b33.lt
 have l43 := b43.lt
 have l53 := b53.lt
 have l63 := b63.lt
 have l73 := b73.lt
 have hz3 := hB3.size
 go_wp2_with fail
 have b34 : Blk (w3.alloc (.cells #[.int .i64 al0, .int .i64 al1] 35)) w.heap.size 178 #[.int .i64 num, .string pth, .int .i64 a, .int .i64 b, .int .i64 sx] := by exact blk2
 have b44 : Blk (w3.alloc (.cells #[.int .i64 al0, .int .i64 al1] 35)) (w.heap.size + 1) 209 #[.int .i64 0, .int .i64 0] := by exact blk2
 have b54 : Blk (w3.alloc (.cells #[.int .i64 al0, .int .i64 al1] 35)) (w.heap.size + 1 + 1) 209 #[.int .i64 0, .int .i64 1] := by exact blk2
 have b64 : Blk (w3.alloc (.cells #[.int .i64 al0, .int .i64 al1] 35)) w1.heap.size 35 #[.int .i64 n0, .int .i64 n1] := by exact blk2
 have b74 : Blk (w3.alloc (.cells #[.int .i64 al0, .int .i64 al1] 35)) w2.heap.size 35 #[.int .i64 u0, .int .i64 u1] := by exact blk2
 have b84 : Blk (w3.alloc (.cells #[.int .i64 al0, .int .i64 al1] 35)) w3.heap.size 35 #[.int .i64 al0, .int .i64 al1] := by exact blk2
 have hB4 : Below w.heap.size w (w3.alloc (.cells #[.int .i64 al0, .int .i64 al1] 35)) := by exact bel2
 generalize (w3.alloc (.cells #[.int .i64 al0, .int .i64 al1] 35)) = W4 at b34 b44 b54 b64 b74 b84 hB4 ⊢
 clear b33 b43 b53 b63 b73 hB1 hB2 hB3
 generalize w1.heap.size = g6 at *
 generalize w2.heap.size = g7 at *
 generalize w3.heap.size = g8 at *
 clear w1 w2 w3
 rw [show (#[Value.int .i64 0, Value.int .i64 1] : Array Value) = #[.int .i64 (bst 0).1, .int .i64 (bst 0).2] by rw [bst0]] at b54
 go_loopw [9] (fun i wr => ∃ k : Nat, k <= 2 /\ i = .int .i64 k /\ Below w.heap.size w wr /\ Blk wr w.heap.size 178 #[.int .i64 num, .string pth, .int .i64 a, .int .i64 b, .int .i64 sx] /\ Blk wr (w.heap.size + 1) 209 #[.int .i64 0, .int .i64 0] /\ Blk wr (w.heap.size + 1 + 1) 209 #[.int .i64 (bst k).1, .int .i64 (bst k).2] /\ Blk wr g6 35 #[.int .i64 n0, .int .i64 n1] /\ Blk wr g7 35 #[.int .i64 u0, .int .i64 u1] /\ Blk wr g8 35 #[.int .i64 al0, .int .i64 al1]) (fun i _ => 2 - (intOf i).toNat)
 case atStart => exact ⟨0, by omega, rfl, hB4, b34, b44, b54, b64, b74, b84⟩
 case round =>
  obtain ⟨k, hk, rfl, hbel, c3, c4, c5, c6, c7, c8⟩ := hrel
  rcases (show k = 0 \/ k = 1 \/ k = 2 by omega) with rfl | rfl | rfl
  ·-- round 0
   have x3 := c3.cell 2
   have x6 := c6.cell 0
   have x7 := c7.cell 0
   have x8 := c8.cell 0
   rw [bst0] at c5
   have x50 := c5.cell 0
   have x51 := c5.cell 1
   have m3 := c3.lt
   have m4 := c4.lt
   have m5 := c5.lt
   have m6 := c6.lt
   have m7 := c7.lt
   have m8 := c8.lt
   simp only [List.getElem?_toArray, List.getElem?_cons_zero, List.getElem?_cons_succ] at x3 x6 x7 x8 x50 x51
   have HT : Hid ((t0, t1) = better ((0 : Int), (1 : Int)) (shr u0 a n0 al0)) := HT1.out
   have hz := hbel.size
   by_cases z0 : al0 = 0 \/ u0 + a - n0 < 0
   ·have hs : shr u0 a n0 al0 = (0, 1) := by unfold shr; rw [if_pos z0]
    have hl := fun W => qe9 (0 : Int) (1 : Int) 0 1 (by omega) (by omega) (by omega) (by omega) W
    have HS0 : (t0, t1) = better ((0 : Int), (1 : Int)) (0, 1) := by have h1 := HT.out; rw [hs] at h1; exact h1
    have HS : Hid ((t0, t1) = better ((0 : Int), (1 : Int)) (0, 1)) := HS0
    clear HT hs HS0
    have z1 : al0 = 0 \/ ¬ (al0 = 0) := by omega
    have hm : ¬ ((0 : Int) * 1 < 0 * (1 : Int)) := by omega
    rw [decide_eq_false hm] at hl
    rcases z1 with z1 | z1
    ·have z2 : (al0 == 0) = true := by simp [z1]
     clear z1 z0
     go_wp2_with fail
     go_region
     go_wp2_with fail
     refine (hl _).mono ?_
     rintro e w5 ⟨rfl, hb5⟩
     have hB5 : Below w.heap.size w w5 := qac (by exact bel2) hb5
     have d3 : Blk w5 w.heap.size 178 #[.int .i64 num, .string pth, .int .i64 a, .int .i64 b, .int .i64 sx] := Blk.below (by exact blk3) hb5 (by first | omega | (simp; done) | (simp; omega))
     have d4 : Blk w5 (w.heap.size + 1) 209 #[.int .i64 0, .int .i64 0] := Blk.below (by exact blk3) hb5 (by first | omega | (simp; done) | (simp; omega))
     have d5 : Blk w5 (w.heap.size + 1 + 1) 209 #[.int .i64 (0 : Int), .int .i64 (1 : Int)] := Blk.below (by exact blk3) hb5 (by first | omega | (simp; done) | (simp; omega))
     have d6 : Blk w5 g6 35 #[.int .i64 n0, .int .i64 n1] := Blk.below (by exact blk3) hb5 (by first | omega | (simp; done) | (simp; omega))
     have d7 : Blk w5 g7 35 #[.int .i64 u0, .int .i64 u1] := Blk.below (by exact blk3) hb5 (by first | omega | (simp; done) | (simp; omega))
     have d8 : Blk w5 g8 35 #[.int .i64 al0, .int .i64 al1] := Blk.below (by exact blk3) hb5 (by first | omega | (simp; done) | (simp; omega))
     have ds : Blk w5 wr.heap.size 209 #[.int .i64 (0), .int .i64 (1)] := Blk.below (by exact (Blk.new wr 209 _).drew) hb5 (by first | omega | (simp; done) | (simp; omega))
     have t50 := d5.cell 0
     have t51 := d5.cell 1
     have f50 := d5.frozen 0
     have f51 := d5.frozen 1
     have ts0 := ds.cell 0
     have ts1 := ds.cell 1
     simp only [List.getElem?_toArray, List.getElem?_cons_zero, List.getElem?_cons_succ] at t50 t51 ts0 ts1
     go_wp2_with fail
     refine ⟨⟨1, by omega, by go_num, by exact bel2, by exact blk3, by exact blk3, ?_, by exact blk3, by exact blk3, by exact blk3⟩, by simp [intOf]⟩
     rw [bst1]
     have hT : (t0, t1) = ((0 : Int), (1 : Int)) := by rw [HS.out]; unfold better; rw [if_neg (by simp)]
     rw [hT]
     exact d5
    ·have z2 : (al0 == 0) = false := by simp [z1]
     have z3 : u0 + a - n0 < 0 := by omega
     go_wp2_with fail
     go_region
     go_wp2_with fail
     refine (hl _).mono ?_
     rintro e w5 ⟨rfl, hb5⟩
     have hB5 : Below w.heap.size w w5 := qac (by exact bel2) hb5
     have d3 : Blk w5 w.heap.size 178 #[.int .i64 num, .string pth, .int .i64 a, .int .i64 b, .int .i64 sx] := Blk.below (by exact blk3) hb5 (by first | omega | (simp; done) | (simp; omega))
     have d4 : Blk w5 (w.heap.size + 1) 209 #[.int .i64 0, .int .i64 0] := Blk.below (by exact blk3) hb5 (by first | omega | (simp; done) | (simp; omega))
     have d5 : Blk w5 (w.heap.size + 1 + 1) 209 #[.int .i64 (0 : Int), .int .i64 (1 : Int)] := Blk.below (by exact blk3) hb5 (by first | omega | (simp; done) | (simp; omega))
     have d6 : Blk w5 g6 35 #[.int .i64 n0, .int .i64 n1] := Blk.below (by exact blk3) hb5 (by first | omega | (simp; done) | (simp; omega))
     have d7 : Blk w5 g7 35 #[.int .i64 u0, .int .i64 u1] := Blk.below (by exact blk3) hb5 (by first | omega | (simp; done) | (simp; omega))
     have d8 : Blk w5 g8 35 #[.int .i64 al0, .int .i64 al1] := Blk.below (by exact blk3) hb5 (by first | omega | (simp; done) | (simp; omega))
     have ds : Blk w5 wr.heap.size 209 #[.int .i64 (0), .int .i64 (1)] := Blk.below (by exact (Blk.new wr 209 _).drew) hb5 (by first | omega | (simp; done) | (simp; omega))
     have t50 := d5.cell 0
     have t51 := d5.cell 1
     have f50 := d5.frozen 0
     have f51 := d5.frozen 1
     have ts0 := ds.cell 0
     have ts1 := ds.cell 1
     simp only [List.getElem?_toArray, List.getElem?_cons_zero, List.getElem?_cons_succ] at t50 t51 ts0 ts1
     go_wp2_with fail
     refine ⟨⟨1, by omega, by go_num, by exact bel2, by exact blk3, by exact blk3, ?_, by exact blk3, by exact blk3, by exact blk3⟩, by simp [intOf]⟩
     rw [bst1]
     have hT : (t0, t1) = ((0 : Int), (1 : Int)) := by rw [HS.out]; unfold better; rw [if_neg (by simp)]
     rw [hT]
     exact d5
   ·have hs : shr u0 a n0 al0 = (u0 + a - n0, al0) := by unfold shr; rw [if_neg z0]
    have hl := fun W => qe9 (0 : Int) (1 : Int) (u0 + a - n0) al0 (by omega) (by omega) (by omega) (by omega) W
    have HS0 : (t0, t1) = better ((0 : Int), (1 : Int)) (u0 + a - n0, al0) := by have h1 := HT.out; rw [hs] at h1; exact h1
    have HS : Hid ((t0, t1) = better ((0 : Int), (1 : Int)) (u0 + a - n0, al0)) := HS0
    clear HT hs HS0
    have z2 : (al0 == 0) = false := by simp; omega
    have z3 : ¬ (u0 + a - n0 < 0) := by omega
    by_cases hm : (0 : Int) * al0 < (u0 + a - n0) * (1 : Int)
    ·rw [decide_eq_true hm] at hl
     have HM : Hid ((0 : Int) * al0 < (u0 + a - n0) * (1 : Int)) := hm
     clear hm
     go_wp2_with fail
     go_region
     go_wp2_with fail
     refine (hl _).mono ?_
     rintro e w5 ⟨rfl, hb5⟩
     have hB5 : Below w.heap.size w w5 := qac (by exact bel2) hb5
     have d3 : Blk w5 w.heap.size 178 #[.int .i64 num, .string pth, .int .i64 a, .int .i64 b, .int .i64 sx] := Blk.below (by exact blk3) hb5 (by first | omega | (simp; done) | (simp; omega))
     have d4 : Blk w5 (w.heap.size + 1) 209 #[.int .i64 0, .int .i64 0] := Blk.below (by exact blk3) hb5 (by first | omega | (simp; done) | (simp; omega))
     have d5 : Blk w5 (w.heap.size + 1 + 1) 209 #[.int .i64 (0 : Int), .int .i64 (1 : Int)] := Blk.below (by exact blk3) hb5 (by first | omega | (simp; done) | (simp; omega))
     have d6 : Blk w5 g6 35 #[.int .i64 n0, .int .i64 n1] := Blk.below (by exact blk3) hb5 (by first | omega | (simp; done) | (simp; omega))
     have d7 : Blk w5 g7 35 #[.int .i64 u0, .int .i64 u1] := Blk.below (by exact blk3) hb5 (by first | omega | (simp; done) | (simp; omega))
     have d8 : Blk w5 g8 35 #[.int .i64 al0, .int .i64 al1] := Blk.below (by exact blk3) hb5 (by first | omega | (simp; done) | (simp; omega))
     have ds : Blk w5 wr.heap.size 209 #[.int .i64 (u0 + a - n0), .int .i64 (al0)] := Blk.below (by exact (Blk.new wr 209 _).drew) hb5 (by first | omega | (simp; done) | (simp; omega))
     have t50 := d5.cell 0
     have t51 := d5.cell 1
     have f50 := d5.frozen 0
     have f51 := d5.frozen 1
     have ts0 := ds.cell 0
     have ts1 := ds.cell 1
     simp only [List.getElem?_toArray, List.getElem?_cons_zero, List.getElem?_cons_succ] at t50 t51 ts0 ts1
     go_wp2_with fail
     refine ⟨⟨1, by omega, by go_num, by exact bel2, by exact blk3, by exact blk3, ?_, by exact blk3, by exact blk3, by exact blk3⟩, by simp [intOf]⟩
     rw [bst1]
     have hT : (t0, t1) = (u0 + a - n0, al0) := by rw [HS.out]; unfold better; rw [if_pos (by have := HM.out; simp only; omega)]
     rw [hT]
     simpa using ((d5.set 0 (.int .i64 (u0 + a - n0))).set 1 (.int .i64 (al0)))
    ·rw [decide_eq_false hm] at hl
     have HM : Hid (¬ (0 : Int) * al0 < (u0 + a - n0) * (1 : Int)) := hm
     clear hm
     go_wp2_with fail
     go_region
     go_wp2_with fail
     refine (hl _).mono ?_
     rintro e w5 ⟨rfl, hb5⟩
     have hB5 : Below w.heap.size w w5 := qac (by exact bel2) hb5
     have d3 : Blk w5 w.heap.size 178 #[.int .i64 num, .string pth, .int .i64 a, .int .i64 b, .int .i64 sx] := Blk.below (by exact blk3) hb5 (by first | omega | (simp; done) | (simp; omega))
     have d4 : Blk w5 (w.heap.size + 1) 209 #[.int .i64 0, .int .i64 0] := Blk.below (by exact blk3) hb5 (by first | omega | (simp; done) | (simp; omega))
     have d5 : Blk w5 (w.heap.size + 1 + 1) 209 #[.int .i64 (0 : Int), .int .i64 (1 : Int)] := Blk.below (by exact blk3) hb5 (by first | omega | (simp; done) | (simp; omega))
     have d6 : Blk w5 g6 35 #[.int .i64 n0, .int .i64 n1] := Blk.below (by exact blk3) hb5 (by first | omega | (simp; done) | (simp; omega))
     have d7 : Blk w5 g7 35 #[.int .i64 u0, .int .i64 u1] := Blk.below (by exact blk3) hb5 (by first | omega | (simp; done) | (simp; omega))
     have d8 : Blk w5 g8 35 #[.int .i64 al0, .int .i64 al1] := Blk.below (by exact blk3) hb5 (by first | omega | (simp; done) | (simp; omega))
     have ds : Blk w5 wr.heap.size 209 #[.int .i64 (u0 + a - n0), .int .i64 (al0)] := Blk.below (by exact (Blk.new wr 209 _).drew) hb5 (by first | omega | (simp; done) | (simp; omega))
     have t50 := d5.cell 0
     have t51 := d5.cell 1
     have f50 := d5.frozen 0
     have f51 := d5.frozen 1
     have ts0 := ds.cell 0
     have ts1 := ds.cell 1
     simp only [List.getElem?_toArray, List.getElem?_cons_zero, List.getElem?_cons_succ] at t50 t51 ts0 ts1
     go_wp2_with fail
     refine ⟨⟨1, by omega, by go_num, by exact bel2, by exact blk3, by exact blk3, ?_, by exact blk3, by exact blk3, by exact blk3⟩, by simp [intOf]⟩
     rw [bst1]
     have hT : (t0, t1) = ((0 : Int), (1 : Int)) := by rw [HS.out]; unfold better; rw [if_neg (by have := HM.out; simp only; omega)]
     rw [hT]
     exact d5
  ·-- round 1
   have x3 := c3.cell 3
   have x6 := c6.cell 1
   have x7 := c7.cell 1
   have x8 := c8.cell 1
   rw [bst1] at c5
   have x50 := c5.cell 0
   have x51 := c5.cell 1
   have m3 := c3.lt
   have m4 := c4.lt
   have m5 := c5.lt
   have m6 := c6.lt
   have m7 := c7.lt
   have m8 := c8.lt
   simp only [List.getElem?_toArray, List.getElem?_cons_zero, List.getElem?_cons_succ] at x3 x6 x7 x8 x50 x51
   have HT : Hid ((v0, v1) = better (t0, t1) (shr u1 b n1 al1)) := HT2.out
   have hz := hbel.size
   by_cases z0 : al1 = 0 \/ u1 + b - n1 < 0
   ·have hs : shr u1 b n1 al1 = (0, 1) := by unfold shr; rw [if_pos z0]
    have hl := fun W => qe9 t0 t1 0 1 (by omega) (by omega) (by omega) (by omega) W
    have HS0 : (v0, v1) = better (t0, t1) (0, 1) := by have h1 := HT.out; rw [hs] at h1; exact h1
    have HS : Hid ((v0, v1) = better (t0, t1) (0, 1)) := HS0
    clear HT hs HS0
    have z1 : al1 = 0 \/ ¬ (al1 = 0) := by omega
    have hm : ¬ (t0 * 1 < 0 * t1) := by omega
    rw [decide_eq_false hm] at hl
    rcases z1 with z1 | z1
    ·have z2 : (al1 == 0) = true := by simp [z1]
     clear z1 z0
     go_wp2_with fail
     go_region
     go_wp2_with fail
     refine (hl _).mono ?_
     rintro e w5 ⟨rfl, hb5⟩
     have hB5 : Below w.heap.size w w5 := qac (by exact bel2) hb5
     have d3 : Blk w5 w.heap.size 178 #[.int .i64 num, .string pth, .int .i64 a, .int .i64 b, .int .i64 sx] := Blk.below (by exact blk3) hb5 (by first | omega | (simp; done) | (simp; omega))
     have d4 : Blk w5 (w.heap.size + 1) 209 #[.int .i64 0, .int .i64 0] := Blk.below (by exact blk3) hb5 (by first | omega | (simp; done) | (simp; omega))
     have d5 : Blk w5 (w.heap.size + 1 + 1) 209 #[.int .i64 t0, .int .i64 t1] := Blk.below (by exact blk3) hb5 (by first | omega | (simp; done) | (simp; omega))
     have d6 : Blk w5 g6 35 #[.int .i64 n0, .int .i64 n1] := Blk.below (by exact blk3) hb5 (by first | omega | (simp; done) | (simp; omega))
     have d7 : Blk w5 g7 35 #[.int .i64 u0, .int .i64 u1] := Blk.below (by exact blk3) hb5 (by first | omega | (simp; done) | (simp; omega))
     have d8 : Blk w5 g8 35 #[.int .i64 al0, .int .i64 al1] := Blk.below (by exact blk3) hb5 (by first | omega | (simp; done) | (simp; omega))
     have ds : Blk w5 wr.heap.size 209 #[.int .i64 (0), .int .i64 (1)] := Blk.below (by exact (Blk.new wr 209 _).drew) hb5 (by first | omega | (simp; done) | (simp; omega))
     have t50 := d5.cell 0
     have t51 := d5.cell 1
     have f50 := d5.frozen 0
     have f51 := d5.frozen 1
     have ts0 := ds.cell 0
     have ts1 := ds.cell 1
     simp only [List.getElem?_toArray, List.getElem?_cons_zero, List.getElem?_cons_succ] at t50 t51 ts0 ts1
     go_wp2_with fail
     refine ⟨⟨2, by omega, by go_num, by exact bel2, by exact blk3, by exact blk3, ?_, by exact blk3, by exact blk3, by exact blk3⟩, by simp [intOf]⟩
     rw [bst2]
     have hT : (v0, v1) = (t0, t1) := by rw [HS.out]; unfold better; rw [if_neg (by simp only; omega)]
     rw [hT]
     exact d5
    ·have z2 : (al1 == 0) = false := by simp [z1]
     have z3 : u1 + b - n1 < 0 := by omega
     go_wp2_with fail
     go_region
     go_wp2_with fail
     refine (hl _).mono ?_
     rintro e w5 ⟨rfl, hb5⟩
     have hB5 : Below w.heap.size w w5 := qac (by exact bel2) hb5
     have d3 : Blk w5 w.heap.size 178 #[.int .i64 num, .string pth, .int .i64 a, .int .i64 b, .int .i64 sx] := Blk.below (by exact blk3) hb5 (by first | omega | (simp; done) | (simp; omega))
     have d4 : Blk w5 (w.heap.size + 1) 209 #[.int .i64 0, .int .i64 0] := Blk.below (by exact blk3) hb5 (by first | omega | (simp; done) | (simp; omega))
     have d5 : Blk w5 (w.heap.size + 1 + 1) 209 #[.int .i64 t0, .int .i64 t1] := Blk.below (by exact blk3) hb5 (by first | omega | (simp; done) | (simp; omega))
     have d6 : Blk w5 g6 35 #[.int .i64 n0, .int .i64 n1] := Blk.below (by exact blk3) hb5 (by first | omega | (simp; done) | (simp; omega))
     have d7 : Blk w5 g7 35 #[.int .i64 u0, .int .i64 u1] := Blk.below (by exact blk3) hb5 (by first | omega | (simp; done) | (simp; omega))
     have d8 : Blk w5 g8 35 #[.int .i64 al0, .int .i64 al1] := Blk.below (by exact blk3) hb5 (by first | omega | (simp; done) | (simp; omega))
     have ds : Blk w5 wr.heap.size 209 #[.int .i64 (0), .int .i64 (1)] := Blk.below (by exact (Blk.new wr 209 _).drew) hb5 (by first | omega | (simp; done) | (simp; omega))
     have t50 := d5.cell 0
     have t51 := d5.cell 1
     have f50 := d5.frozen 0
     have f51 := d5.frozen 1
     have ts0 := ds.cell 0
     have ts1 := ds.cell 1
     simp only [List.getElem?_toArray, List.getElem?_cons_zero, List.getElem?_cons_succ] at t50 t51 ts0 ts1
     go_wp2_with fail
     refine ⟨⟨2, by omega, by go_num, by exact bel2, by exact blk3, by exact blk3, ?_, by exact blk3, by exact blk3, by exact blk3⟩, by simp [intOf]⟩
     rw [bst2]
     have hT : (v0, v1) = (t0, t1) := by rw [HS.out]; unfold better; rw [if_neg (by simp only; omega)]
     rw [hT]
     exact d5
   ·have hs : shr u1 b n1 al1 = (u1 + b - n1, al1) := by unfold shr; rw [if_neg z0]
    have hl := fun W => qe9 t0 t1 (u1 + b - n1) al1 (by omega) (by omega) (by omega) (by omega) W
    have HS0 : (v0, v1) = better (t0, t1) (u1 + b - n1, al1) := by have h1 := HT.out; rw [hs] at h1; exact h1
    have HS : Hid ((v0, v1) = better (t0, t1) (u1 + b - n1, al1)) := HS0
    clear HT hs HS0
    have z2 : (al1 == 0) = false := by simp; omega
    have z3 : ¬ (u1 + b - n1 < 0) := by omega
    by_cases hm : t0 * al1 < (u1 + b - n1) * t1
    ·rw [decide_eq_true hm] at hl
     have HM : Hid (t0 * al1 < (u1 + b - n1) * t1) := hm
     clear hm
     go_wp2_with fail
     go_region
     go_wp2_with fail
     refine (hl _).mono ?_
     rintro e w5 ⟨rfl, hb5⟩
     have hB5 : Below w.heap.size w w5 := qac (by exact bel2) hb5
     have d3 : Blk w5 w.heap.size 178 #[.int .i64 num, .string pth, .int .i64 a, .int .i64 b, .int .i64 sx] := Blk.below (by exact blk3) hb5 (by first | omega | (simp; done) | (simp; omega))
     have d4 : Blk w5 (w.heap.size + 1) 209 #[.int .i64 0, .int .i64 0] := Blk.below (by exact blk3) hb5 (by first | omega | (simp; done) | (simp; omega))
     have d5 : Blk w5 (w.heap.size + 1 + 1) 209 #[.int .i64 t0, .int .i64 t1] := Blk.below (by exact blk3) hb5 (by first | omega | (simp; done) | (simp; omega))
     have d6 : Blk w5 g6 35 #[.int .i64 n0, .int .i64 n1] := Blk.below (by exact blk3) hb5 (by first | omega | (simp; done) | (simp; omega))
     have d7 : Blk w5 g7 35 #[.int .i64 u0, .int .i64 u1] := Blk.below (by exact blk3) hb5 (by first | omega | (simp; done) | (simp; omega))
     have d8 : Blk w5 g8 35 #[.int .i64 al0, .int .i64 al1] := Blk.below (by exact blk3) hb5 (by first | omega | (simp; done) | (simp; omega))
     have ds : Blk w5 wr.heap.size 209 #[.int .i64 (u1 + b - n1), .int .i64 (al1)] := Blk.below (by exact (Blk.new wr 209 _).drew) hb5 (by first | omega | (simp; done) | (simp; omega))
     have t50 := d5.cell 0
     have t51 := d5.cell 1
     have f50 := d5.frozen 0
     have f51 := d5.frozen 1
     have ts0 := ds.cell 0
     have ts1 := ds.cell 1
     simp only [List.getElem?_toArray, List.getElem?_cons_zero, List.getElem?_cons_succ] at t50 t51 ts0 ts1
     go_wp2_with fail
     refine ⟨⟨2, by omega, by go_num, by exact bel2, by exact blk3, by exact blk3, ?_, by exact blk3, by exact blk3, by exact blk3⟩, by simp [intOf]⟩
     rw [bst2]
     have hT : (v0, v1) = (u1 + b - n1, al1) := by rw [HS.out]; unfold better; rw [if_pos (by have := HM.out; simp only; omega)]
     rw [hT]
     simpa using ((d5.set 0 (.int .i64 (u1 + b - n1))).set 1 (.int .i64 (al1)))
    ·rw [decide_eq_false hm] at hl
     have HM : Hid (¬ t0 * al1 < (u1 + b - n1) * t1) := hm
     clear hm
     go_wp2_with fail
     go_region
     go_wp2_with fail
     refine (hl _).mono ?_
     rintro e w5 ⟨rfl, hb5⟩
     have hB5 : Below w.heap.size w w5 := qac (by exact bel2) hb5
     have d3 : Blk w5 w.heap.size 178 #[.int .i64 num, .string pth, .int .i64 a, .int .i64 b, .int .i64 sx] := Blk.below (by exact blk3) hb5 (by first | omega | (simp; done) | (simp; omega))
     have d4 : Blk w5 (w.heap.size + 1) 209 #[.int .i64 0, .int .i64 0] := Blk.below (by exact blk3) hb5 (by first | omega | (simp; done) | (simp; omega))
     have d5 : Blk w5 (w.heap.size + 1 + 1) 209 #[.int .i64 t0, .int .i64 t1] := Blk.below (by exact blk3) hb5 (by first | omega | (simp; done) | (simp; omega))
     have d6 : Blk w5 g6 35 #[.int .i64 n0, .int .i64 n1] := Blk.below (by exact blk3) hb5 (by first | omega | (simp; done) | (simp; omega))
     have d7 : Blk w5 g7 35 #[.int .i64 u0, .int .i64 u1] := Blk.below (by exact blk3) hb5 (by first | omega | (simp; done) | (simp; omega))
     have d8 : Blk w5 g8 35 #[.int .i64 al0, .int .i64 al1] := Blk.below (by exact blk3) hb5 (by first | omega | (simp; done) | (simp; omega))
     have ds : Blk w5 wr.heap.size 209 #[.int .i64 (u1 + b - n1), .int .i64 (al1)] := Blk.below (by exact (Blk.new wr 209 _).drew) hb5 (by first | omega | (simp; done) | (simp; omega))
     have t50 := d5.cell 0
     have t51 := d5.cell 1
     have f50 := d5.frozen 0
     have f51 := d5.frozen 1
     have ts0 := ds.cell 0
     have ts1 := ds.cell 1
     simp only [List.getElem?_toArray, List.getElem?_cons_zero, List.getElem?_cons_succ] at t50 t51 ts0 ts1
     go_wp2_with fail
     refine ⟨⟨2, by omega, by go_num, by exact bel2, by exact blk3, by exact blk3, ?_, by exact blk3, by exact blk3, by exact blk3⟩, by simp [intOf]⟩
     rw [bst2]
     have hT : (v0, v1) = (t0, t1) := by rw [HS.out]; unfold better; rw [if_neg (by have := HM.out; simp only; omega)]
     rw [hT]
     exact d5
  ·have x50 := c5.cell 0
   have x51 := c5.cell 1
   have x40 := c4.cell 0
   have x41 := c4.cell 1
   have y40 := c4.frozen 0
   have y41 := c4.frozen 1
   rw [bst2] at x50 x51
   simp only [List.getElem?_toArray, List.getElem?_cons_zero, List.getElem?_cons_succ] at x50 x51 x40 x41
   go_wp2_with fail
   have b4' := (c4.set 0 (.int .i64 v0)).set 1 (.int .i64 v1)
   have hc' := b4'.cell
   refine bodyPost_ret (v := .agg #[.int .i64 v0, .int .i64 v1]) ?_ rfl ⟨rfl, by exact bel2⟩
   simp [results, Tryz.results160, go_sem, hc']
end Go.Proofs.YtphclnolomgjoaaGreatDoor
