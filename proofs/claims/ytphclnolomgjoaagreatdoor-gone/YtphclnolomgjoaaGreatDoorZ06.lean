import Derived.Test.YtphclnolomgjoaaGreatDoorZ02
import Derived.Test.YtphclnolomgjoaaGreatDoorB37
import Derived.Test.YtphclnolomgjoaaGreatDoorZ01
import Derived.Deep.RegionWith
set_option linter.unusedVariables false
set_option linter.unusedSimpArgs false
namespace Go.Proofs.YtphclnolomgjoaaGreatDoor
open Go.RowKit
section
variable {F : Nat → Prop} {W w' : World} {rb : Nat} {R R' : KR}
variable {bt : Nat}
theorem RunB.boxed (h : RunB bt F W rb R) {fn : Nat} {args : Array Value} (hs : ∀ (G : Nat → Prop) (Wx : World), RunB bt G Wx rb R → Calls Tryz.prog fn args Wx fun e w' => e = .returned (.bool true) ∧ RunB bt G w' rb R' ∧ Keep (fun b => ¬ G b) Wx w') {t : TypeId} {vs : Array Value} (Wx : World) (hb : Below W.heap.size W Wx) (hB : Blk Wx W.heap.size t vs) :
    Calls Tryz.prog fn args Wx fun e w1 => e = .returned (.bool true) ∧ Blk w1 W.heap.size t vs ∧ Hid (RunB bt F w1 rb R' ∧ Keep (fun b => ¬ F b) W w1) := by
  have h2 := h.more hb (G := fun b => F b ∨ b = W.heap.size) (fun b e => by
    rcases e with e | e
    · exact .inl e
    · exact .inr ⟨by omega, by rw [e]; exact hB.lt⟩)
  refine (hs _ Wx h2).mono ?_
  rintro e w1 ⟨rfl, g1, g2⟩
  exact ⟨rfl, hB.keep g2 (fun e => e (.inr rfl)), g1.less (fun b e => .inl e), (Keep.new hb).trans (g2.mono (fun b e1 e2 => e1 (.inl e2)))⟩
set_option maxRecDepth 100000 in
set_option maxHeartbeats 4000000 in
theorem kstep_subB (h : RunB bt F W rb R) {k a b c : Int} (hk : I64 k) (ha : I64 a) (hb : I64 b) (hc : I64 c) (hk4 : pkN k 8 < 4) (hs : ∀ (G : Nat → Prop) (Wx : World), RunB bt G Wx rb R → Calls Tryz.prog 24 #[.pointer (some ⟨rb, 0, none⟩), .int .i64 (pkN a 5), .agg #[.int .i64 (pkN b 16), .int .i64 (pkN c 16)]] Wx fun e w' => e = .returned (.bool true) ∧ RunB bt G w' rb R' ∧ Keep (fun b => ¬ G b) Wx w') :
    Calls Tryz.prog 17 #[.pointer (some ⟨rb, 0, none⟩), .agg #[.int .i64 k, .int .i64 a, .int .i64 b, .int .i64 c]] W fun e w' => e = .returned (.bool true) ∧ RunB bt F w' rb R' ∧ Keep (fun b => ¬ F b) W w' := by
  have h24 := h.boxed hs (t := 32) (vs := #[.int .i64 k, .int .i64 a, .int .i64 b, .int .i64 c])
  have p1 := qfz k 8 hk (by omega) (by omega)
  have p2 := qfz a 5 ha (by omega) (by omega)
  have am := qli b c 16 hb hc (by omega) (by omega)
  have hk4' : (pkN k 8 : Int) < 4 := by omega
  have b0 : Blk (W.alloc (.cells #[.int .i64 k, .int .i64 a, .int .i64 b, .int .i64 c] 32)) W.heap.size 32 #[.int .i64 k, .int .i64 a, .int .i64 b, .int .i64 c] := Blk.new W 32 _
  generalize (pkN k 8 : Int) = kk at *
  generalize (pkN a 5 : Int) = xa at *
  generalize (pkN b 16 : Int) = xb at *
  generalize (pkN c 16 : Int) = xc at *
  clear h hs
  go_enter Tryz.func17, Tryz.ntmps17
  go_upto_region 3 with (go_at_call 23; refine (p1 _).mono ?_; rintro e w1 ⟨rfl, hw1⟩; subst hw1)
  go_region_with (first
    | (go_at_call 23; refine (p2 _).mono ?_; rintro e w2 ⟨rfl, hw2⟩; subst hw2)
    | (go_at_call 41; refine (am _).mono ?_; rintro e w3 ⟨rfl, hb3⟩; have b3 := b0.drew.below hb3 (by simp); have z1 := b3.cell 1; simp only [List.getElem?_toArray, List.getElem?_cons_zero, List.getElem?_cons_succ] at z1)
    | (go_at_call 24; refine (h24 _ ?_ ?_).mono ?_; (focus exact bel2); (focus exact blk2); rintro e w4 ⟨rfl, hb4, hend⟩))
  all_goals go_wp2_with fail
  all_goals go_ret
  all_goals exact ⟨rfl, hend.out⟩
end
end Go.Proofs.YtphclnolomgjoaaGreatDoor
namespace Go.Proofs.YtphclnolomgjoaaGreatDoor
open Go.RowKit
section
variable {F : Nat → Prop} {W w' : World} {rb : Nat} {R R' : KR}
variable {bt : Nat}
set_option maxRecDepth 100000 in
set_option maxHeartbeats 4000000 in
theorem kstep_finB (h : RunB bt F W rb R) {k a b c : Int} (hk : I64 k) (ha : I64 a) (hk4 : 4 ≤ pkN k 8 ∧ pkN k 8 < 6) (hn0 : 0 < R.works.length) (hn24 : R.works.length ≤ 24) (hs : ∀ (G : Nat → Prop) (Wx : World), RunB bt G Wx rb R → Calls Tryz.prog 42 #[.pointer (some ⟨rb, 0, none⟩), .int .i64 (pkN a R.works.length)] Wx fun e w' => e = .returned (.bool true) ∧ RunB bt G w' rb R' ∧ Keep (fun b => ¬ G b) Wx w') :
    Calls Tryz.prog 17 #[.pointer (some ⟨rb, 0, none⟩), .agg #[.int .i64 k, .int .i64 a, .int .i64 b, .int .i64 c]] W fun e w' => e = .returned (.bool true) ∧ RunB bt F w' rb R' ∧ Keep (fun b => ¬ F b) W w' := by
  have h42 := h.boxed hs (t := 32) (vs := #[.int .i64 k, .int .i64 a, .int .i64 b, .int .i64 c])
  obtain ⟨P, vp, vw, vl, h⟩ := h
  obtain ⟨aw, cw, hvw, hcw1, hcw2⟩ := qa7 h.wrow
  have c2 := h.at_.cell 2
  simp only [List.getElem?_toArray, List.getElem?_cons_zero, List.getElem?_cons_succ] at c2
  rw [hvw] at c2
  have l2 := h.at_.lt
  have m2 := World.new_ne W _ c2
  have p1 := qfz k 8 hk (by omega) (by omega)
  have p2 := qfz a R.works.length ha hn0 (by omega)
  have hk1 : ¬ ((pkN k 8 : Int) < 4) := by omega
  have hk2 : (pkN k 8 : Int) < 6 := by omega
  have hni : (0 : Int) < R.works.length := by omega
  have b0 : Blk (W.alloc (.cells #[.int .i64 k, .int .i64 a, .int .i64 b, .int .i64 c] 32)) W.heap.size 32 #[.int .i64 k, .int .i64 a, .int .i64 b, .int .i64 c] := Blk.new W 32 _
  generalize (pkN k 8 : Int) = kk at *
  generalize (pkN a R.works.length : Int) = xa at *
  generalize R.works.length = n at *
  clear h hs hvw
  go_enter Tryz.func17, Tryz.ntmps17
  go_upto_region 5 with (go_at_call 23; refine (p1 _).mono ?_; clear p1; rintro e w1 ⟨rfl, hw1⟩; subst hw1)
  go_region_with (first
    | (go_at_call 23; refine (p2 _).mono ?_; rintro e w2 ⟨rfl, hw2⟩; subst hw2)
    | (go_at_call 42; refine (h42 _ ?_ ?_).mono ?_; (focus exact bel2); (focus exact blk2); rintro e w4 ⟨rfl, hb4, hend⟩))
  all_goals go_wp2_with fail
  all_goals go_ret
  all_goals exact ⟨rfl, hend.out⟩
set_option maxRecDepth 100000 in
set_option maxHeartbeats 4000000 in
theorem kstep_noneB (h : RunB bt F W rb R) {k a b c : Int} (hk : I64 k) (hk4 : 4 ≤ pkN k 8 ∧ pkN k 8 < 6) (hn0 : R.works.length = 0) :
    Calls Tryz.prog 17 #[.pointer (some ⟨rb, 0, none⟩), .agg #[.int .i64 k, .int .i64 a, .int .i64 b, .int .i64 c]] W fun e w' => e = .returned (.bool true) ∧ RunB bt F w' rb R ∧ Keep (fun b => ¬ F b) W w' := by
  have HR : Hid (RunB bt F W rb R) := h
  obtain ⟨P, vp, vw, vl, h⟩ := h
  obtain ⟨aw, cw, hvw, hcw1, hcw2⟩ := qa7 h.wrow
  rw [hn0] at hvw
  have c2 := h.at_.cell 2
  simp only [List.getElem?_toArray, List.getElem?_cons_zero, List.getElem?_cons_succ] at c2
  rw [hvw] at c2
  have l2 := h.at_.lt
  have m2 := World.new_ne W _ c2
  have p1 := qfz k 8 hk (by omega) (by omega)
  have hk1 : ¬ ((pkN k 8 : Int) < 4) := by omega
  have hk2 : (pkN k 8 : Int) < 6 := by omega
  have hk3 : ¬ ((pkN k 8 : Int) = 6) := by omega
  have hk5 : ¬ ((pkN k 8 : Int) = 7) := by omega
  have b0 : Blk (W.alloc (.cells #[.int .i64 k, .int .i64 a, .int .i64 b, .int .i64 c] 32)) W.heap.size 32 #[.int .i64 k, .int .i64 a, .int .i64 b, .int .i64 c] := Blk.new W 32 _
  generalize (pkN k 8 : Int) = kk at *
  clear h hvw
  go_enter Tryz.func17, Tryz.ntmps17
  go_wp2_with (go_at_call 23; refine (p1 _).mono ?_; clear p1; rintro e w1 ⟨rfl, hw1⟩; subst hw1)
  go_ret
  have hB : Below W.heap.size W (W.alloc (.cells #[.int .i64 k, .int .i64 a, .int .i64 b, .int .i64 c] 32)) := by exact bel2
  exact ⟨rfl, HR.out.below hB, Keep.new hB⟩
end
end Go.Proofs.YtphclnolomgjoaaGreatDoor
namespace Go.Proofs.YtphclnolomgjoaaGreatDoor
open Go.RowKit
section
variable {F : Nat → Prop} {W w' : World} {rb : Nat} {R R' : KR}
variable {bt : Nat}
set_option maxRecDepth 100000 in
set_option maxHeartbeats 4000000 in
theorem kstep_quoB (h : RunB bt F W rb R) {k a b c : Int} (hk : I64 k) (ha : I64 a) (hk4 : pkN k 8 = 6) (hn0 : R.paths.length = 8) (hs : ∀ (G : Nat → Prop) (Wx : World), RunB bt G Wx rb R → Calls Tryz.prog 43 #[.pointer (some ⟨rb, 0, none⟩), .int .i64 (pkN a 8), .agg #[.int .i64 k, .int .i64 a, .int .i64 b, .int .i64 c]] Wx fun e w' => e = .returned (.bool true) ∧ RunB bt G w' rb R' ∧ Keep (fun b => ¬ G b) Wx w') :
    Calls Tryz.prog 17 #[.pointer (some ⟨rb, 0, none⟩), .agg #[.int .i64 k, .int .i64 a, .int .i64 b, .int .i64 c]] W fun e w' => e = .returned (.bool true) ∧ RunB bt F w' rb R' ∧ Keep (fun b => ¬ F b) W w' := by
  have h43 := h.boxed hs (t := 32) (vs := #[.int .i64 k, .int .i64 a, .int .i64 b, .int .i64 c])
  obtain ⟨P, vp, vw, vl, h⟩ := h
  obtain ⟨ap, cp, hvp, hcp1, hcp2⟩ := qa7 h.prow
  rw [hn0] at hvp
  have c1 := h.at_.cell 1
  simp only [List.getElem?_toArray, List.getElem?_cons_zero, List.getElem?_cons_succ] at c1
  rw [hvp] at c1
  have l2 := h.at_.lt
  have m1 := World.new_ne W _ c1
  have p1 := qfz k 8 hk (by omega) (by omega)
  have p2 := qfz a 8 ha (by omega) (by omega)
  have hk1 : ¬ ((pkN k 8 : Int) < 4) := by omega
  have hk2 : ¬ ((pkN k 8 : Int) < 6) := by omega
  have hk3 : (pkN k 8 : Int) = 6 := by omega
  have b0 : Blk (W.alloc (.cells #[.int .i64 k, .int .i64 a, .int .i64 b, .int .i64 c] 32)) W.heap.size 32 #[.int .i64 k, .int .i64 a, .int .i64 b, .int .i64 c] := Blk.new W 32 _
  rw [hk3] at p1
  generalize (pkN a 8 : Int) = xa at *
  clear h hs hvp hk1 hk2 hk3
  go_enter Tryz.func17, Tryz.ntmps17
  go_upto_region 7 with (go_at_call 23; refine (p1 _).mono ?_; clear p1; rintro e w1 ⟨rfl, hw1⟩; subst hw1)
  go_region_with (first
    | (go_at_call 23; refine (p2 _).mono ?_; rintro e w2 ⟨rfl, hw2⟩; subst hw2)
    | (go_at_call 43; refine (h43 _ ?_ ?_).mono ?_; (focus exact bel2); (focus exact blk2); rintro e w4 ⟨rfl, hb4, hend⟩))
  all_goals go_wp2_with fail
  all_goals go_ret
  all_goals exact ⟨rfl, hend.out⟩
end
end Go.Proofs.YtphclnolomgjoaaGreatDoor
