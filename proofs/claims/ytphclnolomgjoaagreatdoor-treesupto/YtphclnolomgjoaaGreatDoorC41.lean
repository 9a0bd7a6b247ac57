import Derived.Test.YtphclnolomgjoaaGreatDoorC06
import Derived.Test.YtphclnolomgjoaaGreatDoorC40
import Derived.BigQuiet
import Derived.Deep.RegionHeld3
import Derived.Deep.CutRange
import Derived.Test.YtphclnolomgjoaaGreatDoorC39
import Derived.Test.YtphclnolomgjoaaGreatDoorCards
import Derived.Test.YtphclnolomgjoaaGreatDoorTie
import Derived.WalkKit
import Derived.ProofKit
import Derived.OpenShut
import Derived.Deep.Slices
import Derived.Deep.DeepHandedRow
import Derived.Carry
import Derived.Lay
set_option linter.unusedVariables false
set_option linter.unusedSimpArgs false
namespace Go.Proofs.YtphclnolomgjoaaGreatDoor
open Go.RowKit
theorem qk4 (l : List Wk) : qfq l = (l.map (·.num)).map fun m => Value.int .i64 m := by unfold qfq; rw [List.map_map]; rfl
def qww (W : World) (bt br : Nat) (s : ByteArray) : Prop :=
 ∃ (pth : ByteArray) (lf : Bool) (i0 i1 i2 i3 i4 i5 er : Int) (l : List Int), l.length <= 24 /\
  (∀ W1, Below W.heap.size W W1 -> Calls Tryz.prog 34 #[.pointer (some ⟨bt, 0, none⟩), .string s] W1 fun e w' => ∃ a c, e = .returned (.tuple #[.agg #[.string pth, .bool lf, .int .i64 i0, .int .i64 i1, .int .i64 i2, .int .i64 i3, .int .i64 i4, .int .i64 i5, .slice a l.length c], .int .i64 er]) /\ Below W1.heap.size W1 w' /\ w'.ownsRow 0 3 1 (.slice a l.length c) l.length (l.map fun m => .int .i64 m) /\ (∀ b, (Value.slice a l.length c).ownBlock = some b -> W1.heap.size <= b)) /\
  (∀ W1, Below W.heap.size W W1 -> Calls Tryz.prog 124 #[.pointer (some ⟨br, 0, none⟩), .string s] W1 fun e w' => ∃ a c, e = .returned (.tuple #[.agg #[.string pth, .bool lf, .int .i64 i0, .int .i64 i1, .int .i64 i2, .int .i64 i3, .int .i64 i4, .int .i64 i5, .slice a l.length c], .int .i64 er]) /\ Below W1.heap.size W1 w' /\ w'.ownsRow 0 3 1 (.slice a l.length c) l.length (l.map fun m => .int .i64 m) /\ (∀ b, (Value.slice a l.length c).ownBlock = some b -> W1.heap.size <= b))
theorem qpr {τ : Nat -> Tag} {W : World} {t K : Nat} {x : Tw} (hT : TwS τ W t x) (A : qbj K x) (s : ByteArray) (hs : s.size <= 2000000) : qww W x.bt x.br s := by
 have TT := A.com.tree
 have hB := hT.P.pr.qlc
 obtain ⟨r, hr0, htw⟩ := hT.P.bk
 obtain ⟨hrm, hrk⟩ := qeh TT hr0
 have hp := fun W1 (hb : Below W.heap.size W W1) => qmn TT hB (htw.below hb) hrm hrk s hs
 have hq := fun W1 (hb : Below W.heap.size W W1) => qq6 (hT.R.below hb) A.ents A.inv.wks.wks A.einj s hs
 rw [A.L] at hq
 have hfe : qcv (x.nodes.map Node.ent) (qaa (bl s)) = (findKey x.nodes (qaa (bl s))).map Node.ent := qft _ _
 have hnil : ∀ w' : World, w'.ownsRow 0 3 1 (.slice none 0 0) 0 [] := fun w' => World.ownsRow_nil _ _ _ _
 cases hv : qar (bl s) with
 | false =>
  refine ⟨⟨#[]⟩, false, 0, 0, 0, 0, 0, 0, 1, [], by simp, fun W1 hb => (hp W1 hb).mono fun e w' h => ?_, fun W1 hb => (hq W1 hb).mono fun e w' h => ?_⟩
  ·unfold QueR at h
   rw [if_pos hv] at h
   exact ⟨none, 0, h.1, h.2, hnil _, fun b hb => by cases hb⟩
  ·obtain ⟨h1, h2⟩ := h
   rcases h2 with ⟨_, h2⟩ | ⟨h2, _⟩ | ⟨h2, _⟩
   ·exact ⟨none, 0, h2, h1, hnil _, fun b hb => by cases hb⟩
   ·rw [hv] at h2; cases h2
   ·rw [hv] at h2; cases h2
 | true =>
  cases hf : findKey x.nodes (qaa (bl s)) with
  | none =>
   rw [hf] at hfe
   refine ⟨⟨#[]⟩, false, 0, 0, 0, 0, 0, 0, 3, [], by simp, fun W1 hb => (hp W1 hb).mono fun e w' h => ?_, fun W1 hb => (hq W1 hb).mono fun e w' h => ?_⟩
   ·unfold QueR at h
    rw [if_neg (by simp [hv])] at h
    simp only [hf] at h
    exact ⟨none, 0, h.1, h.2, hnil _, fun b hb => by cases hb⟩
   ·obtain ⟨h1, h2⟩ := h
    rcases h2 with ⟨h2, _⟩ | ⟨_, _, h2⟩ | ⟨_, y, slv, h2, _⟩
    ·rw [hv] at h2; cases h2
    ·exact ⟨none, 0, h2, h1, hnil _, fun b hb => by cases hb⟩
    ·rw [hfe] at h2; cases h2
  | some n =>
   obtain ⟨hn, hnk⟩ := qbw hf
   rw [hf] at hfe
   have hwt := A.com.rel.qth TT hB hn
   have htold := A.com.rel.told TT A.inv.wks.wks hn
   have hl24 : (qam x.Ws n.key x.Ws.length).length <= 24 := by
    have h1 : (qam x.Ws n.key x.Ws.length).length <= x.Ws.length := by
     unfold qam; rw [List.take_length]; exact List.length_filter_le _ _
    have h2 : x.Ws.length <= 24 := A.inv.wks.wks.len
    omega
   refine ⟨sb (joinB n.ent.key), n.ent.leaf, es0 (qaf (x.nodes.map Node.ent) (joinB n.ent.key)), es1 (qaf (x.nodes.map Node.ent) (joinB n.ent.key)), n.ent.b0, n.ent.b1, ws0 (qae x.Ws (joinB n.ent.key)), ws1 (qae x.Ws (joinB n.ent.key)), 0, (qam x.Ws n.key x.Ws.length).map (·.num), by simpa using hl24, fun W1 hb => (hp W1 hb).mono fun e w' h => ?_, fun W1 hb => (hq W1 hb).mono fun e w' h => ?_⟩
   ·unfold QueR at h
    rw [if_neg (by simp [hv])] at h
    simp only [hf] at h
    obtain ⟨v', rfl, h1, h2, h3⟩ := h
    rw [hwt.1, hwt.2, qk4] at h1
    rw [htold]
    have hlen : (qam x.Ws n.key x.Ws.length).length = ((qam x.Ws n.key x.Ws.length).map (·.num)).length := by simp
    rw [hlen] at h1
    obtain ⟨a, c, rfl⟩ := qev h1
    exact ⟨a, c, rfl, h2, h1, h3⟩
   ·obtain ⟨h1, h2⟩ := h
    rcases h2 with ⟨h2, _⟩ | ⟨_, h2, _⟩ | ⟨_, y, slv, h2, rfl, h3, h4⟩
    ·rw [hv] at h2; cases h2
    ·rw [hfe] at h2; cases h2
    ·rw [hfe] at h2
     simp only [Option.map_some, Option.some.injEq] at h2
     subst h2
     rw [qk4] at h3
     have hlen : (qam x.Ws n.ent.key x.Ws.length).length = ((qam x.Ws n.key x.Ws.length).map (·.num)).length := by simp; rfl
     rw [hlen] at h3
     obtain ⟨a, c, rfl⟩ := qev h3
     exact ⟨a, c, rfl, h1, h3, h4⟩
theorem qgp {w1 w2 : World} (hb : Below w1.heap.size w1 w2) {e : TypeId} {c n : Nat} {v : Value} {xs : List Value} (h : w1.ownsRow 0 e c v n xs) : w2.ownsRow 0 e c v n xs := qab (T := fun _ => False) h (Keep.new hb) (fun _ _ h => h)
def AskR (τ : Nat -> Tag) (W : World) (bw : Nat) (slT : Value) (N : Nat) (e : Ending) (w' : World) : Prop :=
 ∃ o W1, (∀ b, o = some b -> W.heap.size <= b) /\ Below W.heap.size W W1 /\ qro (qde τ W.heap.size) W1 o bw slT N e w'
set_option maxRecDepth 100000 in
set_option maxHeartbeats 2000000 in
theorem qoz {τ : Nat -> Tag} {W : World} {bw : Nat} {slT slN slE slA slB : Value} {ns es : List Value} {ms me : List Int} (h : qgh τ W bw slT slN slE slA slB ns es ms me) (N : Nat) (hN : N <= 900000000) (hl1 : ns.length <= N) (hl2 : es.length <= N)
  {bt br : Nat} (s s2 : ByteArray) (hQ : qww W bt br s) (T a0 a1 c0 c1 nm : Int) :
  Calls Tryz.prog 75 #[.pointer (some ⟨bw, 0, none⟩), .agg #[.pointer (some ⟨bt, 0, none⟩), .pointer (some ⟨br, 0, none⟩)], .agg #[.int .i64 4, .int .i64 T, .string s, .string s2, .int .i64 a0, .int .i64 a1, .int .i64 c0, .int .i64 c1, .int .i64 nm]] W (AskR τ W bw slT (N + 4)) := by
 obtain ⟨pth, lf, i0, i1, i2, i3, i4, i5, er, l, hl24, hq1, hq2⟩ := hQ
 have hlook : ∀ W1, Below W.heap.size W W1 -> Calls Tryz.prog 37 #[.pointer (some ⟨bw, 0, none⟩)] W1 fun e w' => e = .returned (.bool true) /\ Below W1.heap.size W1 w' := fun W1 hb => by
  have hh := h.below hb
  exact qhq hh.blk hh.N hh.E (by omega) (by omega)
 have hown : ∀ W1 a c, Below W.heap.size W W1 -> W1.ownsRow 0 3 1 (.slice a l.length c) l.length (l.map fun m => .int .i64 m) -> (∀ b, (Value.slice a l.length c).ownBlock = some b -> W.heap.size <= b) -> Calls Tryz.prog 126 #[.pointer (some ⟨bw, 0, none⟩), .slice a l.length c] W1 fun e w' => e = .returned (.tuple #[]) /\ AskR τ W bw slT (N + 4) (.returned (.bool true)) w' := fun W1 a c hb hr hf => by
  refine (qm6 (h.below hb) (by omega) hr (by omega) (fun b hb' => qe4 (hf b hb'))).mono ?_
  rintro e w' ⟨rfl, τ', slN', slA', ns', ms', hT, hI, hlen⟩
  exact ⟨rfl, _, W1, hf, hb, rfl, τ', _, _, _, _, _, _, _, _, hT, hI, by omega, by omega⟩
 have hsame := fun w aA aB cA cB (r1 : World.ownsRow w 0 3 1 (.slice aA l.length cA) l.length (l.map fun m => .int .i64 m)) (r2 : World.ownsRow w 0 3 1 (.slice aB l.length cB) l.length (l.map fun m => .int .i64 m)) => qkp (w := w) (aA := aA) (aB := aB) (cA := cA) (cB := cB) (l := l) rfl (by omega) (qho r1) (qho r2) (qlo r1) (qlo r2) pth lf i0 i1 i2 i3 i4 i5
 generalize AskR τ W bw slT (N + 4) = X at hown ⊢
 clear h
 generalize (l.map fun m => Value.int .i64 m) = lv at *
 generalize l.length = n at *
 have b4 : Blk ((W.alloc (.cells #[.pointer (some ⟨bt, 0, none⟩), .pointer (some ⟨br, 0, none⟩)] 128)).alloc (.cells #[.int .i64 4, .int .i64 T, .string s, .string s2, .int .i64 a0, .int .i64 a1, .int .i64 c0, .int .i64 c1, .int .i64 nm] 87)) W.heap.size 128 #[.pointer (some ⟨bt, 0, none⟩), .pointer (some ⟨br, 0, none⟩)] := (Blk.new W 128 _).alloc _
 have b5 : Blk ((W.alloc (.cells #[.pointer (some ⟨bt, 0, none⟩), .pointer (some ⟨br, 0, none⟩)] 128)).alloc (.cells #[.int .i64 4, .int .i64 T, .string s, .string s2, .int .i64 a0, .int .i64 a1, .int .i64 c0, .int .i64 c1, .int .i64 nm] 87)) (W.heap.size + 1) 87 #[.int .i64 4, .int .i64 T, .string s, .string s2, .int .i64 a0, .int .i64 a1, .int .i64 c0, .int .i64 c1, .int .i64 nm] := Blk.new' (by simp)
 go_enter Tryz.func75, Tryz.ntmps75
 go_wp2_with (first
  | (go_at_call 34; refine (hq1 _ ?_).mono ?_; (focus exact bel2); rintro e w1 ⟨ra, rc, rfl, hb1, hr1, hf1⟩; have hB1 : Below W.heap.size W w1 := qac (by exact bel2) hb1; have d4 := b4.below hb1 (by simp <;> omega); have d5 := b5.below hb1 (by simp <;> omega); have e0 := d4.cell 1; have e2 := d5.cell 2; have hz1 := hB1.size; have l5 := d5.lt; have l4 := d4.lt; simp only [List.getElem?_toArray, List.getElem?_cons_zero, List.getElem?_cons_succ] at e0 e2)
  | (go_at_call 124; refine (hq2 _ ?_).mono ?_; (focus exact bel2); rintro e w2 ⟨sa, sc, rfl, hb2, hr2, hf2⟩; have hB2 : Below W.heap.size W w2 := qac (hB1.alloc hz1 _) hb2; have hr12 := qgp hb2 (hr1.alloc (.cells #[.string pth, .bool lf, .int .i64 i0, .int .i64 i1, .int .i64 i2, .int .i64 i3, .int .i64 i4, .int .i64 i5, .slice ra n rc] 37)); have f7 := (Blk.new w1 37 #[.string pth, .bool lf, .int .i64 i0, .int .i64 i1, .int .i64 i2, .int .i64 i3, .int .i64 i4, .int .i64 i5, .slice ra n rc]).below hb2 (by simp); have hz2 := hB2.size; have l7 := f7.lt; have c7 := f7.cell)
  | (go_at_call 125; refine (hsame _ _ _ _ _ (hr12.alloc _) (hr2.alloc _)).mono ?_; rintro e w3 ⟨rfl, hb3⟩; have hB3 : Below W.heap.size W w3 := qac (hB2.alloc hz2 _) hb3; have hr13 := qgp hb3 (hr12.alloc _); have f7' := (f7.alloc _).below hb3 (by simp; omega); clear c7; have c7 := f7'.cell 8; simp only [List.getElem?_toArray, List.getElem?_cons_zero, List.getElem?_cons_succ] at c7)
  | (go_at_call 37; refine (hlook _ hB3).mono ?_; rintro e w4 ⟨rfl, hb4⟩; have hB4 : Below W.heap.size W w4 := qac hB3 hb4; have hr14 := qgp hb4 hr13; have f7'' := f7'.below hb4 f7'.lt; have c78 := f7''.cell 8; simp only [List.getElem?_toArray, List.getElem?_cons_zero, List.getElem?_cons_succ] at c78)
  | (go_at_call 126; refine (hown _ _ _ hB4 hr14 (fun b hb => by have := hf1 b hb; simp at this; omega)).mono ?_; rintro e w5 ⟨rfl, hX⟩)
  | (go_at_call 112; refine (qm0 _ _).mono ?_; rintro e w6 ⟨rfl, hw6⟩; subst hw6))
 all_goals exact hX
theorem qmo {n₀ : Nat} {τ : Nat -> Tag} {W : World} {bw : Nat} {tws : List Tw} {K : Nat} {t : Nat} {x : Tw} (hK : K <= 2000000) (h : St n₀ τ W bw tws (200 * K)) (hA : ∀ y ∈ tws, qbj K y) (hx : tws[t]? = some x) (s s2 : ByteArray) (hs : s.size <= 2000000) (T a0 a1 c0 c1 nm : Int) (W1 : World) (hb : Below W.heap.size W W1) :
  Calls Tryz.prog 75 #[.pointer (some ⟨bw, 0, none⟩), .agg #[.pointer (some ⟨x.bt, 0, none⟩), .pointer (some ⟨x.br, 0, none⟩)], .agg #[.int .i64 4, .int .i64 T, .string s, .string s2, .int .i64 a0, .int .i64 a1, .int .i64 c0, .int .i64 c1, .int .i64 nm]] W1 (qci n₀ τ W bw tws.length (K + 1)) := by
 have h1 := h.below hb
 obtain ⟨slT, slN, slE, slA, slB, ns, es, ms, me, hS⟩ := id h1
 have hT := hS.tw t x hx
 have A := hA x (List.mem_of_getElem? hx)
 refine (qoz hS.law (200 * K) (by omega) hS.n1 hS.n2 s s2 (qpr hT A s hs) T a0 a1 c0 c1 nm).mono ?_
 rintro e w' ⟨o, W2, ho, hb2, hR⟩
 obtain ⟨slT2, slN2, slE2, slA2, slB2, ns2, es2, ms2, me2, hS2⟩ := h1.below hb2
 have hTR := hR
 obtain ⟨hr1, τ3, r1, r2, r3, r4, r5, r6, r7, r8, hO, hL, _⟩ := hR
 have hz := hb.size
 have : slT2 = slT := by
  have e1 := hS.law.blk.below hb2 hS.law.blk.lt
  have e2 := hS2.law.blk
  unfold Blk at e1 e2
  rw [e1] at e2
  simp at e2
  exact e2.1.symm
 subst this
 obtain ⟨τ2, k1, slT', slN', slE', slA', slB', ns', es', ms', me', k2⟩ := St.told hS2 (fun b hb' => ⟨qe4 (ho b hb'), by have := ho b hb'; have := hS.le; omega⟩) hTR
 refine ⟨hTR.1, τ2, tws, ((qbh.below hb).trans (qbh.below hb2)).own k1 (fun b hb' => by have := ho b hb'; omega), ⟨slT', slN', slE', slA', slB', ns', es', ms', me', k2.law, by have := k2.n1; omega, by have := k2.n2; omega, k2.row, k2.tT, k2.tw, k2.lo, k2.le⟩, fun y hy => (hA y hy).mono (by omega), Nat.le_refl _, Nat.le_succ _⟩
set_option maxRecDepth 100000 in
set_option maxHeartbeats 2000000 in
theorem qps {n₀ : Nat} {τ : Nat -> Tag} {W : World} {bw : Nat} {tws : List Tw} {K : Nat} (hK : K <= 1999999) (h : St n₀ τ W bw tws (200 * K)) (hA : ∀ y ∈ tws, qbj K y) (hpos : 0 < tws.length) (hmax : tws.length <= 100000000) (s s2 : ByteArray) (hs : s.size <= 2000000) (hs2 : s2.size <= 2000000) (T a0 a1 c0 c1 nm : Int)
  (hT1 : -9223372036854775808 <= T) (hT2 : T <= 9223372036854775807) :
  Calls Tryz.prog 36 #[.pointer (some ⟨bw, 0, none⟩), .agg #[.int .i64 4, .int .i64 T, .string s, .string s2, .int .i64 a0, .int .i64 a1, .int .i64 c0, .int .i64 c1, .int .i64 nm]] W (qci n₀ τ W bw tws.length (K + 1)) := by
 obtain ⟨gT, cT, hbw, hgT, hcT1, hcT2, hc0, hcells⟩ := h.qh5 hpos
 obtain ⟨r, hr, hpick⟩ := qem T tws.length hT1 hT2 hpos (by omega)
 obtain ⟨x, hx⟩ : ∃ x, tws[r]? = some x := ⟨_, List.getElem?_eq_getElem hr⟩
 have h25 := fun W1 hb => qmo (by omega) h hA (t := r) (x := x) hx s s2 hs T a0 a1 c0 c1 nm W1 hb
 obtain ⟨q0, q1⟩ := hcells r x hx
 obtain ⟨k, hk⟩ : ∃ k, k = tws.length := ⟨_, rfl⟩
 rw [<- hk] at hpos hmax hcT1 hc0 h25 hr hpick ⊢
 have h25 : ∀ W1, Below W.heap.size W W1 -> Calls Tryz.prog 75 #[.pointer (some ⟨bw, 0, none⟩), .agg #[.pointer (some ⟨x.bt, 0, none⟩), .pointer (some ⟨x.br, 0, none⟩)], .agg #[.int .i64 4, .int .i64 T, .string s, .string s2, .int .i64 a0, .int .i64 a1, .int .i64 c0, .int .i64 c1, .int .i64 nm]] W1 fun e w' => e = .returned (.bool true) /\ qci n₀ τ W bw k (K + 1) (.returned (.bool true)) w' := fun W1 hM => (h25 W1 hM).mono (fun e w' hS => ⟨hS.1, by rw [<- hS.1]; exact hS⟩)
 generalize qci n₀ τ W bw k (K + 1) = X at h25 ⊢
 clear h hA hk hcells hx
 generalize x.bt = bt at h25 q0
 generalize x.br = br at h25 q1
 have hr1 : (r : Int) < k := by omega
 have hr0 : (0 : Int) <= r := by omega
 have hk0 : ((k : Int) == 0) = false := by simp; omega
 have b3 : Blk (W.alloc (.cells #[.int .i64 4, .int .i64 T, .string s, .string s2, .int .i64 a0, .int .i64 a1, .int .i64 c0, .int .i64 c1, .int .i64 nm] 87)) W.heap.size 87 #[.int .i64 4, .int .i64 T, .string s, .string s2, .int .i64 a0, .int .i64 a1, .int .i64 c0, .int .i64 c1, .int .i64 nm] := Blk.new W 87 _
 have hB0 : Below W.heap.size W (W.alloc (.cells #[.int .i64 4, .int .i64 T, .string s, .string s2, .int .i64 a0, .int .i64 a1, .int .i64 c0, .int .i64 c1, .int .i64 nm] 87)) := (Below.refl _ _).alloc (Nat.le_refl _) _
 go_enter Tryz.func36, Tryz.ntmps36
 go_upto_region 7 with fail
 generalize W.alloc (.cells #[.int .i64 4, .int .i64 T, .string s, .string s2, .int .i64 a0, .int .i64 a1, .int .i64 c0, .int .i64 c1, .int .i64 nm] 87) = W0 at b3 hB0 ⊢
 have hs0 := hB0.size
 have lt3 := b3.lt
 have d0 := (hB0.cell (p := ⟨bw, 0, none⟩) hbw).trans hc0
 have d1 := b3.cell 1
 have p0 := (hB0.cell (p := ⟨gT, r * 2, none⟩) hgT).trans q0
 have p1 := (hB0.cell (p := ⟨gT, r * 2 + 1, none⟩) hgT).trans q1
 simp only [List.getElem?_toArray, List.getElem?_cons_zero, List.getElem?_cons_succ] at d1
 clear hc0 q0 q1
 have n1 : ¬ (bw = W0.heap.size) := by omega
 have n2 : ¬ (gT = W0.heap.size) := by omega
 have n3 : ¬ (W.heap.size = W0.heap.size) := by omega
 have hbw0 : bw < W0.heap.size := by omega
 have hgT0 : gT < W0.heap.size := by omega
 go_cut [6] from 62 to 75 (fun q wx => ∃ b6, q = .pointer (some ⟨b6, 0, none⟩) /\ Below W.heap.size W wx /\ Blk wx b6 128 #[.pointer (some ⟨bt, 0, none⟩), .pointer (some ⟨br, 0, none⟩)] /\ Blk wx W.heap.size 87 #[.int .i64 4, .int .i64 T, .string s, .string s2, .int .i64 a0, .int .i64 a1, .int .i64 c0, .int .i64 c1, .int .i64 nm] /\ W.heap.size < b6)
 case first =>
  go_region_held3 (fun w' => w'.cell? ⟨bw, 0, none⟩ = some (.slice (some ⟨gT, 0, none⟩) k cT) /\ w'.cell? ⟨W.heap.size, 1, none⟩ = some (.int .i64 T) /\ w'.cell? ⟨gT, r * 2, none⟩ = some (.pointer (some ⟨bt, 0, none⟩)) /\ w'.cell? ⟨gT, r * 2 + 1, none⟩ = some (.pointer (some ⟨br, 0, none⟩))) (go_keep)
   (first
   | (go_at_call 66; refine (hpick _).mono ?_; rintro e w1 ⟨rfl, hw1⟩; subst hw1))
  all_goals go_wp2_with fail
  all_goals go_meet
  all_goals exact ⟨_, rfl, (by exact bel2), (by first | (with_reducible exact Blk.new' (by simp)) | (with_reducible exact Blk.drew (Blk.new' (by simp)))), (by exact blk2), lt3⟩
 case rest =>
  obtain ⟨b6, rfl, hBc, b6c, b3c, hlt6⟩ := hcut
  clear hpick p0 p1 d0 d1 b3 hB0
  have hzc := hBc.size
  have e60 := b6c.cell 0
  have e61 := b6c.cell 1
  have e3 := b3c.cell
  simp only [List.getElem?_toArray, List.getElem?_cons_zero, List.getElem?_cons_succ] at e60 e61
  go_wp2_with (go_at_call 75; refine (h25 _ hBc).mono ?_; rintro e w1 ⟨rfl, hX⟩)
  all_goals exact hX
set_option maxRecDepth 100000 in
set_option maxHeartbeats 2000000 in
theorem qp6 {n₀ : Nat} {τ : Nat -> Tag} {W : World} {bw : Nat} {tws : List Tw} {K : Nat} (hK : K <= 1999999) (h : St n₀ τ W bw tws (200 * K)) (hA : ∀ y ∈ tws, qbj K y) (hpos : 0 < tws.length) (hmax : tws.length <= 100000000) (s s2 : ByteArray) (hs : s.size <= 2000000) (hs2 : s2.size <= 2000000) (z : Int) (T a0 a1 c0 c1 nm : Int)
  (hT1 : -9223372036854775808 <= T) (hT2 : T <= 9223372036854775807) (hz : z <= 0 \/ 11 < z) :
  Calls Tryz.prog 36 #[.pointer (some ⟨bw, 0, none⟩), .agg #[.int .i64 z, .int .i64 T, .string s, .string s2, .int .i64 a0, .int .i64 a1, .int .i64 c0, .int .i64 c1, .int .i64 nm]] W (qci n₀ τ W bw tws.length (K + 1)) := by
 obtain ⟨gT, cT, hbw, hgT, hcT1, hcT2, hc0, hcells⟩ := h.qh5 hpos
 obtain ⟨r, hr, hpick⟩ := qem T tws.length hT1 hT2 hpos (by omega)
 obtain ⟨x, hx⟩ : ∃ x, tws[r]? = some x := ⟨_, List.getElem?_eq_getElem hr⟩
 obtain ⟨q0, q1⟩ := hcells r x hx
 obtain ⟨k, hk⟩ : ∃ k, k = tws.length := ⟨_, rfl⟩
 rw [<- hk] at hpos hmax hcT1 hc0 hr hpick ⊢
 have hfin : ∀ W1, Below W.heap.size W W1 -> qci n₀ τ W bw k (K + 1) (.returned (.bool true)) W1 := fun W1 hb => by
  obtain ⟨slT, slN, slE, slA, slB, ns, es, ms, me, hS⟩ := h.below hb
  exact ⟨rfl, _, tws, qbh.below hb, ⟨slT, slN, slE, slA, slB, ns, es, ms, me, ⟨hS.law, by have := hS.n1; omega, by have := hS.n2; omega, hS.row, hS.tT, hS.tw, hS.lo, hS.le⟩⟩, fun y hy => (hA y hy).mono (by omega), by omega, by omega⟩
 have HF : Hid (∀ W1, Below W.heap.size W W1 -> qci n₀ τ W bw k (K + 1) (.returned (.bool true)) W1) := hfin
 clear hfin
 generalize qci n₀ τ W bw k (K + 1) = X at HF ⊢
 clear h hA hk hcells hx
 generalize x.bt = bt at q0
 generalize x.br = br at q1
 have z1 : (z == 1) = false := by simp; omega
 have z2 : (z == 2) = false := by simp; omega
 have z3 : (z == 3) = false := by simp; omega
 have z4 : (z == 4) = false := by simp; omega
 have z5 : (z == 5) = false := by simp; omega
 have z6 : (z == 6) = false := by simp; omega
 have z7 : (z == 7) = false := by simp; omega
 have z8 : (z == 8) = false := by simp; omega
 have z9 : (z == 9) = false := by simp; omega
 have z10 : (z == 10) = false := by simp; omega
 have z11 : (z == 11) = false := by simp; omega
 clear hz
 have hr1 : (r : Int) < k := by omega
 have hr0 : (0 : Int) <= r := by omega
 have hk0 : ((k : Int) == 0) = false := by simp; omega
 have b3 : Blk (W.alloc (.cells #[.int .i64 z, .int .i64 T, .string s, .string s2, .int .i64 a0, .int .i64 a1, .int .i64 c0, .int .i64 c1, .int .i64 nm] 87)) W.heap.size 87 #[.int .i64 z, .int .i64 T, .string s, .string s2, .int .i64 a0, .int .i64 a1, .int .i64 c0, .int .i64 c1, .int .i64 nm] := Blk.new W 87 _
 have hB0 : Below W.heap.size W (W.alloc (.cells #[.int .i64 z, .int .i64 T, .string s, .string s2, .int .i64 a0, .int .i64 a1, .int .i64 c0, .int .i64 c1, .int .i64 nm] 87)) := (Below.refl _ _).alloc (Nat.le_refl _) _
 go_enter Tryz.func36, Tryz.ntmps36
 go_upto_region 7 with fail
 generalize W.alloc (.cells #[.int .i64 z, .int .i64 T, .string s, .string s2, .int .i64 a0, .int .i64 a1, .int .i64 c0, .int .i64 c1, .int .i64 nm] 87) = W0 at b3 hB0 ⊢
 have hs0 := hB0.size
 have lt3 := b3.lt
 have d0 := (hB0.cell (p := ⟨bw, 0, none⟩) hbw).trans hc0
 have d1 := b3.cell 1
 have p0 := (hB0.cell (p := ⟨gT, r * 2, none⟩) hgT).trans q0
 have p1 := (hB0.cell (p := ⟨gT, r * 2 + 1, none⟩) hgT).trans q1
 simp only [List.getElem?_toArray, List.getElem?_cons_zero, List.getElem?_cons_succ] at d1
 clear hc0 q0 q1
 have n1 : ¬ (bw = W0.heap.size) := by omega
 have n2 : ¬ (gT = W0.heap.size) := by omega
 have n3 : ¬ (W.heap.size = W0.heap.size) := by omega
 have hbw0 : bw < W0.heap.size := by omega
 have hgT0 : gT < W0.heap.size := by omega
 go_cut [6] from 62 to 75 (fun q wx => ∃ b6, q = .pointer (some ⟨b6, 0, none⟩) /\ Below W.heap.size W wx /\ Blk wx b6 128 #[.pointer (some ⟨bt, 0, none⟩), .pointer (some ⟨br, 0, none⟩)] /\ Blk wx W.heap.size 87 #[.int .i64 z, .int .i64 T, .string s, .string s2, .int .i64 a0, .int .i64 a1, .int .i64 c0, .int .i64 c1, .int .i64 nm] /\ W.heap.size < b6)
 case first =>
  go_region_held3 (fun w' => w'.cell? ⟨bw, 0, none⟩ = some (.slice (some ⟨gT, 0, none⟩) k cT) /\ w'.cell? ⟨W.heap.size, 1, none⟩ = some (.int .i64 T) /\ w'.cell? ⟨gT, r * 2, none⟩ = some (.pointer (some ⟨bt, 0, none⟩)) /\ w'.cell? ⟨gT, r * 2 + 1, none⟩ = some (.pointer (some ⟨br, 0, none⟩))) (go_keep)
   (first
   | (go_at_call 66; refine (hpick _).mono ?_; rintro e w1 ⟨rfl, hw1⟩; subst hw1))
  all_goals go_wp2_with fail
  all_goals go_meet
  all_goals exact ⟨_, rfl, (by exact bel2), (by first | (with_reducible exact Blk.new' (by simp)) | (with_reducible exact Blk.drew (Blk.new' (by simp)))), (by exact blk2), lt3⟩
 case rest =>
  obtain ⟨b6, rfl, hBc, b6c, b3c, hlt6⟩ := hcut
  clear hpick p0 p1 d0 d1 b3 hB0
  have hzc := hBc.size
  have e60 := b6c.cell 0
  have e61 := b6c.cell 1
  have e3 := b3c.cell
  simp only [List.getElem?_toArray, List.getElem?_cons_zero, List.getElem?_cons_succ] at e60 e61
  go_wp2
  all_goals exact HF.out _ (by exact bel2)
end Go.Proofs.YtphclnolomgjoaaGreatDoor
namespace Go.Proofs.YtphclnolomgjoaaGreatDoor
open Go.ChangeShapes Go.WideShapes Go.ChangeAt Go.RowKit
theorem qmp {H : Type} (d : DataW H) : 1 <= Rows.uptoBulk d := by
 cases d with
 | lit l => cases l <;> simp [Rows.uptoBulk]
 | nil => simp [Rows.uptoBulk]
 | ptr d => simp [Rows.uptoBulk]
 | slice elems spare => simp [Rows.uptoBulk]
 | agg parts => simp [Rows.uptoBulk]
 | iface t d => simp [Rows.uptoBulk]
 | map entries => simp [Rows.uptoBulk]
 | held h => simp [Rows.uptoBulk]
theorem qhx {H : Type} {d : DataW H} {l : List (DataW H)} (h : d ∈ l) : Rows.uptoBulk d <= Rows.uptoBulkAll l := by
 induction l with
 | nil => cases h
 | cons x r ih =>
  simp only [Rows.uptoBulkAll]
  cases List.mem_cons.1 h with
  | inl e => subst e; omega
  | inr e => have := ih e; omega
theorem qmr {H : Type} (l : List (DataW H)) : l.length <= Rows.uptoBulkAll l := by
 induction l with
 | nil => simp [Rows.uptoBulkAll]
 | cons x r ih => have := qmp x; simp only [Rows.uptoBulkAll, List.length_cons]; omega
theorem qkc : Tryz.prog.cellsOf 87 = 9 := by kernel_rfl
theorem qfp : Tryz.prog.cellsOf 35 = 2 := by kernel_rfl
theorem qh8 : Tryz.prog.cellsOf 3 = 1 := by kernel_rfl
theorem qq7 : Tryz.prog.cellsOf 9 = 1 := by kernel_rfl
section
variable {H : Type} {enc : TypeId × Value -> H} {w : World} {base : Nat} {spare : Nat -> Bool} {held : Bool}
theorem qn6 {P : Program} (u35 : P.underlying 35 = some (.array 2 3)) (u3 : P.underlying 3 = some (.int .i64)) (qfp : P.cellsOf 35 = 2) (qh8 : P.cellsOf 3 = 1) {fuel : Nat} {cs : List Value} {x : DataW H × List MemPlace} (h : DataW.trod enc P w base spare held fuel 35 cs = some x) : ∃ a b : Int, cs = [.int .i64 a, .int .i64 b] := by
 obtain ⟨xs, m, rfl, rfl, hl, hx, hf⟩ := DataW.trod_array u35 h
 rw [qfp] at hl
 match cs, hl, xs, hx with
 | [v0, v1], _, [y0, y1], _ =>
  have g0 := hf 0 (by omega)
  have g1 := hf 1 (by omega)
  simp [qh8] at g0 g1
  obtain ⟨a, e0, _⟩ := DataW.trod_int u3 g0
  obtain ⟨b, e1, _⟩ := DataW.trod_int u3 g1
  simp at e0 e1
  exact ⟨a, b, by rw [e0, e1]⟩
theorem qvi {P : Program} {fs : Array Field} (u87 : P.underlying 87 = some (.struct fs)) (hfs : (fs.map fun f => (f.type, f.offset)) = #[(3, 0), (3, 1), (9, 2), (9, 3), (35, 4), (35, 6), (3, 8)]) (u35 : P.underlying 35 = some (.array 2 3)) (u3 : P.underlying 3 = some (.int .i64)) (u9 : P.underlying 9 = some .string) (qkc : P.cellsOf 87 = 9) (qfp : P.cellsOf 35 = 2) (qh8 : P.cellsOf 3 = 1) (qq7 : P.cellsOf 9 = 1) {fuel : Nat} {cs : List Value} {x : DataW H × List MemPlace} (h : DataW.trod enc P w base spare held fuel 87 cs = some x) :
  ∃ o : OpC, cs = o.cells.toList /\ (o.s.size <= Rows.uptoBulk x.1 /\ o.s2.size <= Rows.uptoBulk x.1 /\ -9223372036854775808 <= o.nm /\ o.nm <= 9223372036854775807) /\ -9223372036854775808 <= o.t /\ o.t <= 9223372036854775807 := by
 obtain ⟨xs, k, rfl, rfl, hl, hx, hf⟩ := DataW.trod_struct u87 h
 rw [qkc] at hl
 have hsz : fs.size = 7 := by have := congrArg Array.size hfs; simpa using this
 rw [hsz] at hx
 have hf' : ∀ (i : Nat) (t off : Nat), (#[(3, 0), (3, 1), (9, 2), (9, 3), (35, 4), (35, 6), (3, 8)] : Array (Nat × Nat))[i]? = some (t, off) -> DataW.trod enc P w base spare held k t ((cs.drop off).take (P.cellsOf t)) = xs[i]? := fun i t off hi => by
  rw [<- hfs, Array.getElem?_map] at hi
  obtain ⟨f, h1, h2⟩ := Option.map_eq_some_iff.1 hi
  simp only [Prod.mk.injEq] at h2
  rw [<- h2.1, <- h2.2]
  exact hf i f h1
 match cs, hl, xs, hx with
 | [v0, v1, v2, v3, v4, v5, v6, v7, v8], _, [y0, y1, y2, y3, y4, y5, y6], _ =>
  have g0 := hf' 0 _ _ rfl
  have g1 := hf' 1 _ _ rfl
  have g2 := hf' 2 _ _ rfl
  have g3 := hf' 3 _ _ rfl
  have g4 := hf' 4 _ _ rfl
  have g5 := hf' 5 _ _ rfl
  have g6 := hf' 6 _ _ rfl
  simp [qh8, qq7, qfp] at g0 g1 g2 g3 g4 g5 g6
  obtain ⟨k0, e0, _⟩ := DataW.trod_int u3 g0
  obtain ⟨t0, e1, _, wt⟩ := DataW.trod_int u3 g1
  obtain ⟨s, e2, es, _⟩ := DataW.trod_string u9 g2
  obtain ⟨s2, e3, es2, _⟩ := DataW.trod_string u9 g3
  obtain ⟨a0, a1, e4⟩ := qn6 u35 u3 qfp qh8 g4
  obtain ⟨c0, c1, e5⟩ := qn6 u35 u3 qfp qh8 g5
  obtain ⟨nm, e6, _, wn⟩ := DataW.trod_int u3 g6
  simp at e0 e1 e2 e3 e4 e5 e6
  obtain ⟨rfl, rfl⟩ := e4
  obtain ⟨rfl, rfl⟩ := e5
  subst e0 e1 e2 e3 e6
  refine ⟨⟨k0, t0, s, s2, a0, a1, c0, c1, nm⟩, rfl, ?_, ?_⟩
  ·have h1 : Rows.uptoBulk y2.1 <= Rows.uptoBulkAll ([y0, y1, y2, y3, y4, y5, y6].map (·.1)) := qhx (by simp)
   have k1 : Rows.uptoBulk y3.1 <= Rows.uptoBulkAll ([y0, y1, y2, y3, y4, y5, y6].map (·.1)) := qhx (by simp)
   subst es es2
   have h2 : ∀ q : ByteArray, Rows.uptoBulk (DataW.lit (H := H) (.string q.data.toList)) = q.data.toList.length + 1 := fun q => by simp only [Rows.uptoBulk]
   rw [h2, Array.length_toList] at h1 k1
   have h3 : s.size = s.data.size := rfl
   have k3 : s2.size = s2.data.size := rfl
   have h4 : ∀ l : List (DataW H), Rows.uptoBulk (.agg l) = Rows.uptoBulkAll l + 1 := fun l => by simp only [Rows.uptoBulk]
   rw [h4]
   simp only [Lit.wf, Bool.and_eq_true, decide_eq_true_eq] at wn
   rw [show IntKind.i64.min = -9223372036854775808 by decide, show IntKind.i64.max = 9223372036854775807 by decide] at wn
   refine ⟨?_, ?_, wn.1, wn.2⟩
   ·show s.size <= _
    omega
   ·show s2.size <= _
    omega
  ·simp only [Lit.wf, Bool.and_eq_true, decide_eq_true_eq] at wt
   rw [show IntKind.i64.min = -9223372036854775808 by decide, show IntKind.i64.max = 9223372036854775807 by decide] at wt
   exact wt
theorem qm1 {fuel : Nat} {v : Value} {d : DataW H} {ps : List MemPlace} (h : DataW.trod enc Tryz.prog w 0 spare held fuel 22 v.cells.toList = some (d, ps)) (hv : v.cells.toList = [v]) :
  ∃ ao len cap O, v = .slice ao len cap /\ len <= cap /\ cap <= maxLen /\ qfd w ao len O /\ len <= Rows.uptoBulk d /\ ∀ i, i < len -> ((O i).s.size <= Rows.uptoBulk d /\ (O i).s2.size <= Rows.uptoBulk d /\ -9223372036854775808 <= (O i).nm /\ (O i).nm <= 9223372036854775807) /\ -9223372036854775808 <= (O i).t /\ (O i).t <= 9223372036854775807 := by
 rw [hv] at h
 rcases Deep.open_slice Tryz.underlying22 h with ⟨hc, hx⟩ | ⟨a, len, cap, m, n, D, Pl, hc, _, hl, hm, hmm, hx, hel⟩
 ·simp at hc hx
  exact ⟨none, 0, 0, fun _ => ⟨0, 0, ⟨#[]⟩, ⟨#[]⟩, 0, 0, 0, 0, 0⟩, hc, Nat.le_refl _, Nat.zero_le _, fun i hi => by omega, Nat.zero_le _, fun i hi => by omega⟩
 ·simp only [Prod.mk.injEq] at hx
  have hd := hx.1
  have hlm : len <= m := by rw [hmm]; split <;> omega
  have : Inhabited OpC := ⟨⟨0, 0, ⟨#[]⟩, ⟨#[]⟩, 0, 0, 0, 0, 0⟩⟩
  obtain ⟨O, hO⟩ := Deep.choose_lt (α := OpC) (n := len) (p := fun i o => (∀ j v, o.cells[j]? = some v -> w.cell? (a.add (i * 9 + j)) = some v) /\ (o.s.size <= Rows.uptoBulk (D i) /\ o.s2.size <= Rows.uptoBulk (D i) /\ -9223372036854775808 <= o.nm /\ o.nm <= 9223372036854775807) /\ -9223372036854775808 <= o.t /\ o.t <= 9223372036854775807) (fun i hi => by
   obtain ⟨cs', h1, h2⟩ := hel i (by omega)
   rw [qkc] at h1
   obtain ⟨_, hlen, hcell⟩ := World.cells?_some h1
   obtain ⟨o, rfl, o1, o2⟩ := qvi Tryz.underlying87 (by kernel_rfl) Tryz.underlying35 Tryz.underlying3 Tryz.underlying9 qkc qfp qh8 qq7 h2
   refine ⟨o, fun j u hu => ?_, o1, o2⟩
   have hj : j < 9 := by
    rcases Nat.lt_or_ge j 9 with h | h
    ·exact h
    ·rw [Array.getElem?_eq_none (by simp [OpC.cells]; omega)] at hu; cases hu
   have := hcell j hj
   rw [Deep.add_add] at this
   rw [this]; simpa using hu)
  refine ⟨some a, len, cap, O, by simpa using hc, hl, hm, fun i hi => ?_, ?_, fun i hi => ⟨?_, (hO i hi).2.2⟩⟩
  ·have h0 := (hO 0 (by omega)).1 0 _ rfl
   have hsp := World.cell?_spot h0
   have hal : a.block < w.heap.size := by
    rcases Nat.lt_or_ge a.block w.heap.size with h | h
    ·exact h
    ·rw [World.cell?] at h0; simp [Addr.add, Array.getElem?_eq_none h] at h0
   obtain ⟨b, off, sp⟩ := a
   simp [Addr.add] at hsp
   subst hsp
   have hh := fun j v hj => (hO i hi).1 j v hj
   simp only [Addr.add_lit] at hh
   refine ⟨b, off, rfl, hal, ?_, ?_, ?_, ?_, ?_, ?_, ?_, ?_, ?_⟩
   ·exact hh 0 _ rfl
   ·exact hh 1 _ rfl
   ·exact hh 2 _ rfl
   ·exact hh 3 _ rfl
   ·exact hh 4 _ rfl
   ·exact hh 5 _ rfl
   ·exact hh 6 _ rfl
   ·exact hh 7 _ rfl
   ·exact hh 8 _ rfl
  ·rw [hd]
   have h1 := qmr ((List.range len).map D)
   simp only [Rows.uptoBulk]
   simp at h1
   omega
  ·obtain ⟨h1, h1b, h1c⟩ := (hO i hi).2.1
   have h2 : Rows.uptoBulk (D i) <= Rows.uptoBulkAll ((List.range len).map D) := qhx (List.mem_map.2 ⟨i, List.mem_range.2 hi, rfl⟩)
   rw [hd]
   simp only [Rows.uptoBulk]
   exact ⟨by omega, by omega, h1c⟩
end
def qkn (f : Nat) : Prop := ∀ (W : World) (ao : Option Addr) (len cap : Nat) (O : Nat -> OpC), len <= cap -> cap <= maxLen -> qfd W ao len O -> len <= 1048576 -> (∀ i, i < len -> ((O i).s.size <= 1048576 /\ (O i).s2.size <= 1048576 /\ -9223372036854775808 <= (O i).nm /\ (O i).nm <= 9223372036854775807) /\ -9223372036854775808 <= (O i).t /\ (O i).t <= 9223372036854775807) ->
 Calls Tryz.prog f #[.slice ao len cap] W fun e w' => e = .returned (.bool true) /\ Below W.heap.size W w'
theorem own : ownKnob Tryz.prog.godebug = none := by kernel_rfl
theorem laidOut : laidOutB Tryz.prog = true := by kernel_rfl
theorem qgf {H : Type} {enc : TypeId × Value -> H} {C : Checked} {os : Os} {f : FuncId} {fn : Func} {s : OpenSpec} {conds : List PathCond} {apart : Bool} {laid : List (String × DataW Unit)} (w0 : World) (args : Array Value) (hos : w0.os = os)
  (hsh : (w0.forCall (fun _ _ => 0) ⟨#[], args, []⟩).Shaped C.prog)
  (hok : Input.okWideB C.prog (w0.forCall (fun _ _ => 0) ⟨#[], args, []⟩) f ⟨#[], args, []⟩ = true)
  (hrow : s.preRow enc C.prog fn conds apart laid (w0.forCall (fun _ _ => 0) ⟨#[], args, []⟩).memory args) :
  ∃ (w : World) (tape : Tape) (i : Input), w.os = os /\ (w.forCall tape i).Shaped C.prog /\ i.vars = [] /\ Input.okWide C.prog (w.forCall tape i) .any w.heap.size f i /\
   s.preRow enc C.prog fn conds apart laid (w.forCall tape i).memory i.args /\ ({} : Assume).holds C.prog (lone (Frame.enter C.prog f i.args .normal) [] (w.forCall tape i)) :=
 ⟨w0, fun _ _ => 0, ⟨#[], args, []⟩, hos, hsh, (Input.okWide_of_okWideB (base := 0) hok).1, (Input.okWide_of_okWideB hok).2, hrow, by
  simp only [Assume.holds]
  simp⟩
end Go.Proofs.YtphclnolomgjoaaGreatDoor
