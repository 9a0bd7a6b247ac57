import Derived.Test.YtphclnolomgjoaaGreatDoorC06
import Derived.Test.YtphclnolomgjoaaGreatDoorC40
import Derived.BigQuiet
import Derived.Deep.RegionHeld3
import Derived.Deep.CutRange
set_option linter.unusedVariables false
set_option linter.unusedSimpArgs false
namespace Go.Proofs.YtphclnolomgjoaaGreatDoor
open Go.RowKit
theorem qk4 (l : List Wk) : qfq l = (l.map (·.num)).map fun m => Value.int .i64 m := by unfold qfq; rw [List.map_map]; rfl
def qww (W : World) (bt br : Nat) (s : ByteArray) : Prop :=
 ∃ (pth : ByteArray) (lf : Bool) (i0 i1 i2 i3 i4 i5 er : Int) (l : List Int), l.length <= 24 /\
  (∀ W1, Below W.heap.size W W1 -> Calls Tryz.prog 34 #[.pointer (some ⟨bt, 0, none⟩), .string s] W1 fun e w' => ∃ a c, e = .returned (.tuple #[.agg #[.string pth, .bool lf, .int .i64 i0, .int .i64 i1, .int .i64 i2, .int .i64 i3, .int .i64 i4, .int .i64 i5, .slice a l.length c], .int .i64 er]) /\ Below W1.heap.size W1 w' /\ w'.ownsRow 0 3 1 (.slice a l.length c) l.length (l.map fun m => .int .i64 m) /\ (∀ b, (Value.slice a l.length c).ownBlock = some b -> W1.heap.size <= b)) /\
  (∀ W1, Below W.heap.size W W1 -> Calls Tryz.prog 124 #[.pointer (some ⟨br, 0, none⟩), .string s] W1 fun e w' => ∃ a c, e = .returned (.tuple #[.agg #[.string pth, .bool lf, .int .i64 i0, .int .i64 i1, .int .i64 i2, .int .i64 i3, .int .i64 i4, .int .i64 i5, .slice a l.length c], .int .i64 er]) /\ Below W1.heap.size W1 w' /\ w'.ownsRow 0 3 1 (.slice a l.length c) l.length (l.map fun m => .int .i64 m) /\ (∀ b, (Value.slice a l.length c).ownBlock = some b -> W1.heap.size <= b))
theorem qpr {τ : Nat -> Tag} {W : World} {t K : Nat} {x : Tw} (hT : TwS τ W t x) (A : qbj K x) (s : ByteArray) (hs : s.size <= 2000000) : qww W x.bt x.br s := by
 have TT := A.com.tree
 have hB := hT.P.pr.qlc
 obtain ⟨r, hr0, htw⟩ := hT.P.bk
 obtain ⟨hrm, hrk⟩ := qeh TT hr0
 have hp := fun W1 (hb : Below W.heap.size W W1) => qmn TT hB (htw.below hb) hrm hrk s hs
 have hq := fun W1 (hb : Below W.heap.size W W1) => qq6 (hT.R.below hb) A.ents A.inv.wks.wks A.einj s hs
 rw [A.L] at hq
 have hfe : qcv (x.nodes.map Node.ent) (qaa (bl s)) = (findKey x.nodes (qaa (bl s))).map Node.ent := qft _ _
 have hnil : ∀ w' : World, w'.ownsRow 0 3 1 (.slice none 0 0) 0 [] := fun w' => World.ownsRow_nil _ _ _ _
 cases hv : qar (bl s) with
 | false =>
  refine ⟨⟨#[]⟩, false, 0, 0, 0, 0, 0, 0, 1, [], by simp, fun W1 hb => (hp W1 hb).mono fun e w' h => ?_, fun W1 hb => (hq W1 hb).mono fun e w' h => ?_⟩
  ·unfold QueR at h
   rw [if_pos hv] at h
   exact ⟨none, 0, h.1, h.2, hnil _, fun b hb => by cases hb⟩
  ·obtain ⟨h1, h2⟩ := h
   rcases h2 with ⟨_, h2⟩ | ⟨h2, _⟩ | ⟨h2, _⟩
   ·exact ⟨none, 0, h2, h1, hnil _, fun b hb => by cases hb⟩
   ·rw [hv] at h2; cases h2
   ·rw [hv] at h2; cases h2
 | true =>
  cases hf : findKey x.nodes (qaa (bl s)) with
  | none =>
   rw [hf] at hfe
   refine ⟨⟨#[]⟩, false, 0, 0, 0, 0, 0, 0, 3, [], by simp, fun W1 hb => (hp W1 hb).mono fun e w' h => ?_, fun W1 hb => (hq W1 hb).mono fun e w' h => ?_⟩
   ·unfold QueR at h
    rw [if_neg (by simp [hv])] at h
    simp only [hf] at h
    exact ⟨none, 0, h.1, h.2, hnil _, fun b hb => by cases hb⟩
   ·obtain ⟨h1, h2⟩ := h
    rcases h2 with ⟨h2, _⟩ | ⟨_, _, h2⟩ | ⟨_, y, slv, h2, _⟩
    ·rw [hv] at h2; cases h2
    ·exact ⟨none, 0, h2, h1, hnil _, fun b hb => by cases hb⟩
    ·rw [hfe] at h2; cases h2
  | some n =>
   obtain ⟨hn, hnk⟩ := qbw hf
   rw [hf] at hfe
   have hwt := A.com.rel.qth TT hB hn
   have htold := A.com.rel.told TT A.inv.wks.wks hn
   have hl24 : (qam x.Ws n.key x.Ws.length).length <= 24 := by
    have h1 : (qam x.Ws n.key x.Ws.length).length <= x.Ws.length := by
     unfold qam; rw [List.take_length]; exact List.length_filter_le _ _
    have h2 : x.Ws.length <= 24 := A.inv.wks.wks.len
    omega
   refine ⟨sb (joinB n.ent.key), n.ent.leaf, es0 (qaf (x.nodes.map Node.ent) (joinB n.ent.key)), es1 (qaf (x.nodes.map Node.ent) (joinB n.ent.key)), n.ent.b0, n.ent.b1, ws0 (qae x.Ws (joinB n.ent.key)), ws1 (qae x.Ws (joinB n.ent.key)), 0, (qam x.Ws n.key x.Ws.length).map (·.num), by simpa using hl24, fun W1 hb => (hp W1 hb).mono fun e w' h => ?_, fun W1 hb => (hq W1 hb).mono fun e w' h => ?_⟩
   ·unfold QueR at h
    rw [if_neg (by simp [hv])] at h
    simp only [hf] at h
    obtain ⟨v', rfl, h1, h2, h3⟩ := h
    rw [hwt.1, hwt.2, qk4] at h1
    rw [htold]
    have hlen : (qam x.Ws n.key x.Ws.length).length = ((qam x.Ws n.key x.Ws.length).map (·.num)).length := by simp
    rw [hlen] at h1
    obtain ⟨a, c, rfl⟩ := qev h1
    exact ⟨a, c, rfl, h2, h1, h3⟩
   ·obtain ⟨h1, h2⟩ := h
    rcases h2 with ⟨h2, _⟩ | ⟨_, h2, _⟩ | ⟨_, y, slv, h2, rfl, h3, h4⟩
    ·rw [hv] at h2; cases h2
    ·rw [hfe] at h2; cases h2
    ·rw [hfe] at h2
     simp only [Option.map_some, Option.some.injEq] at h2
     subst h2
     rw [qk4] at h3
     have hlen : (qam x.Ws n.ent.key x.Ws.length).length = ((qam x.Ws n.key x.Ws.length).map (·.num)).length := by simp; rfl
     rw [hlen] at h3
     obtain ⟨a, c, rfl⟩ := qev h3
     exact ⟨a, c, rfl, h1, h3, h4⟩
theorem qgp {w1 w2 : World} (hb : Below w1.heap.size w1 w2) {e : TypeId} {c n : Nat} {v : Value} {xs : List Value} (h : w1.ownsRow 0 e c v n xs) : w2.ownsRow 0 e c v n xs := qab (T := fun _ => False) h (Keep.new hb) (fun _ _ h => h)
def AskR (τ : Nat -> Tag) (W : World) (bw : Nat) (slT : Value) (N : Nat) (e : Ending) (w' : World) : Prop :=
 ∃ o W1, (∀ b, o = some b -> W.heap.size <= b) /\ Below W.heap.size W W1 /\ qro (qde τ W.heap.size) W1 o bw slT N e w'
set_option maxRecDepth 100000 in
set_option maxHeartbeats 2000000 in
theorem qoz {τ : Nat -> Tag} {W : World} {bw : Nat} {slT slN slE slA slB : Value} {ns es : List Value} {ms me : List Int} (h : qgh τ W bw slT slN slE slA slB ns es ms me) (N : Nat) (hN : N <= 900000000) (hl1 : ns.length <= N) (hl2 : es.length <= N)
  {bt br : Nat} (s s2 : ByteArray) (hQ : qww W bt br s) (T a0 a1 c0 c1 nm : Int) :
  Calls Tryz.prog 75 #[.pointer (some ⟨bw, 0, none⟩), .agg #[.pointer (some ⟨bt, 0, none⟩), .pointer (some ⟨br, 0, none⟩)], .agg #[.int .i64 4, .int .i64 T, .string s, .string s2, .int .i64 a0, .int .i64 a1, .int .i64 c0, .int .i64 c1, .int .i64 nm]] W (AskR τ W bw slT (N + 4)) := by
 obtain ⟨pth, lf, i0, i1, i2, i3, i4, i5, er, l, hl24, hq1, hq2⟩ := hQ
 have hlook : ∀ W1, Below W.heap.size W W1 -> Calls Tryz.prog 37 #[.pointer (some ⟨bw, 0, none⟩)] W1 fun e w' => e = .returned (.bool true) /\ Below W1.heap.size W1 w' := fun W1 hb => by
  have hh := h.below hb
  exact qhq hh.blk hh.N hh.E (by omega) (by omega)
 have hown : ∀ W1 a c, Below W.heap.size W W1 -> W1.ownsRow 0 3 1 (.slice a l.length c) l.length (l.map fun m => .int .i64 m) -> (∀ b, (Value.slice a l.length c).ownBlock = some b -> W.heap.size <= b) -> Calls Tryz.prog 126 #[.pointer (some ⟨bw, 0, none⟩), .slice a l.length c] W1 fun e w' => e = .returned (.tuple #[]) /\ AskR τ W bw slT (N + 4) (.returned (.bool true)) w' := fun W1 a c hb hr hf => by
  refine (qm6 (h.below hb) (by omega) hr (by omega) (fun b hb' => qe4 (hf b hb'))).mono ?_
  rintro e w' ⟨rfl, τ', slN', slA', ns', ms', hT, hI, hlen⟩
  exact ⟨rfl, _, W1, hf, hb, rfl, τ', _, _, _, _, _, _, _, _, hT, hI, by omega, by omega⟩
 have hsame := fun w aA aB cA cB (r1 : World.ownsRow w 0 3 1 (.slice aA l.length cA) l.length (l.map fun m => .int .i64 m)) (r2 : World.ownsRow w 0 3 1 (.slice aB l.length cB) l.length (l.map fun m => .int .i64 m)) => qkp (w := w) (aA := aA) (aB := aB) (cA := cA) (cB := cB) (l := l) rfl (by omega) (qho r1) (qho r2) (qlo r1) (qlo r2) pth lf i0 i1 i2 i3 i4 i5
 generalize AskR τ W bw slT (N + 4) = X at hown ⊢
 clear h
 generalize (l.map fun m => Value.int .i64 m) = lv at *
 generalize l.length = n at *
 have b4 : Blk ((W.alloc (.cells #[.pointer (some ⟨bt, 0, none⟩), .pointer (some ⟨br, 0, none⟩)] 128)).alloc (.cells #[.int .i64 4, .int .i64 T, .string s, .string s2, .int .i64 a0, .int .i64 a1, .int .i64 c0, .int .i64 c1, .int .i64 nm] 87)) W.heap.size 128 #[.pointer (some ⟨bt, 0, none⟩), .pointer (some ⟨br, 0, none⟩)] := (Blk.new W 128 _).alloc _
 have b5 : Blk ((W.alloc (.cells #[.pointer (some ⟨bt, 0, none⟩), .pointer (some ⟨br, 0, none⟩)] 128)).alloc (.cells #[.int .i64 4, .int .i64 T, .string s, .string s2, .int .i64 a0, .int .i64 a1, .int .i64 c0, .int .i64 c1, .int .i64 nm] 87)) (W.heap.size + 1) 87 #[.int .i64 4, .int .i64 T, .string s, .string s2, .int .i64 a0, .int .i64 a1, .int .i64 c0, .int .i64 c1, .int .i64 nm] := Blk.new' (by simp)
 go_enter Tryz.func75, Tryz.ntmps75
 go_wp2_with (first
  | (go_at_call 34; refine (hq1 _ ?_).mono ?_; (focus exact bel2); rintro e w1 ⟨ra, rc, rfl, hb1, hr1, hf1⟩; have hB1 : Below W.heap.size W w1 := qac (by exact bel2) hb1; have d4 := b4.below hb1 (by simp <;> omega); have d5 := b5.below hb1 (by simp <;> omega); have e0 := d4.cell 1; have e2 := d5.cell 2; have hz1 := hB1.size; have l5 := d5.lt; have l4 := d4.lt; simp only [List.getElem?_toArray, List.getElem?_cons_zero, List.getElem?_cons_succ] at e0 e2)
  | (go_at_call 124; refine (hq2 _ ?_).mono ?_; (focus exact bel2); rintro e w2 ⟨sa, sc, rfl, hb2, hr2, hf2⟩; have hB2 : Below W.heap.size W w2 := qac (hB1.alloc hz1 _) hb2; have hr12 := qgp hb2 (hr1.alloc (.cells #[.string pth, .bool lf, .int .i64 i0, .int .i64 i1, .int .i64 i2, .int .i64 i3, .int .i64 i4, .int .i64 i5, .slice ra n rc] 37)); have f7 := (Blk.new w1 37 #[.string pth, .bool lf, .int .i64 i0, .int .i64 i1, .int .i64 i2, .int .i64 i3, .int .i64 i4, .int .i64 i5, .slice ra n rc]).below hb2 (by simp); have hz2 := hB2.size; have l7 := f7.lt; have c7 := f7.cell)
  | (go_at_call 125; refine (hsame _ _ _ _ _ (hr12.alloc _) (hr2.alloc _)).mono ?_; rintro e w3 ⟨rfl, hb3⟩; have hB3 : Below W.heap.size W w3 := qac (hB2.alloc hz2 _) hb3; have hr13 := qgp hb3 (hr12.alloc _); have f7' := (f7.alloc _).below hb3 (by simp; omega); clear c7; have c7 := f7'.cell 8; simp only [List.getElem?_toArray, List.getElem?_cons_zero, List.getElem?_cons_succ] at c7)
  | (go_at_call 37; refine (hlook _ hB3).mono ?_; rintro e w4 ⟨rfl, hb4⟩; have hB4 : Below W.heap.size W w4 := qac hB3 hb4; have hr14 := qgp hb4 hr13; have f7'' := f7'.below hb4 f7'.lt; have c78 := f7''.cell 8; simp only [List.getElem?_toArray, List.getElem?_cons_zero, List.getElem?_cons_succ] at c78)
  | (go_at_call 126; refine (hown _ _ _ hB4 hr14 (fun b hb => by have := hf1 b hb; simp at this; omega)).mono ?_; rintro e w5 ⟨rfl, hX⟩)
  | (go_at_call 112; refine (qm0 _ _).mono ?_; rintro e w6 ⟨rfl, hw6⟩; subst hw6))
 all_goals exact hX
theorem qmo {n₀ : Nat} {τ : Nat -> Tag} {W : World} {bw : Nat} {tws : List Tw} {K : Nat} {t : Nat} {x : Tw} (hK : K <= 2000000) (h : St n₀ τ W bw tws (200 * K)) (hA : ∀ y ∈ tws, qbj K y) (hx : tws[t]? = some x) (s s2 : ByteArray) (hs : s.size <= 2000000) (T a0 a1 c0 c1 nm : Int) (W1 : World) (hb : Below W.heap.size W W1) :
  Calls Tryz.prog 75 #[.pointer (some ⟨bw, 0, none⟩), .agg #[.pointer (some ⟨x.bt, 0, none⟩), .pointer (some ⟨x.br, 0, none⟩)], .agg #[.int .i64 4, .int .i64 T, .string s, .string s2, .int .i64 a0, .int .i64 a1, .int .i64 c0, .int .i64 c1, .int .i64 nm]] W1 (qci n₀ τ W bw tws.length (K + 1)) := by
 have h1 := h.below hb
 obtain ⟨slT, slN, slE, slA, slB, ns, es, ms, me, hS⟩ := id h1
 have hT := hS.tw t x hx
 have A := hA x (List.mem_of_getElem? hx)
 refine (qoz hS.law (200 * K) (by omega) hS.n1 hS.n2 s s2 (qpr hT A s hs) T a0 a1 c0 c1 nm).mono ?_
 rintro e w' ⟨o, W2, ho, hb2, hR⟩
 obtain ⟨slT2, slN2, slE2, slA2, slB2, ns2, es2, ms2, me2, hS2⟩ := h1.below hb2
 have hTR := hR
 obtain ⟨hr1, τ3, r1, r2, r3, r4, r5, r6, r7, r8, hO, hL, _⟩ := hR
 have hz := hb.size
 have : slT2 = slT := by
  have e1 := hS.law.blk.below hb2 hS.law.blk.lt
  have e2 := hS2.law.blk
  unfold Blk at e1 e2
  rw [e1] at e2
  simp at e2
  exact e2.1.symm
 subst this
 obtain ⟨τ2, k1, slT', slN', slE', slA', slB', ns', es', ms', me', k2⟩ := St.told hS2 (fun b hb' => ⟨qe4 (ho b hb'), by have := ho b hb'; have := hS.le; omega⟩) hTR
 refine ⟨hTR.1, τ2, tws, ((qbh.below hb).trans (qbh.below hb2)).own k1 (fun b hb' => by have := ho b hb'; omega), ⟨slT', slN', slE', slA', slB', ns', es', ms', me', k2.law, by have := k2.n1; omega, by have := k2.n2; omega, k2.row, k2.tT, k2.tw, k2.lo, k2.le⟩, fun y hy => (hA y hy).mono (by omega), Nat.le_refl _, Nat.le_succ _⟩
set_option maxRecDepth 100000 in
set_option maxHeartbeats 2000000 in
theorem qps {n₀ : Nat} {τ : Nat -> Tag} {W : World} {bw : Nat} {tws : List Tw} {K : Nat} (hK : K <= 1999999) (h : St n₀ τ W bw tws (200 * K)) (hA : ∀ y ∈ tws, qbj K y) (hpos : 0 < tws.length) (hmax : tws.length <= 100000000) (s s2 : ByteArray) (hs : s.size <= 2000000) (hs2 : s2.size <= 2000000) (T a0 a1 c0 c1 nm : Int)
  (hT1 : -9223372036854775808 <= T) (hT2 : T <= 9223372036854775807) :
  Calls Tryz.prog 36 #[.pointer (some ⟨bw, 0, none⟩), .agg #[.int .i64 4, .int .i64 T, .string s, .string s2, .int .i64 a0, .int .i64 a1, .int .i64 c0, .int .i64 c1, .int .i64 nm]] W (qci n₀ τ W bw tws.length (K + 1)) := by
 obtain ⟨gT, cT, hbw, hgT, hcT1, hcT2, hc0, hcells⟩ := h.qh5 hpos
 obtain ⟨r, hr, hpick⟩ := qem T tws.length hT1 hT2 hpos (by omega)
 obtain ⟨x, hx⟩ : ∃ x, tws[r]? = some x := ⟨_, List.getElem?_eq_getElem hr⟩
 have h25 := fun W1 hb => qmo (by omega) h hA (t := r) (x := x) hx s s2 hs T a0 a1 c0 c1 nm W1 hb
 obtain ⟨q0, q1⟩ := hcells r x hx
 obtain ⟨k, hk⟩ : ∃ k, k = tws.length := ⟨_, rfl⟩
 rw [<- hk] at hpos hmax hcT1 hc0 h25 hr hpick ⊢
 have h25 : ∀ W1, Below W.heap.size W W1 -> Calls Tryz.prog 75 #[.pointer (some ⟨bw, 0, none⟩), .agg #[.pointer (some ⟨x.bt, 0, none⟩), .pointer (some ⟨x.br, 0, none⟩)], .agg #[.int .i64 4, .int .i64 T, .string s, .string s2, .int .i64 a0, .int .i64 a1, .int .i64 c0, .int .i64 c1, .int .i64 nm]] W1 fun e w' => e = .returned (.bool true) /\ qci n₀ τ W bw k (K + 1) (.returned (.bool true)) w' := fun W1 hM => (h25 W1 hM).mono (fun e w' hS => ⟨hS.1, by rw [<- hS.1]; exact hS⟩)
 generalize qci n₀ τ W bw k (K + 1) = X at h25 ⊢
 clear h hA hk hcells hx
 generalize x.bt = bt at h25 q0
 generalize x.br = br at h25 q1
 have hr1 : (r : Int) < k := by omega
 have hr0 : (0 : Int) <= r := by omega
 have hk0 : ((k : Int) == 0) = false := by simp; omega
 have b3 : Blk (W.alloc (.cells #[.int .i64 4, .int .i64 T, .string s, .string s2, .int .i64 a0, .int .i64 a1, .int .i64 c0, .int .i64 c1, .int .i64 nm] 87)) W.heap.size 87 #[.int .i64 4, .int .i64 T, .string s, .string s2, .int .i64 a0, .int .i64 a1, .int .i64 c0, .int .i64 c1, .int .i64 nm] := Blk.new W 87 _
 have hB0 : Below W.heap.size W (W.alloc (.cells #[.int .i64 4, .int .i64 T, .string s, .string s2, .int .i64 a0, .int .i64 a1, .int .i64 c0, .int .i64 c1, .int .i64 nm] 87)) := (Below.refl _ _).alloc (Nat.le_refl _) _
 go_enter Tryz.func36, Tryz.ntmps36
 go_upto_region 7 with fail
 generalize W.alloc (.cells #[.int .i64 4, .int .i64 T, .string s, .string s2, .int .i64 a0, .int .i64 a1, .int .i64 c0, .int .i64 c1, .int .i64 nm] 87) = W0 at b3 hB0 ⊢
 have hs0 := hB0.size
 have lt3 := b3.lt
 have d0 := (hB0.cell (p := ⟨bw, 0, none⟩) hbw).trans hc0
 have d1 := b3.cell 1
 have p0 := (hB0.cell (p := ⟨gT, r * 2, none⟩) hgT).trans q0
 have p1 := (hB0.cell (p := ⟨gT, r * 2 + 1, none⟩) hgT).trans q1
 simp only [List.getElem?_toArray, List.getElem?_cons_zero, List.getElem?_cons_succ] at d1
 clear hc0 q0 q1
 have n1 : ¬ (bw = W0.heap.size) := by omega
 have n2 : ¬ (gT = W0.heap.size) := by omega
 have n3 : ¬ (W.heap.size = W0.heap.size) := by omega
 have hbw0 : bw < W0.heap.size := by omega
 have hgT0 : gT < W0.heap.size := by omega
 go_cut [6] from 62 to 75 (fun q wx => ∃ b6, q = .pointer (some ⟨b6, 0, none⟩) /\ Below W.heap.size W wx /\ Blk wx b6 128 #[.pointer (some ⟨bt, 0, none⟩), .pointer (some ⟨br, 0, none⟩)] /\ Blk wx W.heap.size 87 #[.int .i64 4, .int .i64 T, .string s, .string s2, .int .i64 a0, .int .i64 a1, .int .i64 c0, .int .i64 c1, .int .i64 nm] /\ W.heap.size < b6)
 case first =>
  go_region_held3 (fun w' => w'.cell? ⟨bw, 0, none⟩ = some (.slice (some ⟨gT, 0, none⟩) k cT) /\ w'.cell? ⟨W.heap.size, 1, none⟩ = some (.int .i64 T) /\ w'.cell? ⟨gT, r * 2, none⟩ = some (.pointer (some ⟨bt, 0, none⟩)) /\ w'.cell? ⟨gT, r * 2 + 1, none⟩ = some (.pointer (some ⟨br, 0, none⟩))) (go_keep)
   (first
   | (go_at_call 66; refine (hpick _).mono ?_; rintro e w1 ⟨rfl, hw1⟩; subst hw1))
  all_goals go_wp2_with fail
  all_goals go_meet
  all_goals exact ⟨_, rfl, (by exact bel2), (by first | (with_reducible exact Blk.new' (by simp)) | (with_reducible exact Blk.drew (Blk.new' (by simp)))), (by exact blk2), lt3⟩
 case rest =>
  obtain ⟨b6, rfl, hBc, b6c, b3c, hlt6⟩ := hcut
  clear hpick p0 p1 d0 d1 b3 hB0
  have hzc := hBc.size
  have e60 := b6c.cell 0
  have e61 := b6c.cell 1
  have e3 := b3c.cell
  simp only [List.getElem?_toArray, List.getElem?_cons_zero, List.getElem?_cons_succ] at e60 e61
  go_wp2_with (go_at_call 75; refine (h25 _ hBc).mono ?_; rintro e w1 ⟨rfl, hX⟩)
  all_goals exact hX
theorem eq52 (d : Nat) (p : ByteArray) (a b : Int) (c : Bool) (w : World) : (Op.equalIn (d + 3) 52 (.agg #[.string p, .int .i64 a, .int .i64 b, .bool c]) (.agg #[.string p, .int .i64 a, .int .i64 b, .bool c])).run Tryz.prog w = .ok true w := by
 have u52 := Tryz.underlying52
 have u35 := Tryz.underlying35
 have u9 := Tryz.underlying9
 have u4 := Tryz.underlying4
 have z35 := Tryz.sizeOf35
 have a35 := Tryz.isAgg35
 have z9 := Tryz.sizeOf9
 have a9 := Tryz.isAgg9
 have z4 := Tryz.sizeOf4
 have a4 := Tryz.isAgg4
 unfold Op.equalIn
 simp only [Sem.run_bind, run_underlying u52, Result.andThen_ok]
 simp [go_sem, z35, a35, z9, a9, z4, a4, List.range', Std.Legacy.Range.forIn_eq_forIn_range', part, eq35]
theorem qv1 (p : ByteArray) (a b : Int) (c : Bool) (w : World) : (Op.equalIn 10000 52 (.agg #[.string p, .int .i64 a, .int .i64 b, .bool c]) (.agg #[.string p, .int .i64 a, .int .i64 b, .bool c])).run Tryz.prog w = .ok true w := by
 rw [show (10000 : Nat) = 9997 + 3 from rfl, eq52]
def qwd (W : World) (bt br : Nat) (nm : Int) : Prop :=
 ∃ (pth : ByteArray) (d0 d1 : Int) (ad : Bool) (er : Int),
  (∀ W1, Below W.heap.size W W1 -> Calls Tryz.prog 22 #[.pointer (some ⟨bt, 0, none⟩), .int .i64 nm] W1 fun e w' => e = .returned (.tuple #[.agg #[.string pth, .int .i64 d0, .int .i64 d1, .bool ad], .int .i64 er]) /\ Below W1.heap.size W1 w') /\
  (∀ W1, Below W.heap.size W W1 -> Calls Tryz.prog 127 #[.pointer (some ⟨br, 0, none⟩), .int .i64 nm] W1 fun e w' => e = .returned (.tuple #[.agg #[.string pth, .int .i64 d0, .int .i64 d1, .bool ad], .int .i64 er]) /\ Below W1.heap.size W1 w')
theorem qsr {τ : Nat -> Tag} {W : World} {t K : Nat} {x : Tw} (hT : TwS τ W t x) (A : qbj K x) (nm : Int) : qwd W x.bt x.br nm := by
 have TT := A.com.tree
 obtain ⟨r, hr0, htw⟩ := hT.P.bk
 have hp := fun W1 (hb : Below W.heap.size W W1) => qpc TT (htw.below hb) nm
 have hq := fun W1 (hb : Below W.heap.size W W1) => qum (hT.R.below hb) A.inv.wks.wks nm
 have key : ∀ e', qs5 x.Ws nm e' -> ∃ (pth : ByteArray) (d0 d1 : Int) (ad : Bool) (er : Int), e' = .returned (.tuple #[.agg #[.string pth, .int .i64 d0, .int .i64 d1, .bool ad], .int .i64 er]) := fun e' h => by
  rcases h with ⟨y, _, _, rfl⟩ | ⟨_, rfl⟩
  ·exact ⟨_, _, _, _, _, rfl⟩
  ·exact ⟨_, _, _, _, _, rfl⟩
 have hex : ∃ e', qs5 x.Ws nm e' := by
  by_cases h : ∃ y ∈ x.Ws, y.num = nm
  ·obtain ⟨y, hy, hn⟩ := h
   exact ⟨_, .inl ⟨y, hy, hn, rfl⟩⟩
  ·exact ⟨_, .inr ⟨fun y hy e => h ⟨y, hy, e⟩, rfl⟩⟩
 obtain ⟨e', he'⟩ := hex
 obtain ⟨pth, d0, d1, ad, er, rfl⟩ := key e' he'
 refine ⟨pth, d0, d1, ad, er, fun W1 hb => (hp W1 hb).mono fun e w' h => A.com.rel.work A.inv.wks h he', fun W1 hb => (hq W1 hb).mono fun e w' h => ⟨?_, h.2⟩⟩
 obtain ⟨h1, _⟩ := h
 rcases h1 with ⟨y, hy, hn, rfl⟩ | ⟨hno, rfl⟩ <;> rcases he' with ⟨z, hz, hm, e2⟩ | ⟨hno2, e2⟩
 ·have : y = z := qew A.inv.wks.nums hy hz (hn.trans hm.symm)
  subst this
  exact e2.symm
 ·exact absurd hn (hno2 y hy)
 ·exact absurd hm (hno z hz)
 ·exact e2.symm
set_option maxRecDepth 100000 in
set_option maxHeartbeats 2000000 in
theorem qri {W : World} {bw bt br : Nat} (s s2 : ByteArray) (T a0 a1 c0 c1 nm : Int) (hW : qwd W bt br nm) :
  Calls Tryz.prog 75 #[.pointer (some ⟨bw, 0, none⟩), .agg #[.pointer (some ⟨bt, 0, none⟩), .pointer (some ⟨br, 0, none⟩)], .agg #[.int .i64 7, .int .i64 T, .string s, .string s2, .int .i64 a0, .int .i64 a1, .int .i64 c0, .int .i64 c1, .int .i64 nm]] W fun e w' => e = .returned (.bool true) /\ Below W.heap.size W w' := by
 obtain ⟨pth, d0, d1, ad, er, hq1, hq2⟩ := hW
 have he := qv1
 have b4 : Blk ((W.alloc (.cells #[.pointer (some ⟨bt, 0, none⟩), .pointer (some ⟨br, 0, none⟩)] 128)).alloc (.cells #[.int .i64 7, .int .i64 T, .string s, .string s2, .int .i64 a0, .int .i64 a1, .int .i64 c0, .int .i64 c1, .int .i64 nm] 87)) W.heap.size 128 #[.pointer (some ⟨bt, 0, none⟩), .pointer (some ⟨br, 0, none⟩)] := (Blk.new W 128 _).alloc _
 have b5 : Blk ((W.alloc (.cells #[.pointer (some ⟨bt, 0, none⟩), .pointer (some ⟨br, 0, none⟩)] 128)).alloc (.cells #[.int .i64 7, .int .i64 T, .string s, .string s2, .int .i64 a0, .int .i64 a1, .int .i64 c0, .int .i64 c1, .int .i64 nm] 87)) (W.heap.size + 1) 87 #[.int .i64 7, .int .i64 T, .string s, .string s2, .int .i64 a0, .int .i64 a1, .int .i64 c0, .int .i64 c1, .int .i64 nm] := Blk.new' (by simp)
 go_enter Tryz.func75, Tryz.ntmps75
 go_wp2_with (first
  | (go_at_call 22; refine (hq1 _ ?_).mono ?_; (focus exact bel2); rintro e w1 ⟨rfl, hb1⟩; have hB1 : Below W.heap.size W w1 := qac (by exact bel2) hb1; have d4 := b4.below hb1 (by simp <;> omega); have d5 := b5.below hb1 (by simp <;> omega); have e0 := d4.cell 1; have e8 := d5.cell 8; have hz1 := hB1.size; have l5 := d5.lt; have l4 := d4.lt; simp only [List.getElem?_toArray, List.getElem?_cons_zero, List.getElem?_cons_succ] at e0 e8)
  | (go_at_call 127; refine (hq2 _ ?_).mono ?_; (focus exact bel2); rintro e w2 ⟨rfl, hb2⟩; have hB2 : Below W.heap.size W w2 := qac (hB1.alloc hz1 _) hb2; have f7 := (Blk.new w1 52 #[.string pth, .int .i64 d0, .int .i64 d1, .bool ad]).below hb2 (by simp); have hz2 := hB2.size; have l7 := f7.lt; have c7 := f7.cell)
  | (go_at_call 112; refine (qm0 _ _).mono ?_; rintro e w6 ⟨rfl, hw6⟩; subst hw6))
 all_goals go_ret
 all_goals exact ⟨rfl, by exact bel2⟩
theorem qou {n₀ : Nat} {τ : Nat -> Tag} {W : World} {bw : Nat} {tws : List Tw} {K : Nat} {t : Nat} {x : Tw} (hK : K <= 2000000) (h : St n₀ τ W bw tws (200 * K)) (hA : ∀ y ∈ tws, qbj K y) (hx : tws[t]? = some x) (s s2 : ByteArray) (T a0 a1 c0 c1 nm : Int) (W1 : World) (hb : Below W.heap.size W W1) :
  Calls Tryz.prog 75 #[.pointer (some ⟨bw, 0, none⟩), .agg #[.pointer (some ⟨x.bt, 0, none⟩), .pointer (some ⟨x.br, 0, none⟩)], .agg #[.int .i64 7, .int .i64 T, .string s, .string s2, .int .i64 a0, .int .i64 a1, .int .i64 c0, .int .i64 c1, .int .i64 nm]] W1 (qci n₀ τ W bw tws.length (K + 1)) := by
 have h1 := h.below hb
 obtain ⟨slT, slN, slE, slA, slB, ns, es, ms, me, hS⟩ := id h1
 have hT := hS.tw t x hx
 have A := hA x (List.mem_of_getElem? hx)
 refine (qri s s2 T a0 a1 c0 c1 nm (qsr hT A nm)).mono ?_
 rintro e w' ⟨rfl, hb2⟩
 obtain ⟨slT, slN, slE, slA, slB, ns, es, ms, me, hS2⟩ := h1.below hb2
 exact ⟨rfl, _, tws, (qbh.below hb).trans (qbh.below hb2), ⟨slT, slN, slE, slA, slB, ns, es, ms, me, hS2.law, by have := hS2.n1; omega, by have := hS2.n2; omega, hS2.row, hS2.tT, hS2.tw, hS2.lo, hS2.le⟩, fun y hy => (hA y hy).mono (by omega), Nat.le_refl _, Nat.le_succ _⟩
set_option maxRecDepth 100000 in
set_option maxHeartbeats 2000000 in
theorem qr2 {n₀ : Nat} {τ : Nat -> Tag} {W : World} {bw : Nat} {tws : List Tw} {K : Nat} (hK : K <= 1999999) (h : St n₀ τ W bw tws (200 * K)) (hA : ∀ y ∈ tws, qbj K y) (hpos : 0 < tws.length) (hmax : tws.length <= 100000000) (s s2 : ByteArray) (hs : s.size <= 2000000) (hs2 : s2.size <= 2000000) (T a0 a1 c0 c1 nm : Int)
  (hT1 : -9223372036854775808 <= T) (hT2 : T <= 9223372036854775807) :
  Calls Tryz.prog 36 #[.pointer (some ⟨bw, 0, none⟩), .agg #[.int .i64 7, .int .i64 T, .string s, .string s2, .int .i64 a0, .int .i64 a1, .int .i64 c0, .int .i64 c1, .int .i64 nm]] W (qci n₀ τ W bw tws.length (K + 1)) := by
 obtain ⟨gT, cT, hbw, hgT, hcT1, hcT2, hc0, hcells⟩ := h.qh5 hpos
 obtain ⟨r, hr, hpick⟩ := qem T tws.length hT1 hT2 hpos (by omega)
 obtain ⟨x, hx⟩ : ∃ x, tws[r]? = some x := ⟨_, List.getElem?_eq_getElem hr⟩
 have h25 := fun W1 hb => qou (by omega) h hA (t := r) (x := x) hx s s2 T a0 a1 c0 c1 nm W1 hb
 obtain ⟨q0, q1⟩ := hcells r x hx
 obtain ⟨k, hk⟩ : ∃ k, k = tws.length := ⟨_, rfl⟩
 rw [<- hk] at hpos hmax hcT1 hc0 h25 hr hpick ⊢
 have h25 : ∀ W1, Below W.heap.size W W1 -> Calls Tryz.prog 75 #[.pointer (some ⟨bw, 0, none⟩), .agg #[.pointer (some ⟨x.bt, 0, none⟩), .pointer (some ⟨x.br, 0, none⟩)], .agg #[.int .i64 7, .int .i64 T, .string s, .string s2, .int .i64 a0, .int .i64 a1, .int .i64 c0, .int .i64 c1, .int .i64 nm]] W1 fun e w' => e = .returned (.bool true) /\ qci n₀ τ W bw k (K + 1) (.returned (.bool true)) w' := fun W1 hM => (h25 W1 hM).mono (fun e w' hS => ⟨hS.1, by rw [<- hS.1]; exact hS⟩)
 generalize qci n₀ τ W bw k (K + 1) = X at h25 ⊢
 clear h hA hk hcells hx
 generalize x.bt = bt at h25 q0
 generalize x.br = br at h25 q1
 have hr1 : (r : Int) < k := by omega
 have hr0 : (0 : Int) <= r := by omega
 have hk0 : ((k : Int) == 0) = false := by simp; omega
 have b3 : Blk (W.alloc (.cells #[.int .i64 7, .int .i64 T, .string s, .string s2, .int .i64 a0, .int .i64 a1, .int .i64 c0, .int .i64 c1, .int .i64 nm] 87)) W.heap.size 87 #[.int .i64 7, .int .i64 T, .string s, .string s2, .int .i64 a0, .int .i64 a1, .int .i64 c0, .int .i64 c1, .int .i64 nm] := Blk.new W 87 _
 have hB0 : Below W.heap.size W (W.alloc (.cells #[.int .i64 7, .int .i64 T, .string s, .string s2, .int .i64 a0, .int .i64 a1, .int .i64 c0, .int .i64 c1, .int .i64 nm] 87)) := (Below.refl _ _).alloc (Nat.le_refl _) _
 go_enter Tryz.func36, Tryz.ntmps36
 go_upto_region 7 with fail
 generalize W.alloc (.cells #[.int .i64 7, .int .i64 T, .string s, .string s2, .int .i64 a0, .int .i64 a1, .int .i64 c0, .int .i64 c1, .int .i64 nm] 87) = W0 at b3 hB0 ⊢
 have hs0 := hB0.size
 have lt3 := b3.lt
 have d0 := (hB0.cell (p := ⟨bw, 0, none⟩) hbw).trans hc0
 have d1 := b3.cell 1
 have p0 := (hB0.cell (p := ⟨gT, r * 2, none⟩) hgT).trans q0
 have p1 := (hB0.cell (p := ⟨gT, r * 2 + 1, none⟩) hgT).trans q1
 simp only [List.getElem?_toArray, List.getElem?_cons_zero, List.getElem?_cons_succ] at d1
 clear hc0 q0 q1
 have n1 : ¬ (bw = W0.heap.size) := by omega
 have n2 : ¬ (gT = W0.heap.size) := by omega
 have n3 : ¬ (W.heap.size = W0.heap.size) := by omega
 have hbw0 : bw < W0.heap.size := by omega
 have hgT0 : gT < W0.heap.size := by omega
 go_cut [6] from 62 to 75 (fun q wx => ∃ b6, q = .pointer (some ⟨b6, 0, none⟩) /\ Below W.heap.size W wx /\ Blk wx b6 128 #[.pointer (some ⟨bt, 0, none⟩), .pointer (some ⟨br, 0, none⟩)] /\ Blk wx W.heap.size 87 #[.int .i64 7, .int .i64 T, .string s, .string s2, .int .i64 a0, .int .i64 a1, .int .i64 c0, .int .i64 c1, .int .i64 nm] /\ W.heap.size < b6)
 case first =>
  go_region_held3 (fun w' => w'.cell? ⟨bw, 0, none⟩ = some (.slice (some ⟨gT, 0, none⟩) k cT) /\ w'.cell? ⟨W.heap.size, 1, none⟩ = some (.int .i64 T) /\ w'.cell? ⟨gT, r * 2, none⟩ = some (.pointer (some ⟨bt, 0, none⟩)) /\ w'.cell? ⟨gT, r * 2 + 1, none⟩ = some (.pointer (some ⟨br, 0, none⟩))) (go_keep)
   (first
   | (go_at_call 66; refine (hpick _).mono ?_; rintro e w1 ⟨rfl, hw1⟩; subst hw1))
  all_goals go_wp2_with fail
  all_goals go_meet
  all_goals exact ⟨_, rfl, (by exact bel2), (by first | (with_reducible exact Blk.new' (by simp)) | (with_reducible exact Blk.drew (Blk.new' (by simp)))), (by exact blk2), lt3⟩
 case rest =>
  obtain ⟨b6, rfl, hBc, b6c, b3c, hlt6⟩ := hcut
  clear hpick p0 p1 d0 d1 b3 hB0
  have hzc := hBc.size
  have e60 := b6c.cell 0
  have e61 := b6c.cell 1
  have e3 := b3c.cell
  simp only [List.getElem?_toArray, List.getElem?_cons_zero, List.getElem?_cons_succ] at e60 e61
  go_wp2_with (go_at_call 75; refine (h25 _ hBc).mono ?_; rintro e w1 ⟨rfl, hX⟩)
  all_goals exact hX
set_option maxRecDepth 100000 in
set_option maxHeartbeats 2000000 in
theorem qp6 {n₀ : Nat} {τ : Nat -> Tag} {W : World} {bw : Nat} {tws : List Tw} {K : Nat} (hK : K <= 1999999) (h : St n₀ τ W bw tws (200 * K)) (hA : ∀ y ∈ tws, qbj K y) (hpos : 0 < tws.length) (hmax : tws.length <= 100000000) (s s2 : ByteArray) (hs : s.size <= 2000000) (hs2 : s2.size <= 2000000) (z : Int) (T a0 a1 c0 c1 nm : Int)
  (hT1 : -9223372036854775808 <= T) (hT2 : T <= 9223372036854775807) (hz : z <= 0 \/ 11 < z) :
  Calls Tryz.prog 36 #[.pointer (some ⟨bw, 0, none⟩), .agg #[.int .i64 z, .int .i64 T, .string s, .string s2, .int .i64 a0, .int .i64 a1, .int .i64 c0, .int .i64 c1, .int .i64 nm]] W (qci n₀ τ W bw tws.length (K + 1)) := by
 obtain ⟨gT, cT, hbw, hgT, hcT1, hcT2, hc0, hcells⟩ := h.qh5 hpos
 obtain ⟨r, hr, hpick⟩ := qem T tws.length hT1 hT2 hpos (by omega)
 obtain ⟨x, hx⟩ : ∃ x, tws[r]? = some x := ⟨_, List.getElem?_eq_getElem hr⟩
 obtain ⟨q0, q1⟩ := hcells r x hx
 obtain ⟨k, hk⟩ : ∃ k, k = tws.length := ⟨_, rfl⟩
 rw [<- hk] at hpos hmax hcT1 hc0 hr hpick ⊢
 have hfin : ∀ W1, Below W.heap.size W W1 -> qci n₀ τ W bw k (K + 1) (.returned (.bool true)) W1 := fun W1 hb => by
  obtain ⟨slT, slN, slE, slA, slB, ns, es, ms, me, hS⟩ := h.below hb
  exact ⟨rfl, _, tws, qbh.below hb, ⟨slT, slN, slE, slA, slB, ns, es, ms, me, ⟨hS.law, by have := hS.n1; omega, by have := hS.n2; omega, hS.row, hS.tT, hS.tw, hS.lo, hS.le⟩⟩, fun y hy => (hA y hy).mono (by omega), by omega, by omega⟩
 have HF : Hid (∀ W1, Below W.heap.size W W1 -> qci n₀ τ W bw k (K + 1) (.returned (.bool true)) W1) := hfin
 clear hfin
 generalize qci n₀ τ W bw k (K + 1) = X at HF ⊢
 clear h hA hk hcells hx
 generalize x.bt = bt at q0
 generalize x.br = br at q1
 have z1 : (z == 1) = false := by simp; omega
 have z2 : (z == 2) = false := by simp; omega
 have z3 : (z == 3) = false := by simp; omega
 have z4 : (z == 4) = false := by simp; omega
 have z5 : (z == 5) = false := by simp; omega
 have z6 : (z == 6) = false := by simp; omega
 have z7 : (z == 7) = false := by simp; omega
 have z8 : (z == 8) = false := by simp; omega
 have z9 : (z == 9) = false := by simp; omega
 have z10 : (z == 10) = false := by simp; omega
 have z11 : (z == 11) = false := by simp; omega
 clear hz
 have hr1 : (r : Int) < k := by omega
 have hr0 : (0 : Int) <= r := by omega
 have hk0 : ((k : Int) == 0) = false := by simp; omega
 have b3 : Blk (W.alloc (.cells #[.int .i64 z, .int .i64 T, .string s, .string s2, .int .i64 a0, .int .i64 a1, .int .i64 c0, .int .i64 c1, .int .i64 nm] 87)) W.heap.size 87 #[.int .i64 z, .int .i64 T, .string s, .string s2, .int .i64 a0, .int .i64 a1, .int .i64 c0, .int .i64 c1, .int .i64 nm] := Blk.new W 87 _
 have hB0 : Below W.heap.size W (W.alloc (.cells #[.int .i64 z, .int .i64 T, .string s, .string s2, .int .i64 a0, .int .i64 a1, .int .i64 c0, .int .i64 c1, .int .i64 nm] 87)) := (Below.refl _ _).alloc (Nat.le_refl _) _
 go_enter Tryz.func36, Tryz.ntmps36
 go_upto_region 7 with fail
 generalize W.alloc (.cells #[.int .i64 z, .int .i64 T, .string s, .string s2, .int .i64 a0, .int .i64 a1, .int .i64 c0, .int .i64 c1, .int .i64 nm] 87) = W0 at b3 hB0 ⊢
 have hs0 := hB0.size
 have lt3 := b3.lt
 have d0 := (hB0.cell (p := ⟨bw, 0, none⟩) hbw).trans hc0
 have d1 := b3.cell 1
 have p0 := (hB0.cell (p := ⟨gT, r * 2, none⟩) hgT).trans q0
 have p1 := (hB0.cell (p := ⟨gT, r * 2 + 1, none⟩) hgT).trans q1
 simp only [List.getElem?_toArray, List.getElem?_cons_zero, List.getElem?_cons_succ] at d1
 clear hc0 q0 q1
 have n1 : ¬ (bw = W0.heap.size) := by omega
 have n2 : ¬ (gT = W0.heap.size) := by omega
 have n3 : ¬ (W.heap.size = W0.heap.size) := by omega
 have hbw0 : bw < W0.heap.size := by omega
 have hgT0 : gT < W0.heap.size := by omega
 go_cut [6] from 62 to 75 (fun q wx => ∃ b6, q = .pointer (some ⟨b6, 0, none⟩) /\ Below W.heap.size W wx /\ Blk wx b6 128 #[.pointer (some ⟨bt, 0, none⟩), .pointer (some ⟨br, 0, none⟩)] /\ Blk wx W.heap.size 87 #[.int .i64 z, .int .i64 T, .string s, .string s2, .int .i64 a0, .int .i64 a1, .int .i64 c0, .int .i64 c1, .int .i64 nm] /\ W.heap.size < b6)
 case first =>
  go_region_held3 (fun w' => w'.cell? ⟨bw, 0, none⟩ = some (.slice (some ⟨gT, 0, none⟩) k cT) /\ w'.cell? ⟨W.heap.size, 1, none⟩ = some (.int .i64 T) /\ w'.cell? ⟨gT, r * 2, none⟩ = some (.pointer (some ⟨bt, 0, none⟩)) /\ w'.cell? ⟨gT, r * 2 + 1, none⟩ = some (.pointer (some ⟨br, 0, none⟩))) (go_keep)
   (first
   | (go_at_call 66; refine (hpick _).mono ?_; rintro e w1 ⟨rfl, hw1⟩; subst hw1))
  all_goals go_wp2_with fail
  all_goals go_meet
  all_goals exact ⟨_, rfl, (by exact bel2), (by first | (with_reducible exact Blk.new' (by simp)) | (with_reducible exact Blk.drew (Blk.new' (by simp)))), (by exact blk2), lt3⟩
 case rest =>
  obtain ⟨b6, rfl, hBc, b6c, b3c, hlt6⟩ := hcut
  clear hpick p0 p1 d0 d1 b3 hB0
  have hzc := hBc.size
  have e60 := b6c.cell 0
  have e61 := b6c.cell 1
  have e3 := b3c.cell
  simp only [List.getElem?_toArray, List.getElem?_cons_zero, List.getElem?_cons_succ] at e60 e61
  go_wp2
  all_goals exact HF.out _ (by exact bel2)
end Go.Proofs.YtphclnolomgjoaaGreatDoor
