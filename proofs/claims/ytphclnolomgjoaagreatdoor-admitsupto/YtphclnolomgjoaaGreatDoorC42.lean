import Derived.Test.YtphclnolomgjoaaGreatDoorC39
import Derived.Test.YtphclnolomgjoaaGreatDoorCards
import Derived.Test.YtphclnolomgjoaaGreatDoorTie
import Derived.WalkKit
import Derived.ProofKit
import Derived.OpenShut
import Derived.Deep.Slices
import Derived.Deep.DeepHandedRow
import Derived.Carry
import Derived.Lay
import Derived.Test.YtphclnolomgjoaaGreatDoorC40
import Derived.Test.YtphclnolomgjoaaGreatDoorC41
set_option linter.unusedVariables false
set_option linter.unusedSimpArgs false
namespace Go.Proofs.YtphclnolomgjoaaGreatDoor
open Go.ChangeShapes Go.WideShapes Go.ChangeAt Go.RowKit
theorem qmp {H : Type} (d : DataW H) : 1 <= Rows.uptoBulk d := by
 cases d with
 | lit l => cases l <;> simp [Rows.uptoBulk]
 | nil => simp [Rows.uptoBulk]
 | ptr d => simp [Rows.uptoBulk]
 | slice elems spare => simp [Rows.uptoBulk]
 | agg parts => simp [Rows.uptoBulk]
 | iface t d => simp [Rows.uptoBulk]
 | map entries => simp [Rows.uptoBulk]
 | held h => simp [Rows.uptoBulk]
theorem qhx {H : Type} {d : DataW H} {l : List (DataW H)} (h : d ∈ l) : Rows.uptoBulk d <= Rows.uptoBulkAll l := by
 induction l with
 | nil => cases h
 | cons x r ih =>
  simp only [Rows.uptoBulkAll]
  cases List.mem_cons.1 h with
  | inl e => subst e; omega
  | inr e => have := ih e; omega
theorem qmr {H : Type} (l : List (DataW H)) : l.length <= Rows.uptoBulkAll l := by
 induction l with
 | nil => simp [Rows.uptoBulkAll]
 | cons x r ih => have := qmp x; simp only [Rows.uptoBulkAll, List.length_cons]; omega
theorem qkc : Tryz.prog.cellsOf 87 = 9 := by kernel_rfl
theorem qfp : Tryz.prog.cellsOf 35 = 2 := by kernel_rfl
theorem qh8 : Tryz.prog.cellsOf 3 = 1 := by kernel_rfl
theorem qq7 : Tryz.prog.cellsOf 9 = 1 := by kernel_rfl
section
variable {H : Type} {enc : TypeId × Value -> H} {w : World} {base : Nat} {spare : Nat -> Bool} {held : Bool}
theorem qn6 {P : Program} (u35 : P.underlying 35 = some (.array 2 3)) (u3 : P.underlying 3 = some (.int .i64)) (qfp : P.cellsOf 35 = 2) (qh8 : P.cellsOf 3 = 1) {fuel : Nat} {cs : List Value} {x : DataW H × List MemPlace} (h : DataW.trod enc P w base spare held fuel 35 cs = some x) : ∃ a b : Int, cs = [.int .i64 a, .int .i64 b] := by
 obtain ⟨xs, m, rfl, rfl, hl, hx, hf⟩ := DataW.trod_array u35 h
 rw [qfp] at hl
 match cs, hl, xs, hx with
 | [v0, v1], _, [y0, y1], _ =>
  have g0 := hf 0 (by omega)
  have g1 := hf 1 (by omega)
  simp [qh8] at g0 g1
  obtain ⟨a, e0, _⟩ := DataW.trod_int u3 g0
  obtain ⟨b, e1, _⟩ := DataW.trod_int u3 g1
  simp at e0 e1
  exact ⟨a, b, by rw [e0, e1]⟩
theorem qvi {P : Program} {fs : Array Field} (u87 : P.underlying 87 = some (.struct fs)) (hfs : (fs.map fun f => (f.type, f.offset)) = #[(3, 0), (3, 1), (9, 2), (9, 3), (35, 4), (35, 6), (3, 8)]) (u35 : P.underlying 35 = some (.array 2 3)) (u3 : P.underlying 3 = some (.int .i64)) (u9 : P.underlying 9 = some .string) (qkc : P.cellsOf 87 = 9) (qfp : P.cellsOf 35 = 2) (qh8 : P.cellsOf 3 = 1) (qq7 : P.cellsOf 9 = 1) {fuel : Nat} {cs : List Value} {x : DataW H × List MemPlace} (h : DataW.trod enc P w base spare held fuel 87 cs = some x) :
  ∃ o : OpC, cs = o.cells.toList /\ (o.s.size <= Rows.uptoBulk x.1 /\ o.s2.size <= Rows.uptoBulk x.1 /\ -9223372036854775808 <= o.nm /\ o.nm <= 9223372036854775807) /\ -9223372036854775808 <= o.t /\ o.t <= 9223372036854775807 := by
 obtain ⟨xs, k, rfl, rfl, hl, hx, hf⟩ := DataW.trod_struct u87 h
 rw [qkc] at hl
 have hsz : fs.size = 7 := by have := congrArg Array.size hfs; simpa using this
 rw [hsz] at hx
 have hf' : ∀ (i : Nat) (t off : Nat), (#[(3, 0), (3, 1), (9, 2), (9, 3), (35, 4), (35, 6), (3, 8)] : Array (Nat × Nat))[i]? = some (t, off) -> DataW.trod enc P w base spare held k t ((cs.drop off).take (P.cellsOf t)) = xs[i]? := fun i t off hi => by
  rw [<- hfs, Array.getElem?_map] at hi
  obtain ⟨f, h1, h2⟩ := Option.map_eq_some_iff.1 hi
  simp only [Prod.mk.injEq] at h2
  rw [<- h2.1, <- h2.2]
  exact hf i f h1
 match cs, hl, xs, hx with
 | [v0, v1, v2, v3, v4, v5, v6, v7, v8], _, [y0, y1, y2, y3, y4, y5, y6], _ =>
  have g0 := hf' 0 _ _ rfl
  have g1 := hf' 1 _ _ rfl
  have g2 := hf' 2 _ _ rfl
  have g3 := hf' 3 _ _ rfl
  have g4 := hf' 4 _ _ rfl
  have g5 := hf' 5 _ _ rfl
  have g6 := hf' 6 _ _ rfl
  simp [qh8, qq7, qfp] at g0 g1 g2 g3 g4 g5 g6
  obtain ⟨k0, e0, _⟩ := DataW.trod_int u3 g0
  obtain ⟨t0, e1, _, wt⟩ := DataW.trod_int u3 g1
  obtain ⟨s, e2, es, _⟩ := DataW.trod_string u9 g2
  obtain ⟨s2, e3, es2, _⟩ := DataW.trod_string u9 g3
  obtain ⟨a0, a1, e4⟩ := qn6 u35 u3 qfp qh8 g4
  obtain ⟨c0, c1, e5⟩ := qn6 u35 u3 qfp qh8 g5
  obtain ⟨nm, e6, _, wn⟩ := DataW.trod_int u3 g6
  simp at e0 e1 e2 e3 e4 e5 e6
  obtain ⟨rfl, rfl⟩ := e4
  obtain ⟨rfl, rfl⟩ := e5
  subst e0 e1 e2 e3 e6
  refine ⟨⟨k0, t0, s, s2, a0, a1, c0, c1, nm⟩, rfl, ?_, ?_⟩
  ·have h1 : Rows.uptoBulk y2.1 <= Rows.uptoBulkAll ([y0, y1, y2, y3, y4, y5, y6].map (·.1)) := qhx (by simp)
   have k1 : Rows.uptoBulk y3.1 <= Rows.uptoBulkAll ([y0, y1, y2, y3, y4, y5, y6].map (·.1)) := qhx (by simp)
   subst es es2
   have h2 : ∀ q : ByteArray, Rows.uptoBulk (DataW.lit (H := H) (.string q.data.toList)) = q.data.toList.length + 1 := fun q => by simp only [Rows.uptoBulk]
   rw [h2, Array.length_toList] at h1 k1
   have h3 : s.size = s.data.size := rfl
   have k3 : s2.size = s2.data.size := rfl
   have h4 : ∀ l : List (DataW H), Rows.uptoBulk (.agg l) = Rows.uptoBulkAll l + 1 := fun l => by simp only [Rows.uptoBulk]
   rw [h4]
   simp only [Lit.wf, Bool.and_eq_true, decide_eq_true_eq] at wn
   rw [show IntKind.i64.min = -9223372036854775808 by decide, show IntKind.i64.max = 9223372036854775807 by decide] at wn
   refine ⟨?_, ?_, wn.1, wn.2⟩
   ·show s.size <= _
    omega
   ·show s2.size <= _
    omega
  ·simp only [Lit.wf, Bool.and_eq_true, decide_eq_true_eq] at wt
   rw [show IntKind.i64.min = -9223372036854775808 by decide, show IntKind.i64.max = 9223372036854775807 by decide] at wt
   exact wt
theorem qm1 {fuel : Nat} {v : Value} {d : DataW H} {ps : List MemPlace} (h : DataW.trod enc Tryz.prog w 0 spare held fuel 22 v.cells.toList = some (d, ps)) (hv : v.cells.toList = [v]) :
  ∃ ao len cap O, v = .slice ao len cap /\ len <= cap /\ cap <= maxLen /\ qfd w ao len O /\ len <= Rows.uptoBulk d /\ ∀ i, i < len -> ((O i).s.size <= Rows.uptoBulk d /\ (O i).s2.size <= Rows.uptoBulk d /\ -9223372036854775808 <= (O i).nm /\ (O i).nm <= 9223372036854775807) /\ -9223372036854775808 <= (O i).t /\ (O i).t <= 9223372036854775807 := by
 rw [hv] at h
 rcases Deep.open_slice Tryz.underlying22 h with ⟨hc, hx⟩ | ⟨a, len, cap, m, n, D, Pl, hc, _, hl, hm, hmm, hx, hel⟩
 ·simp at hc hx
  exact ⟨none, 0, 0, fun _ => ⟨0, 0, ⟨#[]⟩, ⟨#[]⟩, 0, 0, 0, 0, 0⟩, hc, Nat.le_refl _, Nat.zero_le _, fun i hi => by omega, Nat.zero_le _, fun i hi => by omega⟩
 ·simp only [Prod.mk.injEq] at hx
  have hd := hx.1
  have hlm : len <= m := by rw [hmm]; split <;> omega
  have : Inhabited OpC := ⟨⟨0, 0, ⟨#[]⟩, ⟨#[]⟩, 0, 0, 0, 0, 0⟩⟩
  obtain ⟨O, hO⟩ := Deep.choose_lt (α := OpC) (n := len) (p := fun i o => (∀ j v, o.cells[j]? = some v -> w.cell? (a.add (i * 9 + j)) = some v) /\ (o.s.size <= Rows.uptoBulk (D i) /\ o.s2.size <= Rows.uptoBulk (D i) /\ -9223372036854775808 <= o.nm /\ o.nm <= 9223372036854775807) /\ -9223372036854775808 <= o.t /\ o.t <= 9223372036854775807) (fun i hi => by
   obtain ⟨cs', h1, h2⟩ := hel i (by omega)
   rw [qkc] at h1
   obtain ⟨_, hlen, hcell⟩ := World.cells?_some h1
   obtain ⟨o, rfl, o1, o2⟩ := qvi Tryz.underlying87 (by kernel_rfl) Tryz.underlying35 Tryz.underlying3 Tryz.underlying9 qkc qfp qh8 qq7 h2
   refine ⟨o, fun j u hu => ?_, o1, o2⟩
   have hj : j < 9 := by
    rcases Nat.lt_or_ge j 9 with h | h
    ·exact h
    ·rw [Array.getElem?_eq_none (by simp [OpC.cells]; omega)] at hu; cases hu
   have := hcell j hj
   rw [Deep.add_add] at this
   rw [this]; simpa using hu)
  refine ⟨some a, len, cap, O, by simpa using hc, hl, hm, fun i hi => ?_, ?_, fun i hi => ⟨?_, (hO i hi).2.2⟩⟩
  ·have h0 := (hO 0 (by omega)).1 0 _ rfl
   have hsp := World.cell?_spot h0
   have hal : a.block < w.heap.size := by
    rcases Nat.lt_or_ge a.block w.heap.size with h | h
    ·exact h
    ·rw [World.cell?] at h0; simp [Addr.add, Array.getElem?_eq_none h] at h0
   obtain ⟨b, off, sp⟩ := a
   simp [Addr.add] at hsp
   subst hsp
   have hh := fun j v hj => (hO i hi).1 j v hj
   simp only [Addr.add_lit] at hh
   refine ⟨b, off, rfl, hal, ?_, ?_, ?_, ?_, ?_, ?_, ?_, ?_, ?_⟩
   ·exact hh 0 _ rfl
   ·exact hh 1 _ rfl
   ·exact hh 2 _ rfl
   ·exact hh 3 _ rfl
   ·exact hh 4 _ rfl
   ·exact hh 5 _ rfl
   ·exact hh 6 _ rfl
   ·exact hh 7 _ rfl
   ·exact hh 8 _ rfl
  ·rw [hd]
   have h1 := qmr ((List.range len).map D)
   simp only [Rows.uptoBulk]
   simp at h1
   omega
  ·obtain ⟨h1, h1b, h1c⟩ := (hO i hi).2.1
   have h2 : Rows.uptoBulk (D i) <= Rows.uptoBulkAll ((List.range len).map D) := qhx (List.mem_map.2 ⟨i, List.mem_range.2 hi, rfl⟩)
   rw [hd]
   simp only [Rows.uptoBulk]
   exact ⟨by omega, by omega, h1c⟩
end
def qkn (f : Nat) : Prop := ∀ (W : World) (ao : Option Addr) (len cap : Nat) (O : Nat -> OpC), len <= cap -> cap <= maxLen -> qfd W ao len O -> len <= 1048576 -> (∀ i, i < len -> ((O i).s.size <= 1048576 /\ (O i).s2.size <= 1048576 /\ -9223372036854775808 <= (O i).nm /\ (O i).nm <= 9223372036854775807) /\ -9223372036854775808 <= (O i).t /\ (O i).t <= 9223372036854775807) ->
 Calls Tryz.prog f #[.slice ao len cap] W fun e w' => e = .returned (.bool true) /\ Below W.heap.size W w'
theorem own : ownKnob Tryz.prog.godebug = none := by kernel_rfl
theorem laidOut : laidOutB Tryz.prog = true := by kernel_rfl
theorem qgf {H : Type} {enc : TypeId × Value -> H} {C : Checked} {os : Os} {f : FuncId} {fn : Func} {s : OpenSpec} {conds : List PathCond} {apart : Bool} {laid : List (String × DataW Unit)} (w0 : World) (args : Array Value) (hos : w0.os = os)
  (hsh : (w0.forCall (fun _ _ => 0) ⟨#[], args, []⟩).Shaped C.prog)
  (hok : Input.okWideB C.prog (w0.forCall (fun _ _ => 0) ⟨#[], args, []⟩) f ⟨#[], args, []⟩ = true)
  (hrow : s.preRow enc C.prog fn conds apart laid (w0.forCall (fun _ _ => 0) ⟨#[], args, []⟩).memory args) :
  ∃ (w : World) (tape : Tape) (i : Input), w.os = os /\ (w.forCall tape i).Shaped C.prog /\ i.vars = [] /\ Input.okWide C.prog (w.forCall tape i) .any w.heap.size f i /\
   s.preRow enc C.prog fn conds apart laid (w.forCall tape i).memory i.args /\ ({} : Assume).holds C.prog (lone (Frame.enter C.prog f i.args .normal) [] (w.forCall tape i)) :=
 ⟨w0, fun _ _ => 0, ⟨#[], args, []⟩, hos, hsh, (Input.okWide_of_okWideB (base := 0) hok).1, (Input.okWide_of_okWideB hok).2, hrow, by
  simp only [Assume.holds]
  simp⟩
set_option maxRecDepth 100000 in
theorem qi4 (runs : qkn 4) (H : Type) (enc : TypeId × Value -> H) (W : World) (base : Nat) (args : Array Value) (ds gs : List (DataW H)) (before : List MemPlace)
  (hval : ∀ (j : Nat) t v, Tryz.f4.params[j]? = some t -> args[j]? = some v -> Value.okWide Tryz.prog W .any base t v)
  (hW : DataW.Whole enc Tryz.prog Tryz.f4.params.toList Rows.admitsSpec.vars false W args.toList ds gs before) (hk : Rows.uptoSmall H (ds ++ gs) = true) :
  Calls Tryz.prog 4 args W fun e W' => ∃ v, e = .returned v /\ Rows.admitsSpec.post enc Tryz.prog Tryz.f4 false true false false W args v W' := by
 have hW' := hW
 obtain ⟨p, q, hA0, hV, rfl, hfz, hnd⟩ := hW
 have hA : DataW.TrodAll enc Tryz.prog W 0 (fun _ => true) true Tryz.f4.params.toList args.toList ds p := hA0
 rw [Tryz.params4] at hA hval
 obtain ⟨v0, vs0, d0, ds0, p0, q0, hargs, rfl, rfl, h0, r0⟩ := trodAll_cons hA
 obtain ⟨rfl, rfl, rfl⟩ := trodAll_nil r0
 obtain rfl : args = #[v0] := by cases args; simp_all
 obtain ⟨rfl, rfl⟩ := trodVars_none hV
 have hb : Rows.uptoBulk d0 <= 1048576 := by
  have := of_decide_eq_true hk
  simp only [List.append_nil, Rows.uptoBulkAll] at this
  omega
 obtain ⟨fuel, hf⟩ := id h0
 have hv1 : v0.cells.toList = [v0] := by
  have hc := hval 0 22 v0 rfl rfl
  obtain ⟨a, l, c, e⟩ := okWide_slice Tryz.underlying22 hc
  rw [e]; rfl
 obtain ⟨ao, len, cap, O, rfl, hl, hm, hS, hlen, hO⟩ := qm1 hf hv1
 refine (runs W ao len cap O hl hm hS (by omega) (fun i hi => ⟨⟨Nat.le_trans (hO i hi).1.1 hb, Nat.le_trans (hO i hi).1.2.1 hb, (hO i hi).1.2.2⟩, (hO i hi).2⟩)).mono fun e W' ⟨he, hbel⟩ => ?_
 subst he
 have hlt : ∀ x ∈ p0, x.block < W.heap.size := fun x hx => hW'.lt x (by simpa using hx)
 exact ⟨_, rfl, _, _, _, [], p0, [], hW', trodAll_cons_mk (shut_bool Tryz.underlying4 _) trodAll_mk0, by
  have := trodAll_cons_mk (Below.trod laidOut (by kernel_rfl) (of_decide_eq_true (by kernel_rfl)) h0 hbel hlt) trodAll_mk0
  rw [List.append_nil] at this
  exact this, rfl, hbel.frame _, fun h => by cases h⟩
theorem qi0 (os : Os) : laidMetH Tryz.prog Rows.admitsUptoRow.laid ((World.laidAll Tryz.prog os Rows.admitsUptoRow.laid).forCall (fun _ _ => 0) ⟨#[], #[.slice none 0 0], []⟩).memory := by
 rw [MakeChecks.laidMetH_plain _ _ _ (by kernel_rfl)]
 exact laidMet_laidAll _ (by kernel_rfl) (by kernel_rfl)
theorem qm2 (os : Os) {H : Type} (enc : TypeId × Value -> H) : ∃ places, DataW.whole enc Tryz.prog ((World.laidAll Tryz.prog os Rows.admitsUptoRow.laid).forCall (fun _ _ => 0) ⟨#[], #[.slice none 0 0], []⟩).memory Tryz.f4.params.toList Rows.admitsSpec.vars false #[Value.slice none 0 0].toList 8 = some ([.nil], [], places) :=
 ⟨[], by kernel_rfl⟩
set_option maxRecDepth 100000 in
theorem qhg (runs : qkn 4) (os : Os) (started : os.Started) (H : Type) (enc : TypeId × Value -> H) (F : Stop.Interp) :
  ReturnsInHanded {} Tryz.checked os 4 .any ((Rows.OpenSpec.upto Rows.admitsSpec).preRow enc Tryz.prog Tryz.f4 Rows.admitsUptoRow.domain false Rows.admitsUptoRow.laid) (((Rows.OpenSpec.upto Rows.admitsSpec).at F).post enc Tryz.prog Tryz.f4 false true false false) := by
 obtain ⟨places, hx⟩ := qm2 os enc
 refine returnsInHanded_of_row (C := Tryz.checked) (s := Rows.OpenSpec.upto Rows.admitsSpec) own started (by kernel_rfl) Tryz.func4
  (qgf (enc := enc) (C := Tryz.checked) (World.laidAll Tryz.prog os Rows.admitsUptoRow.laid) #[.slice none 0 0] (World.laidAll_os _ _ _) (World.shaped_of_ZipB (by kernel_rfl) (by kernel_rfl)) (by kernel_rfl)
   (OpenSpec.preRow_of_cond 8 hx (by kernel_rfl) (fun k hk => by cases hk; kernel_rfl) (by kernel_rfl) (qi0 os))) ?_
 intro W base args ds gs before hval hW _ hcond _ hL _ _
 exact qi4 runs H enc W base args ds gs before hval hW (hcond _ rfl)
theorem qi5 (runs : qkn 4) : Rows.AdmitsUptoSaid :=
 OpenClaim.holds_of_cond 4 Tryz.f4 rfl rfl rfl rfl rfl rfl rfl ⟨rfl, rfl, rfl, rfl, rfl⟩ rfl rfl rfl rfl rfl (by kernel_rfl) Tryz.func4 (by kernel_rfl)
  (of_decide_eq_true (by kernel_rfl)) (by unfold Func.isWrapper; first | (rw [if_pos (by decide +kernel)]; kernel_rfl) | (rw [if_neg (by decide +kernel)]; exact ⟨rfl, rfl⟩))
  (fun os started H enc _ F => by rw [OpenClaim.pre_eq_preRow]; exact qhg runs os started H enc F)
theorem qnk (f : FuncId) (fn : Func) (hf : Tryz.pinned.checked.prog.funcNamed "borrow/borrowlaw.Admits" = some f) (hfn : Tryz.pinned.checked.prog.funcs[f]? = some fn) :
  false = Tryz.pinned.checked.prog.looks [] /\ ∀ (j : Nat) t, fn.params[j]? = some t -> Tryz.pinned.checked.prog.wantsStandIn t = false := by
 obtain rfl : f = 4 := Option.some.inj ((show Tryz.prog.funcNamed "borrow/borrowlaw.Admits" = some 4 by kernel_rfl).symm.trans hf) |>.symm
 obtain rfl : fn = Tryz.f4 := (Option.some.inj (Tryz.func4.symm.trans hfn)).symm
 refine ⟨by kernel_rfl, fun j t ht => ?_⟩
 rw [Tryz.params4] at ht
 obtain rfl : t = 22 := by simpa using Array.mem_of_getElem? ht
 exact (show Tryz.prog.wantsStandIn 22 = false by kernel_rfl)
theorem qi3 (runs : qkn 4) : Rows.AdmitsUptoCardSaid :=
 Claim7.holds_tied_plain_at .later [] _ _ _ _ (qi5 runs) (fun _ h => by cases h) (by kernel_rfl) (fun _ h => by cases h) admitsUpto_row_tie rfl ⟨rfl, rfl⟩ (by kernel_rfl) rfl qnk (by kernel_rfl)
end Go.Proofs.YtphclnolomgjoaaGreatDoor
namespace Go.Proofs.YtphclnolomgjoaaGreatDoor
open Go.RowKit
theorem qt6 : qur 7 := by
 intro W0 w k hk h z T s s2 a0 a1 c0 c1 nm ho hs hs2 hT1 hT2 hn1 hn2
 obtain ⟨τ, tws, h1, h2, h3, h4, h5⟩ := h
 have hh : z <= 0 \/ z = 1 \/ z = 2 \/ z = 3 \/ z = 4 \/ z = 5 \/ z = 6 \/ z = 7 := by omega
 rcases hh with hz | rfl | rfl | rfl | rfl | rfl | rfl | rfl
 ·exact (qp6 (by omega) h1 h2 h3 (by omega) s s2 hs hs2 z T a0 a1 c0 c1 nm hT1 hT2 (.inl hz)).mono fun e w' hR => At.next h1 h3 h4 h5 hR
 ·exact (qn7 h1 h2 (by omega) s s2 T a0 a1 c0 c1 nm).mono fun e w' hR => At.next h1 h3 h4 h5 hR.1
 ·exact (qno (by omega) h1 h2 h3 (by omega) s s2 hs hs2 T a0 a1 c0 c1 nm hT1 hT2).mono fun e w' hR => At.next h1 h3 h4 h5 hR
 ·exact (qq9 (by omega) h1 h2 h3 (by omega) s s2 hs hs2 T a0 a1 c0 c1 nm hT1 hT2).mono fun e w' hR => At.next h1 h3 h4 h5 hR
 ·exact (qps (by omega) h1 h2 h3 (by omega) s s2 hs hs2 T a0 a1 c0 c1 nm hT1 hT2).mono fun e w' hR => At.next h1 h3 h4 h5 hR
 ·exact (qmu (by omega) h1 h2 h3 (by omega) s s2 hs hs2 T a0 a1 c0 c1 nm hT1 hT2).mono fun e w' hR => At.next h1 h3 h4 h5 hR
 ·exact (qmv (by omega) h1 h2 h3 (by omega) s s2 hs hs2 T a0 a1 c0 c1 nm hT1 hT2).mono fun e w' hR => At.next h1 h3 h4 h5 hR
 ·exact (qr2 (by omega) h1 h2 h3 (by omega) s s2 hs hs2 T a0 a1 c0 c1 nm hT1 hT2).mono fun e w' hR => At.next h1 h3 h4 h5 hR
set_option maxRecDepth 100000 in
theorem qo8 {W : World} {ao : Option Addr} {len cap : Nat} (hl : len <= cap) (hm : cap <= maxLen) {O : Nat -> OpC} (hS : qfd W ao len O) (hlen : len <= 1048576) (hO : ∀ i, i < len -> OpOK (O i)) :
  Calls Tryz.prog 4 #[.slice ao len cap] W fun e w' => e = .returned (.bool true) /\ Below W.heap.size W w' := by
 have h4 := qqh 7 qt6 (by omega) hl hm hS hlen hO
 clear hS hO
 go_enter Tryz.func4, Tryz.ntmps4
 go_wp2_with (go_at_call 14; refine h4.mono ?_; rintro e w1 ⟨rfl, hb⟩)
 go_ret
 exact ⟨rfl, hb⟩
theorem admitsUptoCard : Rows.AdmitsUptoCardSaid := qi3 fun _ _ _ _ _ hl hm hS hlen hO => qo8 hl hm hS hlen hO
#print axioms admitsUptoCard
end Go.Proofs.YtphclnolomgjoaaGreatDoor
