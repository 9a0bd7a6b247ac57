import Derived.Test.YtphclnolomgjoaaGreatDoorC38
import Derived.Test.YtphclnolomgjoaaGreatDoorC37
import Derived.Test.YtphclnolomgjoaaGreatDoorC06
import Derived.Deep.RegionHeld3
import Derived.Deep.CutRange
set_option linter.unusedVariables false
set_option linter.unusedSimpArgs false
namespace Go.Proofs.YtphclnolomgjoaaGreatDoor
open Go.RowKit
theorem qpk (L : List Ent) {s : SS} (h : SInv s) (he : s.evs = []) : (qaj L s).evs.length <= 990 := by
 have hwl : s.Ws.length <= 24 := h.wks.wks.len
 obtain ⟨I1, b1⟩ := qgk (f := ownStep L) (I := SInv) 25 (fun s s' hs hf => ⟨(hs.own hf).1, (hs.own hf).2.2.2.2⟩) s.Ws.length s h
 obtain ⟨_, b2⟩ := qgk (f := qas L) (I := SInv) 1 (fun s s' hs hf => ⟨(hs.idle hf).1, by rw [(hs.idle hf).2.2.2.2]; omega⟩) s.Ws.length _ I1
 have e : qaj L s = iterS (qas L) s.Ws.length (iterS (ownStep L) s.Ws.length s) := rfl
 rw [e]
 rw [he] at b1
 simp at b1
 have : 25 * s.Ws.length <= 600 := by omega
 omega
def Tw.same (x : Tw) (err : Int) : Out := ⟨err, x.L, x.Ws, x.cnt, x.st, []⟩
def qiu (L : List Ent) (cnt : Int) (fin : SS) : Out := ⟨0, L, fin.Ws, cnt, fin.st, fin.evs⟩
section
variable {τ : Nat -> Tag} {t K : Nat} {W : World} {x : Tw}
theorem qht (h : qb6 τ t W x.bt x.nodes x.last x.vw x.va x.ws x.as_) (A : qbj K x) {w' : World} (hb : Below W.heap.size W w') (err : Int) : POut τ t W x.bt (x.same err) (.slice none 0 0) w' := by
 have hP := h.keep (τ' := qde τ W.heap.size) (T := fun _ => False) (Keep.new hb) (fun _ _ h => h.elim) (fun b hb => qbx hb)
 refine ⟨qde τ W.heap.size, x.nodes, x.vw, x.va, x.ws, x.as_, fun b hb => qbx hb, fun b hb => .inl (qe4 hb), ?_, A.L.symm, A.com, World.ownsRow_nil _ _ _ _, (fun b hb => by cases hb), Keep.new hb⟩
 show qb6 _ t w' x.bt x.nodes x.cnt x.vw x.va x.ws x.as_
 rw [A.cnt]; exact hP
theorem qfx (h : GRef W x.br x.g x.cap x.L x.ao x.cW x.Ws x.cnt x.st) {w' : World} (hb : Below W.heap.size W w') (err : Int) : qdw W x.br x.g x.wv.ownBlock (x.same err).L (x.same err).cnt ⟨(x.same err).Ws, (x.same err).st, (x.same err).evs⟩ (.slice none 0 0) w' :=
 ⟨⟨x.g, x.cap, x.ao, x.cW, h.below hb, .inl rfl, fun b hb' => ⟨fun _ => hb', fun e => by cases e⟩⟩, Keep.new hb, World.ownsRow_nil _ _ _ _, fun b e => by cases e⟩
theorem qbj.inv (A : qbj K x) : SInv ⟨x.Ws, x.st, []⟩ := A.com.inv
theorem qbj.ents (A : qbj K x) : Ents x.L := by rw [A.L]; exact A.com.tree.ents
theorem qbj.einj (A : qbj K x) : ∀ a ∈ x.L, ∀ b ∈ x.L, a.key = b.key -> a = b := by rw [A.L]; exact A.com.tree.einj
theorem Tree.bors {nodes : List Node} (T : Tree nodes) : Bors (nodes.map Node.ent) := fun e he => by
 obtain ⟨n, hn, rfl⟩ := List.mem_map.1 he
 have := T.num n hn
 exact ⟨this.2.2.1, this.2.2.2.1⟩
theorem qbj.bors (A : qbj K x) : Bors x.L := by rw [A.L]; exact A.com.tree.bors
theorem qml (A : qbj K x) {y : Ent} {e : Ending} {w' : World} {err : Int} (h0 : qb6 τ t W x.bt x.nodes x.last x.vw x.va x.ws x.as_) (h : qiz τ t W x.bt x.nodes x.last x.Ws x.st err y e w') :
  ∃ ev, e = .returned (.tuple #[ev, .int .i64 err]) /\ (err ≠ 0 -> POut τ t W x.bt (x.same err) ev w') /\ (err = 0 -> POut τ t W x.bt (qiu (x.L ++ [y]) x.cnt (qaj (x.L ++ [y]) ⟨x.Ws, x.st, []⟩)) ev w') := by
 rcases h with ⟨h1, rfl, hb⟩ | ⟨h1, τ', nodes', vw', va', ws', as', ev, rfl, m1, m2, m3, m4, m5, m6, m7, m8⟩
 ·exact ⟨_, rfl, fun _ => qht h0 A hb err, fun e => absurd e h1⟩
 ·subst h1
  refine ⟨ev, rfl, fun e => absurd rfl e, fun _ => ⟨τ', nodes', vw', va', ws', as', m1, m2, ?_, ?_, ?_, ?_, m7, m8⟩⟩
  ·show qb6 τ' t w' x.bt nodes' x.cnt vw' va' ws' as'
   rw [A.cnt]; exact m3
  ·show _ = x.L ++ [y]
   rw [A.L]; exact m4
  ·show Comm nodes' (qaj (x.L ++ [y]) ⟨x.Ws, x.st, []⟩).Ws x.cnt (qaj (x.L ++ [y]) ⟨x.Ws, x.st, []⟩).st ws' as'
   rw [A.L, <- m4]
   refine Comm.settled m3.pr.tree A.inv (A.com.wkl.grown m4) A.com.cnt0 ?_
   rw [m4]; exact m5
  ·show w'.ownsRow 0 60 2 ev (qaj (x.L ++ [y]) ⟨x.Ws, x.st, []⟩).evs.length (qai (qaj (x.L ++ [y]) ⟨x.Ws, x.st, []⟩).evs)
   rw [A.L]; exact m6
theorem qr4 (A : qbj K x) {s : Bs} {ok : Bool} (he : errE x.L s ok = 0) {leaf : Bool} {a b c d : Int} (hf : ok = true -> qao a b = true /\ qao c d = true) :
  Ents (x.L ++ [⟨qaa s, leaf, a, b, c, d⟩]) /\ Bors (x.L ++ [⟨qaa s, leaf, a, b, c, d⟩]) := by
 have E := A.ents
 have B := A.bors
 unfold errE at he
 split at he
 ·cases he
 rename_i hv
 split at he
 ·cases he
 split at he
 ·cases he
 rename_i hok
 obtain ⟨f1, f2⟩ := hf (by cases ok; simp at hok; rfl)
 simp [qao] at f1 f2
 split at he
 ·cases he
 rename_i hd
 split at he
 ·cases he
 unfold errInE at he
 split at he
 ·cases he
 split at he
 ·cases he
 split at he
 ·cases he
 rename_i hlen
 have hv1 : qar s = true := by cases hh : qar s; simp [hh] at hv; rfl
 refine ⟨⟨fun e he => ?_, fun e he => ?_, by simp; omega, by simp⟩, fun e he => ?_⟩
 ·rcases List.mem_append.1 he with h1 | h1
  ·exact E.ok e h1
  ·simp only [List.mem_singleton] at h1
   subst h1
   exact ⟨by simp only; rw [<- qba]; exact hv1, by simp only; unfold qdm at hd; omega⟩
 ·rcases List.mem_append.1 he with h1 | h1
  ·exact E.num e h1
  ·simp only [List.mem_singleton] at h1
   subst h1
   simp only; omega
 ·rcases List.mem_append.1 he with h1 | h1
  ·exact B e h1
  ·simp only [List.mem_singleton] at h1
   subst h1
   simp only; omega
def mkk2 (_num er : Int) (v : Value) : Value := .tuple #[v, .int .i64 er]
def mkk3 (num er : Int) (v : Value) : Value := .tuple #[.int .i64 num, v, .int .i64 er]
def qsb (n₀ : Nat) (τ : Nat -> Tag) (W : World) (bw k K : Nat) (F1 : Nat) (args1 : Array Value) (F2 : Nat) (args2 : Array Value) (mk : Int -> Int -> Value -> Value) : Prop :=
 ∃ (num er : Int) (n : Nat) (M1 : Option Addr -> Nat -> World -> Prop) (M2 : Option Addr -> Nat -> Option Addr -> Nat -> World -> Prop),
   (∀ W1, Below W.heap.size W W1 -> Calls Tryz.prog F1 args1 W1 fun e w' => ∃ a c, e = .returned (mk num er (.slice a n c)) /\ Keep (fun b => b < W.heap.size) W1 w' /\ M1 a c w') /\
   (∀ a c W1 W2, M1 a c W1 -> Below W1.heap.size W1 W2 -> Calls Tryz.prog F2 args2 W2 fun e w' => ∃ a2 c2, e = .returned (mk num er (.slice a2 n c2)) /\ Keep (fun b => b < W.heap.size) W2 w' /\ M2 a c a2 c2 w') /\
   (∀ a c a2 c2 W1 W2, M2 a c a2 c2 W1 -> Below W1.heap.size W1 W2 -> Calls Tryz.prog 68 #[.pointer (some ⟨bw, 0, none⟩), .slice a n c, .int .i64 er, .slice a2 n c2, .int .i64 er] W2 (qci n₀ τ W bw k (K + 1)))
variable {n₀ bw : Nat} {tws : List Tw} {r : Nat}
theorem qd0 {o : Out} (hK : K <= 2000000) (h : St n₀ τ W bw tws (200 * K)) (hA : ∀ y ∈ tws, qbj K y) (hx : tws[t]? = some x) (hn9 : o.evs.length <= 990) (hc : o.cnt <= K + 1) (hs : o.st <= 48 * (K + 1))
  {F1 F2 : Nat} {args1 args2 : Array Value} (mk : Int -> Int -> Value -> Value) (num : Int)
  (hp : ∀ τ1 W1, qb6 τ1 t W1 x.bt x.nodes x.last x.vw x.va x.ws x.as_ -> Calls Tryz.prog F1 args1 W1 fun e w' => ∃ ev, e = .returned (mk num o.err ev) /\ POut τ1 t W1 x.bt o ev w')
  (hr : ∀ W1, GRef W1 x.br x.g x.cap x.L x.ao x.cW x.Ws x.cnt x.st -> Calls Tryz.prog F2 args2 W1 fun e w' => ∃ sl, e = .returned (mk num o.err sl) /\ qdw W1 x.br x.g x.wv.ownBlock o.L o.cnt ⟨o.Ws, o.st, o.evs⟩ sl w') :
  qsb n₀ τ W bw tws.length K F1 args1 F2 args2 mk := by
 obtain ⟨M1, M2, h1, h2, h3⟩ := qs1 (mk1 := mk num o.err) (mk2 := mk num o.err) hK h hA hx (o := o) rfl hn9 hc hs hp hr
 exact ⟨num, o.err, _, M1, M2, h1, h2, h3⟩
theorem qkk (A : qbj K x) (err : Int) : (x.same err).evs.length <= 990 /\ (x.same err).cnt <= K + 1 /\ (x.same err).st <= 48 * (K + 1) := by
 have := A.cntK; have := A.stK
 exact ⟨by simp [Tw.same], by simp only [Tw.same]; omega, by simp only [Tw.same]; omega⟩
theorem qfk (A : qbj K x) (L : List Ent) {Ws : List Wk} {cnt : Int} (I : SInv ⟨Ws, x.st, []⟩) (hc : cnt <= K + 1) : (qiu L cnt (qaj L ⟨Ws, x.st, []⟩)).evs.length <= 990 /\ (qiu L cnt (qaj L ⟨Ws, x.st, []⟩)).cnt <= K + 1 /\ (qiu L cnt (qaj L ⟨Ws, x.st, []⟩)).st <= 48 * (K + 1) := by
 have h1 := A.stK
 obtain ⟨_, _, h3⟩ := qjj L I
 simp only at h3
 exact ⟨qpk L I rfl, hc, by simp only [qiu]; omega⟩
theorem qqf (hK : K <= 2000000) (h : St n₀ τ W bw tws (200 * K)) (hA : ∀ y ∈ tws, qbj K y) (hx : tws[t]? = some x) (s : ByteArray) (hs : s.size <= 2000000) (a b c d : Int) :
  qsb n₀ τ W bw tws.length K 26 #[.pointer (some ⟨x.bt, 0, none⟩), .string s, .agg #[.int .i64 a, .int .i64 b], .agg #[.int .i64 c, .int .i64 d]] 69 #[.pointer (some ⟨x.br, 0, none⟩), .string s, .agg #[.int .i64 a, .int .i64 b], .agg #[.int .i64 c, .int .i64 d]] mkk2 := by
 have A := hA x (List.mem_of_getElem? hx)
 have hst : x.st <= 900000000 := by have := A.stK; omega
 have hfl : qb3 [(a, b), (c, d)] = (qao a b && qao c d) := by simp [qb3]
 have hee : errE x.L (bl s) (qao a b && qao c d) = qbc x.nodes (bl s) (qb3 [(a, b), (c, d)]) := by rw [hfl, A.L]; exact qok _ _ _
 have hp := fun τ1 W1 (hP : qb6 τ1 t W1 x.bt x.nodes x.last x.vw x.va x.ws x.as_) => (qw9 hP A.com.rel A.inv s hs a b c d).mono (fun e w' hM => qml A hP hM)
 have hr := fun W1 (hR : GRef W1 x.br x.g x.cap x.L x.ao x.cW x.Ws x.cnt x.st) => qs4 hR A.ents A.einj A.inv hst s hs a b c d (fun he => qr4 A he (fun h => by simpa using h))
 rw [hee] at hr
 generalize qbc x.nodes (bl s) (qb3 [(a, b), (c, d)]) = err at hp hr
 by_cases he : err = 0
 ·subst he
  obtain ⟨l1, l2, l3⟩ := qfk A (x.L ++ [⟨qaa (bl s), true, a, b, c, d⟩]) A.inv (cnt := x.cnt) (by have := A.cntK; omega)
  unfold qlp at hr
  generalize qaj (x.L ++ [⟨qaa (bl s), true, a, b, c, d⟩]) ⟨x.Ws, x.st, []⟩ = fin at *
  refine qd0 hK h hA hx (o := qiu (x.L ++ [⟨qaa (bl s), true, a, b, c, d⟩]) x.cnt fin) l1 l2 l3 mkk2 0 (fun τ1 W1 hP => (hp τ1 W1 hP).mono fun e w' ⟨ev, h1, _, h3⟩ => ⟨ev, h1, h3 rfl⟩) (fun W1 hR => (hr W1 hR).mono fun e w' hM => ?_)
  rcases hM with ⟨h1, _⟩ | ⟨_, sl, h1, h2⟩
  ·exact absurd rfl h1
  ·exact ⟨sl, h1, h2⟩
 ·obtain ⟨l1, l2, l3⟩ := qkk A err
  refine qd0 hK h hA hx (o := x.same err) l1 l2 l3 mkk2 0 (fun τ1 W1 hP => (hp τ1 W1 hP).mono fun e w' ⟨ev, h1, h2, _⟩ => ⟨ev, h1, h2 he⟩) (fun W1 hR => (hr W1 hR).mono fun e w' hM => ?_)
  rcases hM with ⟨_, h1, h2⟩ | ⟨h1, _⟩
  ·exact ⟨_, h1, qfx hR h2 err⟩
  ·exact absurd h1 he
theorem qky (hK : K <= 2000000) (h : St n₀ τ W bw tws (200 * K)) (hA : ∀ y ∈ tws, qbj K y) (hx : tws[t]? = some x) (s : ByteArray) (hs : s.size <= 2000000) (c d : Int) :
  qsb n₀ τ W bw tws.length K 27 #[.pointer (some ⟨x.bt, 0, none⟩), .string s, .agg #[.int .i64 c, .int .i64 d]] 67 #[.pointer (some ⟨x.br, 0, none⟩), .string s, .agg #[.int .i64 c, .int .i64 d]] mkk2 := by
 have A := hA x (List.mem_of_getElem? hx)
 have hst : x.st <= 900000000 := by have := A.stK; omega
 have hfl : qb3 [(c, d)] = (qao 0 0 && qao c d) := by simp [qb3, qao]
 have hee : errE x.L (bl s) (qao 0 0 && qao c d) = qbc x.nodes (bl s) (qb3 [(c, d)]) := by rw [hfl, A.L]; exact qok _ _ _
 have hp := fun τ1 W1 (hP : qb6 τ1 t W1 x.bt x.nodes x.last x.vw x.va x.ws x.as_) => (qvm hP A.com.rel A.inv s hs c d).mono (fun e w' hM => qml A hP hM)
 have hr := fun W1 (hR : GRef W1 x.br x.g x.cap x.L x.ao x.cW x.Ws x.cnt x.st) => qoq hR A.ents A.einj A.inv hst s hs c d (fun he => qr4 A he (fun h => by simpa using h))
 rw [hee] at hr
 generalize qbc x.nodes (bl s) (qb3 [(c, d)]) = err at hp hr
 by_cases he : err = 0
 ·subst he
  obtain ⟨l1, l2, l3⟩ := qfk A (x.L ++ [⟨qaa (bl s), false, 0, 0, c, d⟩]) A.inv (cnt := x.cnt) (by have := A.cntK; omega)
  unfold qlp at hr
  generalize qaj (x.L ++ [⟨qaa (bl s), false, 0, 0, c, d⟩]) ⟨x.Ws, x.st, []⟩ = fin at *
  refine qd0 hK h hA hx (o := qiu (x.L ++ [⟨qaa (bl s), false, 0, 0, c, d⟩]) x.cnt fin) l1 l2 l3 mkk2 0 (fun τ1 W1 hP => (hp τ1 W1 hP).mono fun e w' ⟨ev, h1, _, h3⟩ => ⟨ev, h1, h3 rfl⟩) (fun W1 hR => (hr W1 hR).mono fun e w' hM => ?_)
  rcases hM with ⟨h1, _⟩ | ⟨_, sl, h1, h2⟩
  ·exact absurd rfl h1
  ·exact ⟨sl, h1, h2⟩
 ·obtain ⟨l1, l2, l3⟩ := qkk A err
  refine qd0 hK h hA hx (o := x.same err) l1 l2 l3 mkk2 0 (fun τ1 W1 hP => (hp τ1 W1 hP).mono fun e w' ⟨ev, h1, h2, _⟩ => ⟨ev, h1, h2 he⟩) (fun W1 hR => (hr W1 hR).mono fun e w' hM => ?_)
  rcases hM with ⟨_, h1, h2⟩ | ⟨h1, _⟩
  ·exact ⟨_, h1, qfx hR h2 err⟩
  ·exact absurd h1 he
theorem qnx (hP : qb6 τ t W x.bt x.nodes x.last x.vw x.va x.ws x.as_) (A : qbj K x) {r : Node} (hr : x.nodes[0]? = some r) {Ws : List Wk} {cnt : Int} (I : SInv ⟨Ws, x.st, []⟩) (hL : WkL x.nodes Ws cnt) (hc : 0 <= cnt) {ev : Value} {w' : World}
  (hs : SetT x.nodes x.bt r (.int .i64 cnt) x.vw x.va x.ws x.as_ (qaj (x.nodes.map Node.ent) ⟨Ws, x.st, []⟩) ev W w') : POut τ t W x.bt (qiu x.L cnt (qaj x.L ⟨Ws, x.st, []⟩)) ev w' := by
 obtain ⟨τ', vw', va', ws', as', m1, m2, m3, m4, m5, m6, m7⟩ := hP.set hr hs
 refine ⟨τ', x.nodes, vw', va', ws', as', m1, m2, m3, A.L.symm, ?_, ?_, m6, m7⟩
 ·show Comm x.nodes (qaj x.L ⟨Ws, x.st, []⟩).Ws cnt (qaj x.L ⟨Ws, x.st, []⟩).st ws' as'
  rw [A.L]
  exact Comm.settled A.com.tree I hL hc m4
 ·show w'.ownsRow 0 60 2 ev (qaj x.L ⟨Ws, x.st, []⟩).evs.length (qai (qaj x.L ⟨Ws, x.st, []⟩).evs)
  rw [A.L]; exact m5
theorem ql2 (hK : K <= 1999999) (h : St n₀ τ W bw tws (200 * K)) (hA : ∀ y ∈ tws, qbj K y) (hx : tws[t]? = some x) (s : ByteArray) (hs : s.size <= 2000000) (a b : Int) :
  qsb n₀ τ W bw tws.length K 32 #[.pointer (some ⟨x.bt, 0, none⟩), .string s, .agg #[.int .i64 a, .int .i64 b]] 70 #[.pointer (some ⟨x.br, 0, none⟩), .string s, .agg #[.int .i64 a, .int .i64 b]] mkk3 := by
 have A := hA x (List.mem_of_getElem? hx)
 have hst : x.st <= 900000000 := by have := A.stK; omega
 have hcK := A.cntK
 have hc0 := A.com.cnt0
 have hee : errWk x.nodes (x.ws.length + x.as_.length) (bl s) (qao a b) = errS x.L x.Ws (bl s) (qao a b) := by rw [A.L]; exact qmt A.com.rel A.inv.wks _ _
 have hsub := fun he => A.com.qwu (s := bl s) (a := a) (b := b) he
 have hr := fun W1 (hR : GRef W1 x.br x.g x.cap x.L x.ao x.cW x.Ws x.cnt x.st) => qpq hR A.ents A.bors A.einj A.inv hst ⟨hc0, by omega⟩ s hs a b (fun he => (hsub (hee.trans he)).1)
 by_cases he : errWk x.nodes (x.ws.length + x.as_.length) (bl s) (qao a b) = 0
 ·obtain ⟨I2, L2⟩ := hsub he
  obtain ⟨l1, l2, l3⟩ := qfk A x.L I2 (cnt := x.cnt + 1) (by omega)
  refine qd0 (by omega) h hA hx (o := qiu x.L (x.cnt + 1) (qaj x.L ⟨x.Ws ++ [qct x.cnt (bl s) a b], x.st, []⟩)) l1 l2 l3 mkk3 (x.cnt + 1) (fun τ1 W1 hP => ?_) (fun W1 hR => (hr W1 hR).mono fun e w' hM => ?_)
  ·obtain ⟨r, hr0, hb⟩ := hP.bk
   obtain ⟨hrm, hrk⟩ := qeh hP.pr.tree hr0
   have I3 := I2
   rw [A.cnt] at I3 L2 ⊢
   refine (qo9 hP.pr.tree hP.pr.qlc hb (by rw [<- A.cnt]; exact hc0) (by rw [<- A.cnt]; omega) hrm hrk s hs a b he A.com.rel I3).mono ?_
   rintro e w' ⟨ev, rfl, hS⟩
   exact ⟨ev, rfl, qnx hP A hr0 I3 L2 (by rw [<- A.cnt]; omega) hS⟩
  ·rcases hM with ⟨h1, _⟩ | ⟨_, sl, h1, h2⟩
   ·exact absurd (hee.symm.trans he) h1
   ·exact ⟨sl, h1, h2⟩
 ·obtain ⟨l1, l2, l3⟩ := qkk A (errWk x.nodes (x.ws.length + x.as_.length) (bl s) (qao a b))
  refine qd0 (by omega) h hA hx (o := x.same (errWk x.nodes (x.ws.length + x.as_.length) (bl s) (qao a b))) l1 l2 l3 mkk3 0 (fun τ1 W1 hP => ?_) (fun W1 hR => (hr W1 hR).mono fun e w' hM => ?_)
  ·obtain ⟨r, hr0, hb⟩ := hP.bk
   obtain ⟨hrm, hrk⟩ := qeh hP.pr.tree hr0
   refine (qpo hP.pr.tree hb hrm hrk s hs a b he).mono ?_
   rintro e w' ⟨rfl, hbl⟩
   exact ⟨_, rfl, qht hP A hbl _⟩
  ·rcases hM with ⟨_, h1, h2⟩ | ⟨h1, _⟩
   ·rw [<- hee] at h1
    exact ⟨_, h1, qfx hR h2 _⟩
   ·exact absurd (hee.trans h1) he
theorem qmf (hK : K <= 2000000) (h : St n₀ τ W bw tws (200 * K)) (hA : ∀ y ∈ tws, qbj K y) (hx : tws[t]? = some x) (m : Int) :
  qsb n₀ τ W bw tws.length K 28 #[.pointer (some ⟨x.bt, 0, none⟩), .int .i64 m] 71 #[.pointer (some ⟨x.br, 0, none⟩), .int .i64 m] mkk2 := by
 have A := hA x (List.mem_of_getElem? hx)
 have hst : x.st <= 900000000 := by have := A.stK; omega
 have hcK := A.cntK
 have hr := fun W1 (hR : GRef W1 x.br x.g x.cap x.L x.ao x.cW x.Ws x.cnt x.st) => qox hR A.ents A.bors A.inv hst m
 by_cases hm : ∃ (i : Nat) (y : Wk), x.Ws[i]? = some y /\ y.num = m
 ·obtain ⟨i, y, hi, rfl⟩ := hm
  obtain ⟨I2, L2⟩ := A.com.finish i
  obtain ⟨l1, l2, l3⟩ := qfk A x.L I2 (cnt := x.cnt) (by omega)
  refine qd0 hK h hA hx (o := qiu x.L x.cnt (qaj x.L ⟨x.Ws.take i ++ x.Ws.drop (i + 1), x.st, []⟩)) l1 l2 l3 mkk2 0 (fun τ1 W1 hP => ?_) (fun W1 hR => (hr W1 hR).mono fun e w' hM => ?_)
  ·obtain ⟨r, hr0, hb⟩ := hP.bk
   obtain ⟨hrm, hrk⟩ := qeh hP.pr.tree hr0
   refine (qo2 hP.pr.tree hP.pr.qlc hb hrm hrk A.com.rel A.inv hi I2).mono ?_
   rintro e w' ⟨ev, rfl, hS⟩
   rw [<- A.cnt] at hS
   exact ⟨ev, rfl, qnx hP A hr0 I2 L2 A.com.cnt0 hS⟩
  ·rcases hM with ⟨h1, _⟩ | ⟨j, z, sl, hj, hz, h1, h2⟩
   ·exact absurd rfl (h1 y (List.mem_of_getElem? hi))
   ·have : z = y := qew A.inv.wks.nums (List.mem_of_getElem? hj) (List.mem_of_getElem? hi) hz
    subst this
    have hij : j = i := (List.getElem?_inj (by simpa using (List.getElem?_eq_some_iff.1 hj).1) A.inv.wks.nums).1 (by simp [hj, hi])
    subst hij
    exact ⟨sl, h1, h2⟩
 ·have hno : ∀ y ∈ x.Ws, y.num ≠ m := fun y hy e => by
   obtain ⟨i, hi⟩ := List.getElem?_of_mem hy
   exact hm ⟨i, y, hi, e⟩
  obtain ⟨l1, l2, l3⟩ := qkk A 12
  refine qd0 hK h hA hx (o := x.same 12) l1 l2 l3 mkk2 0 (fun τ1 W1 hP => ?_) (fun W1 hR => (hr W1 hR).mono fun e w' hM => ?_)
  ·obtain ⟨r, hr0, hb⟩ := hP.bk
   refine (qpu hb A.com.rel A.inv.wks hno).mono ?_
   rintro e w' ⟨rfl, hbl⟩
   exact ⟨_, rfl, qht hP A hbl _⟩
  ·rcases hM with ⟨_, h1, rfl⟩ | ⟨j, z, sl, hj, hz, _⟩
   ·exact ⟨_, h1, qfx hR (Below.refl _ _) 12⟩
   ·exact absurd hz (hno z (List.mem_of_getElem? hj))
end
theorem qik : ∀ (l : List Tw) (t : Nat) (x : Tw), l[t]? = some x -> (qed l)[t * 2]? = some (.pointer (some ⟨x.bt, 0, none⟩)) /\ (qed l)[t * 2 + 1]? = some (.pointer (some ⟨x.br, 0, none⟩))
 | [], _, _, h => by simp at h
 | a :: l, 0, x, h => by simp at h; subst h; exact ⟨rfl, rfl⟩
 | a :: l, t + 1, x, h => by
  have ih := qik l t x (by simpa using h)
  simp only [qed, List.flatMap_cons] at ih ⊢
  refine ⟨?_, ?_⟩
  ·rw [List.getElem?_append_right (by simp; omega)]; rw [show (t + 1) * 2 - [Value.pointer (some ⟨a.bt, 0, none⟩), .pointer (some ⟨a.br, 0, none⟩)].length = t * 2 by simp; omega]; exact ih.1
  ·rw [List.getElem?_append_right (by simp; omega)]; rw [show (t + 1) * 2 + 1 - [Value.pointer (some ⟨a.bt, 0, none⟩), .pointer (some ⟨a.br, 0, none⟩)].length = t * 2 + 1 by simp; omega]; exact ih.2
theorem St.qh5 {n₀ : Nat} {τ : Nat -> Tag} {W : World} {bw : Nat} {tws : List Tw} {N : Nat} (h : St n₀ τ W bw tws N) (hpos : 0 < tws.length) :
  ∃ gT cT, bw < W.heap.size /\ gT < W.heap.size /\ tws.length <= cT /\ cT <= maxLen /\ W.cell? ⟨bw, 0, none⟩ = some (.slice (some ⟨gT, 0, none⟩) tws.length cT) /\
   ∀ (t : Nat) x, tws[t]? = some x -> W.cell? ⟨gT, t * 2, none⟩ = some (.pointer (some ⟨x.bt, 0, none⟩)) /\ W.cell? ⟨gT, t * 2 + 1, none⟩ = some (.pointer (some ⟨x.br, 0, none⟩)) := by
 obtain ⟨slT, slN, slE, slA, slB, ns, es, ms, me, h⟩ := h
 obtain ⟨gT, cT, rfl, h1, h2⟩ := qat h.row hpos
 refine ⟨gT, cT, h.law.blk.lt, qal h.row rfl, h1, h2, h.law.blk.cell 0, fun t x hx => ?_⟩
 obtain ⟨c1, c2⟩ := qik tws t x hx
 have d1 := h.row.cells (g := gT) rfl _ _ c1
 have d2 := h.row.cells (g := gT) rfl _ _ c2
 rw [Addr.add_lit, Nat.zero_add] at d1 d2
 exact ⟨d1, d2⟩
set_option maxHeartbeats 400000 in
theorem qem (c : Int) (n : Nat) (hc : -9223372036854775808 <= c) (hc' : c <= 9223372036854775807) (hn : 0 < n) (hn' : n <= 9223372036854775807) :
  ∃ r : Nat, r < n /\ ∀ w, Calls Tryz.prog 66 #[.int .i64 c, .int .i64 n] w fun e w' => e = .returned (.int .i64 r) /\ w' = w := by
 have key : ∀ x : Int, 0 <= x -> ∃ r : Nat, r < n /\ (x.tmod n) = r := fun x hx => by
  refine ⟨(x.tmod n).toNat, ?_, ?_⟩
  ·have h1 := Int.tmod_lt_of_pos x (b := (n : Int)) (by omega)
   have h2 := Int.tmod_nonneg (n : Int) hx
   omega
  ·have h2 := Int.tmod_nonneg (n : Int) hx
   omega
 have key2 : ∀ x : Int, 0 <= x -> ∃ r : Nat, r < n /\ (x % n) = r := fun x hx => by
  obtain ⟨r, h, e⟩ := key x hx
  exact ⟨r, h, by rw [<- e, Int.tmod_eq_emod_of_nonneg hx]⟩
 have hn2 : 0 < (n : Int) := by omega
 by_cases h0 : c < 0
 ·obtain ⟨r, h, e⟩ := key (-(c + 1)) (by omega)
  refine ⟨r, h, fun w => ?_⟩
  have HE : Hid ((-(c + 1)).tmod n = r) := e
  clear e key key2
  go_enter Tryz.func66, Tryz.ntmps66
  go_wp2
  go_ret
  exact ⟨qgn (by rw [<- HE.out, Int.neg_tmod]), rfl⟩
 ·obtain ⟨r, h, e⟩ := key2 c (by omega)
  refine ⟨r, h, fun w => ?_⟩
  have HE : Hid (c % n = r) := e
  clear e key key2
  go_enter Tryz.func66, Tryz.ntmps66
  go_wp2
  go_ret
  exact ⟨qgn HE.out, rfl⟩
set_option maxRecDepth 100000 in
set_option maxHeartbeats 2000000 in
theorem qno {n₀ : Nat} {τ : Nat -> Tag} {W : World} {bw : Nat} {tws : List Tw} {K : Nat} (hK : K <= 1999999) (h : St n₀ τ W bw tws (200 * K)) (hA : ∀ y ∈ tws, qbj K y) (hpos : 0 < tws.length) (hmax : tws.length <= 100000000) (s s2 : ByteArray) (hs : s.size <= 2000000) (hs2 : s2.size <= 2000000) (T a0 a1 c0 c1 nm : Int)
  (hT1 : -9223372036854775808 <= T) (hT2 : T <= 9223372036854775807) :
  Calls Tryz.prog 36 #[.pointer (some ⟨bw, 0, none⟩), .agg #[.int .i64 2, .int .i64 T, .string s, .string s2, .int .i64 a0, .int .i64 a1, .int .i64 c0, .int .i64 c1, .int .i64 nm]] W (qci n₀ τ W bw tws.length (K + 1)) := by
 obtain ⟨gT, cT, hbw, hgT, hcT1, hcT2, hc0, hcells⟩ := h.qh5 hpos
 obtain ⟨r, hr, hpick⟩ := qem T tws.length hT1 hT2 hpos (by omega)
 obtain ⟨x, hx⟩ : ∃ x, tws[r]? = some x := ⟨_, List.getElem?_eq_getElem hr⟩
 obtain ⟨num, er, n, M1, M2, h10, h11, h12⟩ := qky (by omega) h hA (t := r) (x := x) hx s hs c0 c1
 obtain ⟨q0, q1⟩ := hcells r x hx
 obtain ⟨k, hk⟩ : ∃ k, k = tws.length := ⟨_, rfl⟩
 rw [<- hk] at hpos hmax hcT1 hc0 h12 hr hpick ⊢
 have h12 : ∀ a c a2 c2 W1 W2, M2 a c a2 c2 W1 -> Below W1.heap.size W1 W2 -> Calls Tryz.prog 68 #[.pointer (some ⟨bw, 0, none⟩), .slice a n c, .int .i64 er, .slice a2 n c2, .int .i64 er] W2 fun e w' => e = .returned (.bool true) /\ qci n₀ τ W bw k (K + 1) (.returned (.bool true)) w' := fun a c a2 c2 W1 W2 hM hb => (h12 a c a2 c2 W1 W2 hM hb).mono (fun e w' hS => ⟨hS.1, by rw [<- hS.1]; exact hS⟩)
 generalize qci n₀ τ W bw k (K + 1) = X at h12 ⊢
 clear h hA hk hcells hx
 simp only [mkk2] at h10 h11
 generalize x.bt = bt at h10 q0
 generalize x.br = br at h11 q1
 have hr1 : (r : Int) < k := by omega
 have hr0 : (0 : Int) <= r := by omega
 have hk0 : ((k : Int) == 0) = false := by simp; omega
 have b3 : Blk (W.alloc (.cells #[.int .i64 2, .int .i64 T, .string s, .string s2, .int .i64 a0, .int .i64 a1, .int .i64 c0, .int .i64 c1, .int .i64 nm] 87)) W.heap.size 87 #[.int .i64 2, .int .i64 T, .string s, .string s2, .int .i64 a0, .int .i64 a1, .int .i64 c0, .int .i64 c1, .int .i64 nm] := Blk.new W 87 _
 have hB0 : Below W.heap.size W (W.alloc (.cells #[.int .i64 2, .int .i64 T, .string s, .string s2, .int .i64 a0, .int .i64 a1, .int .i64 c0, .int .i64 c1, .int .i64 nm] 87)) := (Below.refl _ _).alloc (Nat.le_refl _) _
 go_enter Tryz.func36, Tryz.ntmps36
 go_upto_region 7 with fail
 generalize W.alloc (.cells #[.int .i64 2, .int .i64 T, .string s, .string s2, .int .i64 a0, .int .i64 a1, .int .i64 c0, .int .i64 c1, .int .i64 nm] 87) = W0 at b3 hB0 ⊢
 have hs0 := hB0.size
 have lt3 := b3.lt
 have d0 := (hB0.cell (p := ⟨bw, 0, none⟩) hbw).trans hc0
 have d1 := b3.cell 1
 have p0 := (hB0.cell (p := ⟨gT, r * 2, none⟩) hgT).trans q0
 have p1 := (hB0.cell (p := ⟨gT, r * 2 + 1, none⟩) hgT).trans q1
 simp only [List.getElem?_toArray, List.getElem?_cons_zero, List.getElem?_cons_succ] at d1
 clear hc0 q0 q1
 have n1 : ¬ (bw = W0.heap.size) := by omega
 have n2 : ¬ (gT = W0.heap.size) := by omega
 have n3 : ¬ (W.heap.size = W0.heap.size) := by omega
 have hbw0 : bw < W0.heap.size := by omega
 have hgT0 : gT < W0.heap.size := by omega
 go_cut [6] from 62 to 75 (fun q wx => ∃ b6, q = .pointer (some ⟨b6, 0, none⟩) /\ Below W.heap.size W wx /\ Blk wx b6 128 #[.pointer (some ⟨bt, 0, none⟩), .pointer (some ⟨br, 0, none⟩)] /\ Blk wx W.heap.size 87 #[.int .i64 2, .int .i64 T, .string s, .string s2, .int .i64 a0, .int .i64 a1, .int .i64 c0, .int .i64 c1, .int .i64 nm] /\ W.heap.size < b6)
 case first =>
  go_region_held3 (fun w' => w'.cell? ⟨bw, 0, none⟩ = some (.slice (some ⟨gT, 0, none⟩) k cT) /\ w'.cell? ⟨W.heap.size, 1, none⟩ = some (.int .i64 T) /\ w'.cell? ⟨gT, r * 2, none⟩ = some (.pointer (some ⟨bt, 0, none⟩)) /\ w'.cell? ⟨gT, r * 2 + 1, none⟩ = some (.pointer (some ⟨br, 0, none⟩))) (go_keep)
   (first
   | (go_at_call 66; refine (hpick _).mono ?_; rintro e w1 ⟨rfl, hw1⟩; subst hw1))
  all_goals go_wp2_with fail
  all_goals go_meet
  all_goals exact ⟨_, rfl, (by exact bel2), (by first | (with_reducible exact Blk.new' (by simp)) | (with_reducible exact Blk.drew (Blk.new' (by simp)))), (by exact blk2), lt3⟩
 case rest =>
  obtain ⟨b6, rfl, hBc, b6c, b3c, hlt6⟩ := hcut
  clear hpick p0 p1 d0 d1 b3 hB0
  have hzc := hBc.size
  have e60 := b6c.cell 0
  have e61 := b6c.cell 1
  have e3 := b3c.cell
  simp only [List.getElem?_toArray, List.getElem?_cons_zero, List.getElem?_cons_succ] at e60 e61
  go_wp2_with (first
   | (go_at_call 27; refine (h10 _ hBc).mono ?_; rintro e w1 ⟨va1, vc1, rfl, hk1, hM1⟩; have b61 := b6c.keep hk1 (by omega); have b31 := b3c.keep hk1 (by omega); have f61 := b61.cell 1; have f3 := b31.cell; simp only [List.getElem?_toArray, List.getElem?_cons_zero, List.getElem?_cons_succ] at f61)
   | (go_at_call 67; refine (h11 _ _ _ _ hM1 (by exact bel2)).mono ?_; rintro e w2 ⟨va2, vc2, rfl, hk2, hM2⟩)
   | (go_at_call 68; refine (h12 _ _ _ _ _ _ hM2 (by exact bel2)).mono ?_; rintro e w3 ⟨rfl, hX⟩))
  all_goals exact hX
set_option maxRecDepth 100000 in
set_option maxHeartbeats 2000000 in
theorem qq9 {n₀ : Nat} {τ : Nat -> Tag} {W : World} {bw : Nat} {tws : List Tw} {K : Nat} (hK : K <= 1999999) (h : St n₀ τ W bw tws (200 * K)) (hA : ∀ y ∈ tws, qbj K y) (hpos : 0 < tws.length) (hmax : tws.length <= 100000000) (s s2 : ByteArray) (hs : s.size <= 2000000) (hs2 : s2.size <= 2000000) (T a0 a1 c0 c1 nm : Int)
  (hT1 : -9223372036854775808 <= T) (hT2 : T <= 9223372036854775807) :
  Calls Tryz.prog 36 #[.pointer (some ⟨bw, 0, none⟩), .agg #[.int .i64 3, .int .i64 T, .string s, .string s2, .int .i64 a0, .int .i64 a1, .int .i64 c0, .int .i64 c1, .int .i64 nm]] W (qci n₀ τ W bw tws.length (K + 1)) := by
 obtain ⟨gT, cT, hbw, hgT, hcT1, hcT2, hc0, hcells⟩ := h.qh5 hpos
 obtain ⟨r, hr, hpick⟩ := qem T tws.length hT1 hT2 hpos (by omega)
 obtain ⟨x, hx⟩ : ∃ x, tws[r]? = some x := ⟨_, List.getElem?_eq_getElem hr⟩
 obtain ⟨num, er, n, M1, M2, h10, h11, h12⟩ := qqf (by omega) h hA (t := r) (x := x) hx s hs a0 a1 c0 c1
 obtain ⟨q0, q1⟩ := hcells r x hx
 obtain ⟨k, hk⟩ : ∃ k, k = tws.length := ⟨_, rfl⟩
 rw [<- hk] at hpos hmax hcT1 hc0 h12 hr hpick ⊢
 have h12 : ∀ a c a2 c2 W1 W2, M2 a c a2 c2 W1 -> Below W1.heap.size W1 W2 -> Calls Tryz.prog 68 #[.pointer (some ⟨bw, 0, none⟩), .slice a n c, .int .i64 er, .slice a2 n c2, .int .i64 er] W2 fun e w' => e = .returned (.bool true) /\ qci n₀ τ W bw k (K + 1) (.returned (.bool true)) w' := fun a c a2 c2 W1 W2 hM hb => (h12 a c a2 c2 W1 W2 hM hb).mono (fun e w' hS => ⟨hS.1, by rw [<- hS.1]; exact hS⟩)
 generalize qci n₀ τ W bw k (K + 1) = X at h12 ⊢
 clear h hA hk hcells hx
 simp only [mkk2] at h10 h11
 generalize x.bt = bt at h10 q0
 generalize x.br = br at h11 q1
 have hr1 : (r : Int) < k := by omega
 have hr0 : (0 : Int) <= r := by omega
 have hk0 : ((k : Int) == 0) = false := by simp; omega
 have b3 : Blk (W.alloc (.cells #[.int .i64 3, .int .i64 T, .string s, .string s2, .int .i64 a0, .int .i64 a1, .int .i64 c0, .int .i64 c1, .int .i64 nm] 87)) W.heap.size 87 #[.int .i64 3, .int .i64 T, .string s, .string s2, .int .i64 a0, .int .i64 a1, .int .i64 c0, .int .i64 c1, .int .i64 nm] := Blk.new W 87 _
 have hB0 : Below W.heap.size W (W.alloc (.cells #[.int .i64 3, .int .i64 T, .string s, .string s2, .int .i64 a0, .int .i64 a1, .int .i64 c0, .int .i64 c1, .int .i64 nm] 87)) := (Below.refl _ _).alloc (Nat.le_refl _) _
 go_enter Tryz.func36, Tryz.ntmps36
 go_upto_region 7 with fail
 generalize W.alloc (.cells #[.int .i64 3, .int .i64 T, .string s, .string s2, .int .i64 a0, .int .i64 a1, .int .i64 c0, .int .i64 c1, .int .i64 nm] 87) = W0 at b3 hB0 ⊢
 have hs0 := hB0.size
 have lt3 := b3.lt
 have d0 := (hB0.cell (p := ⟨bw, 0, none⟩) hbw).trans hc0
 have d1 := b3.cell 1
 have p0 := (hB0.cell (p := ⟨gT, r * 2, none⟩) hgT).trans q0
 have p1 := (hB0.cell (p := ⟨gT, r * 2 + 1, none⟩) hgT).trans q1
 simp only [List.getElem?_toArray, List.getElem?_cons_zero, List.getElem?_cons_succ] at d1
 clear hc0 q0 q1
 have n1 : ¬ (bw = W0.heap.size) := by omega
 have n2 : ¬ (gT = W0.heap.size) := by omega
 have n3 : ¬ (W.heap.size = W0.heap.size) := by omega
 have hbw0 : bw < W0.heap.size := by omega
 have hgT0 : gT < W0.heap.size := by omega
 go_cut [6] from 62 to 75 (fun q wx => ∃ b6, q = .pointer (some ⟨b6, 0, none⟩) /\ Below W.heap.size W wx /\ Blk wx b6 128 #[.pointer (some ⟨bt, 0, none⟩), .pointer (some ⟨br, 0, none⟩)] /\ Blk wx W.heap.size 87 #[.int .i64 3, .int .i64 T, .string s, .string s2, .int .i64 a0, .int .i64 a1, .int .i64 c0, .int .i64 c1, .int .i64 nm] /\ W.heap.size < b6)
 case first =>
  go_region_held3 (fun w' => w'.cell? ⟨bw, 0, none⟩ = some (.slice (some ⟨gT, 0, none⟩) k cT) /\ w'.cell? ⟨W.heap.size, 1, none⟩ = some (.int .i64 T) /\ w'.cell? ⟨gT, r * 2, none⟩ = some (.pointer (some ⟨bt, 0, none⟩)) /\ w'.cell? ⟨gT, r * 2 + 1, none⟩ = some (.pointer (some ⟨br, 0, none⟩))) (go_keep)
   (first
   | (go_at_call 66; refine (hpick _).mono ?_; rintro e w1 ⟨rfl, hw1⟩; subst hw1))
  all_goals go_wp2_with fail
  all_goals go_meet
  all_goals exact ⟨_, rfl, (by exact bel2), (by first | (with_reducible exact Blk.new' (by simp)) | (with_reducible exact Blk.drew (Blk.new' (by simp)))), (by exact blk2), lt3⟩
 case rest =>
  obtain ⟨b6, rfl, hBc, b6c, b3c, hlt6⟩ := hcut
  clear hpick p0 p1 d0 d1 b3 hB0
  have hzc := hBc.size
  have e60 := b6c.cell 0
  have e61 := b6c.cell 1
  have e3 := b3c.cell
  simp only [List.getElem?_toArray, List.getElem?_cons_zero, List.getElem?_cons_succ] at e60 e61
  go_wp2_with (first
   | (go_at_call 26; refine (h10 _ hBc).mono ?_; rintro e w1 ⟨va1, vc1, rfl, hk1, hM1⟩; have b61 := b6c.keep hk1 (by omega); have b31 := b3c.keep hk1 (by omega); have f61 := b61.cell 1; have f3 := b31.cell; simp only [List.getElem?_toArray, List.getElem?_cons_zero, List.getElem?_cons_succ] at f61)
   | (go_at_call 69; refine (h11 _ _ _ _ hM1 (by exact bel2)).mono ?_; rintro e w2 ⟨va2, vc2, rfl, hk2, hM2⟩)
   | (go_at_call 68; refine (h12 _ _ _ _ _ _ hM2 (by exact bel2)).mono ?_; rintro e w3 ⟨rfl, hX⟩))
  all_goals exact hX
end Go.Proofs.YtphclnolomgjoaaGreatDoor
