import Derived.Test.YtepneihjhcakhaaGreatDoorLawG
set_option linter.unusedVariables false
set_option linter.unusedSimpArgs false
namespace Go.Proofs.YtepneihjhcakhaaGreatDoor
open Go.RowKit

/-- A tower, and the document's. -/
structure Tw where
  bt : Nat
  nodes : List Node
  br : Nat
  g : Nat
  cap : Nat
  L : List Ent

structure TwAt (τ : Nat → Tag) (W : World) (t : Nat) (x : Tw) : Prop where
  P : ProgAt τ t W x.bt x.nodes
  R : RefIn W x.br x.g x.cap x.L
  tr : τ x.br = .ref t
  tg : τ x.g = .rrow t

def twCells (l : List Tw) : List Value := l.flatMap fun x => [.pointer (some ⟨x.bt, 0, none⟩), .pointer (some ⟨x.br, 0, none⟩)]

theorem twCells_set : ∀ (l : List Tw) (t : Nat) (x y : Tw), l[t]? = some x → y.bt = x.bt → y.br = x.br → twCells (l.set t y) = twCells l
  | [], _, _, _, h, _, _ => by simp at h
  | a :: l, 0, x, y, h, h1, h2 => by simp at h; subst h; simp [twCells, h1, h2]
  | a :: l, t + 1, x, y, h, h1, h2 => by
    have ih := twCells_set l t x y (by simpa using h) h1 h2
    simp only [twCells, List.set_cons_succ, List.flatMap_cons] at ih ⊢
    rw [ih]

structure StAt (n₀ : Nat) (τ : Nat → Tag) (W : World) (bw : Nat) (tws : List Tw) (N : Nat) (slT slN slE slA slB : Value) (ns es : List Value) (ms me : List Int) : Prop where
  law : LawIn τ W bw slT slN slE slA slB ns es ms me
  n1 : ns.length ≤ N
  n2 : es.length ≤ N
  row : W.ownsRow 0 44 2 slT tws.length (twCells tws)
  tT : ∀ g, slT.ownBlock = some g → τ g = .lawT
  tw : ∀ (t : Nat) x, tws[t]? = some x → TwAt τ W t x
  lo : ∀ b, b < n₀ → τ b = .free
  le : n₀ ≤ W.heap.size
def St (n₀ : Nat) (τ : Nat → Tag) (W : World) (bw : Nat) (tws : List Tw) (N : Nat) : Prop := ∃ slT slN slE slA slB ns es ms me, StAt n₀ τ W bw tws N slT slN slE slA slB ns es ms me

theorem RefIn.lts {W : World} {br g cap : Nat} {L : List Ent} (h : RefIn W br g cap L) : br < W.heap.size ∧ g < W.heap.size := ⟨h.at_.lt, (h.row.lt g rfl).2⟩

theorem TwAt.keep {τ τ' : Nat → Tag} {W W' : World} {t : Nat} {x : Tw} (h : TwAt τ W t x) {T : Nat → Prop} (hk : Keep T W W') (hT : ∀ b, b < W.heap.size → T b → ¬ (τ b).prog t ∧ ¬ (τ b).refs t) (hτ : ∀ b, b < W.heap.size → τ' b = τ b) : TwAt τ' W' t x := by
  obtain ⟨l1, l2⟩ := h.R.lts
  exact ⟨h.P.keep hk (fun b hb hb' => (hT b hb hb').1) hτ, h.R.keep hk (fun hb => (hT _ l1 hb).2 (by rw [h.tr]; rfl)) (fun hb => (hT _ l2 hb).2 (by rw [h.tg]; rfl)), by rw [hτ _ l1]; exact h.tr, by rw [hτ _ l2]; exact h.tg⟩

/-- What a step may touch. -/
structure Moved (τ : Nat → Tag) (W : World) (τ' : Nat → Tag) (w' : World) : Prop where
  old : ∀ b, b < W.heap.size → τ' b = τ b
  keep : Keep (fun b => b < W.heap.size ∧ τ b ≠ .free) W w'

theorem Moved.trans {τ τ1 τ2 : Nat → Tag} {W W1 W2 : World} (h : Moved τ W τ1 W1) (k : Moved τ1 W1 τ2 W2) (hn : ∀ b, W.heap.size ≤ b → True) : Moved τ W τ2 W2 := by
  have hs := h.keep.size
  refine ⟨fun b hb => by rw [k.old b (by omega), h.old b hb], ?_⟩
  refine ⟨k.keep.os.trans h.keep.os, k.keep.tape.trans h.keep.tape, k.keep.output.trans h.keep.output, Nat.le_trans h.keep.size k.keep.size, fun b hb hn => ?_⟩
  refine (k.keep.block b (by omega) ?_).trans (h.keep.block b hb hn)
  rintro ⟨_, h2⟩
  rw [h.old b hb] at h2
  exact hn ⟨hb, h2⟩
theorem Moved.below {τ : Nat → Tag} {W W' : World} (hb : Below W.heap.size W W') : Moved τ W (cutTag τ W.heap.size) W' := ⟨fun b h => cutTag_lt h, Keep.new hb⟩

/-- Where only what has no tag was touched. -/
theorem St.keep {n₀ : Nat} {τ τ' : Nat → Tag} {W W' : World} {bw : Nat} {tws : List Tw} {N : Nat} (h : St n₀ τ W bw tws N) {T : Nat → Prop} (hk : Keep T W W') (hT : ∀ b, b < W.heap.size → T b → τ b = .free) (hτ : ∀ b, b < W.heap.size → τ' b = τ b) : St n₀ τ' W' bw tws N := by
  obtain ⟨slT, slN, slE, slA, slB, ns, es, ms, me, h⟩ := h
  refine ⟨slT, slN, slE, slA, slB, ns, es, ms, me, ⟨h.law.keep hk (fun b hb hT' => by rw [hT b hb hT']; exact fun h => h) hτ, h.n1, h.n2, ?_, ?_, ?_, ?_, Nat.le_trans h.le hk.size⟩⟩
  · exact row_keep h.row hk (fun g hg hTg => by have := hT g (row_lt h.row hg) hTg; rw [h.tT g hg] at this; cases this)
  · exact fun g hg => by rw [hτ _ (row_lt h.row hg)]; exact h.tT g hg
  · exact fun t x hx => (h.tw t x hx).keep hk (fun b hb hTb => by rw [hT b hb hTb]; exact ⟨fun h => h, fun h => h⟩) hτ
  · exact fun b hb => by rw [hτ _ (Nat.lt_of_lt_of_le hb h.le)]; exact h.lo b hb
theorem St.below {n₀ : Nat} {τ : Nat → Tag} {W W' : World} {bw : Nat} {tws : List Tw} {N : Nat} (h : St n₀ τ W bw tws N) (hb : Below W.heap.size W W') : St n₀ (cutTag τ W.heap.size) W' bw tws N :=
  h.keep (T := fun _ => False) (Keep.new hb) (fun _ _ h => h.elim) (fun b hb => cutTag_lt hb)

/-- A call on the program's tower. -/
theorem St.made {n₀ : Nat} {τ : Nat → Tag} {W w' : World} {bw : Nat} {tws : List Tw} {N : Nat} (h : St n₀ τ W bw tws N) {t : Nat} {x : Tw} (hx : tws[t]? = some x) {err : Int} {y : Ent} (hM : MadeR τ t W x.bt x.nodes err y w') :
    ∃ τ' nodes', Moved τ W τ' w' ∧ St n₀ τ' w' bw (tws.set t { x with nodes := nodes' }) N ∧ nodes'.map Node.ent = (if err = 0 then x.nodes.map Node.ent ++ [y] else x.nodes.map Node.ent) := by
  obtain ⟨slT, slN, slE, slA, slB, ns, es, ms, me, h⟩ := h
  obtain ⟨τ', nodes', m1, m2, m3, m4, m5⟩ := hM
  have htl := (List.getElem?_eq_some_iff.1 hx).1
  refine ⟨τ', nodes', ⟨m1, m5.mono (fun b hb => ⟨hb.1, fun e => by have := hb.2; rw [e] at this; exact this⟩)⟩, ⟨slT, slN, slE, slA, slB, ns, es, ms, me, ⟨h.law.keep m5 ?_ m1, h.n1, h.n2, ?_, ?_, ?_, ?_, Nat.le_trans h.le m5.size⟩⟩, m4⟩
  · intro b hb ⟨_, hp⟩ hl
    have q1 := Tag.prog_cases hp; have q2 := Tag.laws_cases hl; omega
  · have e1 : (tws.set t { x with nodes := nodes' }).length = tws.length := by simp
    have e2 : twCells (tws.set t { x with nodes := nodes' }) = twCells tws := by
      exact twCells_set tws t x _ hx rfl rfl
    rw [e1, e2]
    refine row_keep h.row m5 (fun g hg hp => ?_)
    have := h.tT g hg
    have hp2 := hp.2; rw [this] at hp2; exact hp2
  · intro g hg; rw [m1 _ (row_lt h.row hg)]; exact h.tT g hg
  · intro t' x' hx'
    by_cases e : t' = t
    · subst e
      rw [List.getElem?_set_self htl] at hx'
      cases hx'
      have hh := h.tw t' x hx
      obtain ⟨l1, l2⟩ := hh.R.lts
      refine ⟨m3, hh.R.keep m5 ?_ ?_, by rw [m1 _ l1]; exact hh.tr, by rw [m1 _ l2]; exact hh.tg⟩
      · rintro ⟨_, hp⟩; rw [hh.tr] at hp; exact hp
      · rintro ⟨_, hp⟩; rw [hh.tg] at hp; exact hp
    · rw [List.getElem?_set_ne (fun e2 => e e2.symm)] at hx'
      refine (h.tw t' x' hx').keep m5 ?_ m1
      rintro b hb ⟨_, hp⟩
      constructor
      · intro hp'
        exact e ((Tag.prog_cases hp').2.symm.trans (Tag.prog_cases hp).2)
      · intro hp'
        have q1 := Tag.prog_cases hp; have q2 := Tag.refs_cases hp'; omega
  · intro b hb; rw [m1 _ (Nat.lt_of_lt_of_le hb h.le)]; exact h.lo b hb

/-- A call on the document's tower. -/
theorem St.rmade {n₀ : Nat} {τ : Nat → Tag} {W w' : World} {bw : Nat} {tws : List Tw} {N : Nat} (h : St n₀ τ W bw tws N) {t : Nat} {x : Tw} (hx : tws[t]? = some x) {err : Int} {y : Ent} (hM : RMade W x.br x.g x.cap x.L err y w') :
    ∃ τ' g' cap', Moved τ W τ' w' ∧ St n₀ τ' w' bw (tws.set t { x with g := g', cap := cap', L := (if err = 0 then x.L ++ [y] else x.L) }) N := by
  obtain ⟨slT, slN, slE, slA, slB, ns, es, ms, me, h⟩ := h
  obtain ⟨g', cap', r1, r2, r3⟩ := hM
  have htl := (List.getElem?_eq_some_iff.1 hx).1
  have hh := h.tw t x hx
  obtain ⟨l1, l2⟩ := hh.R.lts
  obtain ⟨τ', hτ'⟩ : ∃ τ' : Nat → Tag, τ' = fun b => if b < W.heap.size then τ b else if b = g' then .rrow t else .free := ⟨_, rfl⟩
  have m1 : ∀ b, b < W.heap.size → τ' b = τ b := fun b hb => by rw [hτ']; simp [hb]
  have hT : ∀ b, b < W.heap.size → (b = x.br ∨ b = x.g) → (τ b).refs t := by
    rintro b hb (rfl | rfl)
    · rw [hh.tr]; rfl
    · rw [hh.tg]; rfl
  refine ⟨τ', g', cap', ⟨m1, r2.monoLt (fun b hb hb' => ⟨hb, fun e => by have := hT b hb hb'; rw [e] at this; exact this⟩)⟩, ⟨slT, slN, slE, slA, slB, ns, es, ms, me, ⟨h.law.keep r2 ?_ m1, h.n1, h.n2, ?_, ?_, ?_, ?_, Nat.le_trans h.le r2.size⟩⟩⟩
  · intro b hb hp hl
    have hp := hT b hb hp
    have q1 := Tag.refs_cases hp; have q2 := Tag.laws_cases hl; omega
  · have e2 : twCells (tws.set t { x with g := g', cap := cap', L := (if err = 0 then x.L ++ [y] else x.L) }) = twCells tws := twCells_set tws t x _ hx rfl rfl
    rw [List.length_set, e2]
    refine row_keep h.row r2 (fun g hg hp => ?_)
    have := hT g (row_lt h.row hg) hp
    rw [h.tT g hg] at this; exact this
  · intro g hg; rw [m1 _ (row_lt h.row hg)]; exact h.tT g hg
  · intro t' x' hx'
    by_cases e : t' = t
    · subst e
      rw [List.getElem?_set_self htl] at hx'
      cases hx'
      refine ⟨hh.P.keep r2 ?_ m1, r1, by rw [m1 _ l1]; exact hh.tr, ?_⟩
      · intro b hb hp hq
        have hp := hT b hb hp
        have q1 := Tag.refs_cases hp; have q2 := Tag.prog_cases hq; omega
      · rcases r3 with rfl | hge
        · rw [m1 _ l2]; exact hh.tg
        · rw [hτ']; simp [Nat.not_lt.2 hge]
    · rw [List.getElem?_set_ne (fun e2 => e e2.symm)] at hx'
      refine (h.tw t' x' hx').keep r2 ?_ m1
      intro b hb hp
      have hp := hT b hb hp
      constructor
      · intro hp'
        have q1 := Tag.refs_cases hp; have q2 := Tag.prog_cases hp'; omega
      · intro hp'
        exact e ((Tag.refs_cases hp').2.symm.trans (Tag.refs_cases hp).2)
  · intro b hb; rw [m1 _ (Nat.lt_of_lt_of_le hb h.le)]; exact h.lo b hb

/-- Behind a list that was owned. -/
theorem St.told {n₀ : Nat} {τ : Nat → Tag} {W w' : World} {bw : Nat} {tws : List Tw} {N M : Nat} {slT slN slE slA slB : Value} {ns es : List Value} {ms me : List Int} (h : StAt n₀ τ W bw tws N slT slN slE slA slB ns es ms me) {e : Ending} (hM : ToldR τ W bw slT M e w') :
    ∃ τ', Moved τ W τ' w' ∧ St n₀ τ' w' bw tws M := by
  obtain ⟨_, τ', slN', slE', slA', slB', ns', es', ms', me', hO, hL, hn, he⟩ := hM
  have hk := hO.keep
  refine ⟨τ', ⟨hO.old, hO.keep.mono (fun b hb => ⟨hb.1, fun e => by have := hb.2; rw [e] at this; exact this⟩)⟩, ⟨slT, slN', slE', slA', slB', ns', es', ms', me', ⟨hL, hn, he, ?_, ?_, ?_, ?_, Nat.le_trans h.le hk.size⟩⟩⟩
  · exact row_keep h.row hk (fun g hg hp => by have hp2 := hp.2; rw [h.tT g hg] at hp2; exact hp2)
  · intro g hg; rw [hO.old _ (row_lt h.row hg)]; exact h.tT g hg
  · intro t x hx
    refine (h.tw t x hx).keep hk ?_ hO.old
    rintro b hb ⟨_, hl⟩
    constructor
    · intro hp
      have q1 := Tag.prog_cases hp; have q2 := Tag.owns_cases hl; omega
    · intro hp
      have q1 := Tag.refs_cases hp; have q2 := Tag.owns_cases hl; omega
  · intro b hb; rw [hO.old _ (Nat.lt_of_lt_of_le hb h.le)]; exact h.lo b hb
end Go.Proofs.YtepneihjhcakhaaGreatDoor
set_option linter.unusedVariables false
set_option linter.unusedSimpArgs false
namespace Go.Proofs.YtepneihjhcakhaaGreatDoor
open Go.RowKit

def Agree (tws : List Tw) : Prop := ∀ x ∈ tws, x.L = x.nodes.map Node.ent

/-- A step that went well. -/
def StepR (n₀ : Nat) (τ : Nat → Tag) (W : World) (bw : Nat) (k N : Nat) (e : Ending) (w' : World) : Prop :=
  e = .returned (.bool true) ∧ ∃ τ' tws', Moved τ W τ' w' ∧ St n₀ τ' w' bw tws' N ∧ Agree tws' ∧ k ≤ tws'.length ∧ tws'.length ≤ k + 1

/-- Behind the first of two calls. -/
def Mid (n₀ : Nat) (τ : Nat → Tag) (W : World) (bw : Nat) (tws : List Tw) (t : Nat) (x : Tw) (N : Nat) (err : Int) (y : Ent) (w' : World) : Prop :=
  ∃ τ' nodes', Moved τ W τ' w' ∧ St n₀ τ' w' bw (tws.set t { x with nodes := nodes' }) N ∧ nodes'.map Node.ent = (if err = 0 then x.nodes.map Node.ent ++ [y] else x.nodes.map Node.ent)
/-- Behind both. -/
def Mid2 (n₀ : Nat) (τ : Nat → Tag) (W : World) (bw k N : Nat) (w' : World) : Prop :=
  ∃ τ' tws', Moved τ W τ' w' ∧ St n₀ τ' w' bw tws' N ∧ Agree tws' ∧ tws'.length = k

theorem mid_first {n₀ : Nat} {τ : Nat → Tag} {W W1 w' : World} {bw : Nat} {tws : List Tw} {N : Nat} (h : St n₀ τ W bw tws N) (hb : Below W.heap.size W W1) {t : Nat} {x : Tw} (hx : tws[t]? = some x) {err : Int} {y : Ent} (hM : MadeR (cutTag τ W.heap.size) t W1 x.bt x.nodes err y w') :
    Keep (fun b => b < W.heap.size) W1 w' ∧ Mid n₀ τ W bw tws t x N err y w' := by
  have hk : Keep (fun b => b < W.heap.size) W1 w' := by
    obtain ⟨τ', nodes', m1, m2, m3, m4, m5⟩ := hM
    refine m5.mono (fun b hb' => ?_)
    rcases Nat.lt_or_ge b W.heap.size with h1 | h1
    · exact h1
    · have := hb'.2; rw [cutTag_ge h1] at this; exact this.elim
  obtain ⟨τ', nodes', k1, k2, k3⟩ := (h.below hb).made hx hM
  exact ⟨hk, τ', nodes', (Moved.below hb).trans k1 (fun _ _ => trivial), k2, k3⟩

theorem mid_second {n₀ : Nat} {τ : Nat → Tag} {W W1 W2 w' : World} {bw : Nat} {tws : List Tw} {N : Nat} {t : Nat} {x : Tw} (hxl : t < tws.length) (hA : Agree tws) (hx : tws[t]? = some x) (hbr : x.br < W.heap.size ∧ x.g < W.heap.size) {err : Int} {y : Ent} (h : Mid n₀ τ W bw tws t x N err y W1) (hb : Below W1.heap.size W1 W2)
    (hM : RMade W2 x.br x.g x.cap x.L err y w') : Keep (fun b => b < W.heap.size) W2 w' ∧ Mid2 n₀ τ W bw tws.length N w' := by
  obtain ⟨τ', nodes', m1, m2, m3⟩ := h
  have hk : Keep (fun b => b < W.heap.size) W2 w' := by
    obtain ⟨g', cap', r1, r2, r3⟩ := hM
    exact r2.mono (fun b hb' => by rcases hb' with rfl | rfl; exact hbr.1; exact hbr.2)
  have hx1 : (tws.set t { x with nodes := nodes' })[t]? = some { x with nodes := nodes' } := by rw [List.getElem?_set_self hxl]
  obtain ⟨τ2, g', cap', k1, k2⟩ := (m2.below hb).rmade hx1 (err := err) (y := y) hM
  refine ⟨hk, τ2, _, (m1.trans (Moved.below hb) (fun _ _ => trivial)).trans k1 (fun _ _ => trivial), k2, ?_, by simp⟩
  rw [List.set_set]
  intro z hz
  rcases List.mem_or_eq_of_mem_set hz with hz | rfl
  · exact hA z hz
  · show (if err = 0 then x.L ++ [y] else x.L) = nodes'.map Node.ent
    rw [m3, hA x (List.mem_of_getElem? hx)]

theorem mid_told {n₀ : Nat} {τ : Nat → Tag} {W W1 : World} {bw k N : Nat} (hN : N ≤ 99999996) (h : Mid2 n₀ τ W bw k N W1) (er : Int) :
    Calls Tryz.prog 12 #[.pointer (some ⟨bw, 0, none⟩), .slice none 0 0, .int .i64 er, .slice none 0 0, .int .i64 er] W1 (StepR n₀ τ W bw k (N + 4)) := by
  obtain ⟨τ', tws', m1, ⟨slT, slN, slE, slA, slB, ns, es, ms, me, m2⟩, m3, rfl⟩ := h
  refine (told_law m2.law N (by omega) m2.n1 m2.n2 er).mono ?_
  intro e w' hT
  obtain ⟨τ2, k1, k2⟩ := St.told m2 hT
  exact ⟨hT.1, τ2, tws', m1.trans k1 (fun _ _ => trivial), k2, m3, Nat.le_refl _, Nat.le_succ _⟩

/-- Cohort, on both towers, and what is told. -/
theorem cohort_chain {n₀ : Nat} {τ : Nat → Tag} {W : World} {bw : Nat} {tws : List Tw} {N : Nat} (hN : N ≤ 99999996) (h : St n₀ τ W bw tws N) (hA : Agree tws) {t : Nat} {x : Tw} (hx : tws[t]? = some x) (s : ByteArray) (hs : s.size ≤ 2000000) (c d : Int) :
    ∃ (er : Int) (M1 M2 : World → Prop), (∀ W1, Below W.heap.size W W1 → Calls Tryz.prog 10 #[.pointer (some ⟨x.bt, 0, none⟩), .string s, .agg #[.int .i64 c, .int .i64 d]] W1 fun e w' => e = .returned (.tuple #[.slice none 0 0, .int .i64 er]) ∧ Keep (fun b => b < W.heap.size) W1 w' ∧ M1 w') ∧
      (∀ W1, M1 W1 → Calls Tryz.prog 11 #[.pointer (some ⟨x.br, 0, none⟩), .string s, .agg #[.int .i64 c, .int .i64 d]] W1 fun e w' => e = .returned (.tuple #[.slice none 0 0, .int .i64 er]) ∧ Keep (fun b => b < W.heap.size) W1 w' ∧ M2 w') ∧
      (∀ W1, M2 W1 → Calls Tryz.prog 12 #[.pointer (some ⟨bw, 0, none⟩), .slice none 0 0, .int .i64 er, .slice none 0 0, .int .i64 er] W1 (StepR n₀ τ W bw tws.length (N + 4))) := by
  have hax := hA x (List.mem_of_getElem? hx)
  obtain ⟨slT, slN, slE, slA, slB, ns, es, ms, me, hS⟩ := id h
  have hT := hS.tw t x hx
  refine ⟨errNew x.nodes (bl s) (fairL [(c, d)]), Mid n₀ τ W bw tws t x N (errNew x.nodes (bl s) (fairL [(c, d)])) ⟨namesB (bl s), false, 0, 0, c, d⟩, Mid2 n₀ τ W bw tws.length N, fun W1 hb => ?_, fun W1 hM => ?_, fun W1 hM => mid_told hN hM _⟩
  · have hP := hT.P.keep (τ' := cutTag τ W.heap.size) (T := fun _ => False) (Keep.new hb) (fun _ _ h => h.elim) (fun b hb => cutTag_lt hb)
    refine (cohort_any hP s hs c d).mono ?_
    rintro e w' ⟨rfl, hM⟩
    exact ⟨rfl, mid_first h hb hx hM⟩
  · have hlt := (List.getElem?_eq_some_iff.1 hx).1
    obtain ⟨τ1, nodes1, p1, ⟨slT', slN', slE', slA', slB', ns', es', ms', me', hS'⟩, p3⟩ := id hM
    have hR := (hS'.tw t { x with nodes := nodes1 } (by rw [List.getElem?_set_self hlt])).R
    have hE : Ents x.L := by rw [hax]; exact hT.P.tree.ents
    have hI : ∀ a ∈ x.L, ∀ b ∈ x.L, a.key = b.key → a = b := by rw [hax]; exact hT.P.tree.einj
    refine (cohort_ref hR hE hI s hs c d).mono ?_
    rintro e w' ⟨rfl, hRM⟩
    have herr : errE x.L (bl s) (fairL [(c, d)]) = errNew x.nodes (bl s) (fairL [(c, d)]) := by rw [hax]; exact errE_map _ _ _
    rw [show ({ x with nodes := nodes1 } : Tw).L = x.L from rfl, herr] at hRM ⊢
    exact ⟨rfl, mid_second hlt hA hx hT.R.lts hM (Below.refl _ _) hRM⟩

theorem leaf_chain {n₀ : Nat} {τ : Nat → Tag} {W : World} {bw : Nat} {tws : List Tw} {N : Nat} (hN : N ≤ 99999996) (h : St n₀ τ W bw tws N) (hA : Agree tws) {t : Nat} {x : Tw} (hx : tws[t]? = some x) (s : ByteArray) (hs : s.size ≤ 2000000) (a b c d : Int) :
    ∃ (er : Int) (M1 M2 : World → Prop), (∀ W1, Below W.heap.size W W1 → Calls Tryz.prog 13 #[.pointer (some ⟨x.bt, 0, none⟩), .string s, .agg #[.int .i64 a, .int .i64 b], .agg #[.int .i64 c, .int .i64 d]] W1 fun e w' => e = .returned (.tuple #[.slice none 0 0, .int .i64 er]) ∧ Keep (fun b => b < W.heap.size) W1 w' ∧ M1 w') ∧
      (∀ W1, M1 W1 → Calls Tryz.prog 14 #[.pointer (some ⟨x.br, 0, none⟩), .string s, .agg #[.int .i64 a, .int .i64 b], .agg #[.int .i64 c, .int .i64 d]] W1 fun e w' => e = .returned (.tuple #[.slice none 0 0, .int .i64 er]) ∧ Keep (fun b => b < W.heap.size) W1 w' ∧ M2 w') ∧
      (∀ W1, M2 W1 → Calls Tryz.prog 12 #[.pointer (some ⟨bw, 0, none⟩), .slice none 0 0, .int .i64 er, .slice none 0 0, .int .i64 er] W1 (StepR n₀ τ W bw tws.length (N + 4))) := by
  have hax := hA x (List.mem_of_getElem? hx)
  obtain ⟨slT, slN, slE, slA, slB, ns, es, ms, me, hS⟩ := id h
  have hT := hS.tw t x hx
  refine ⟨errNew x.nodes (bl s) (fairL [(a, b), (c, d)]), Mid n₀ τ W bw tws t x N (errNew x.nodes (bl s) (fairL [(a, b), (c, d)])) ⟨namesB (bl s), true, a, b, c, d⟩, Mid2 n₀ τ W bw tws.length N, fun W1 hb => ?_, fun W1 hM => ?_, fun W1 hM => mid_told hN hM _⟩
  · have hP := hT.P.keep (τ' := cutTag τ W.heap.size) (T := fun _ => False) (Keep.new hb) (fun _ _ h => h.elim) (fun b hb => cutTag_lt hb)
    refine (leafc_any hP s hs a b c d).mono ?_
    rintro e w' ⟨rfl, hM⟩
    exact ⟨rfl, mid_first h hb hx hM⟩
  · have hlt := (List.getElem?_eq_some_iff.1 hx).1
    obtain ⟨τ1, nodes1, p1, ⟨slT', slN', slE', slA', slB', ns', es', ms', me', hS'⟩, p3⟩ := id hM
    have hR := (hS'.tw t { x with nodes := nodes1 } (by rw [List.getElem?_set_self hlt])).R
    have hE : Ents x.L := by rw [hax]; exact hT.P.tree.ents
    have hI : ∀ a ∈ x.L, ∀ b ∈ x.L, a.key = b.key → a = b := by rw [hax]; exact hT.P.tree.einj
    refine (leafc_ref hR hE hI s hs a b c d).mono ?_
    rintro e w' ⟨rfl, hRM⟩
    have herr : errE x.L (bl s) (fairL [(a, b), (c, d)]) = errNew x.nodes (bl s) (fairL [(a, b), (c, d)]) := by rw [hax]; exact errE_map _ _ _
    rw [show ({ x with nodes := nodes1 } : Tw).L = x.L from rfl, herr] at hRM ⊢
    exact ⟨rfl, mid_second hlt hA hx hT.R.lts hM (Below.refl _ _) hRM⟩

/-- Queue, on both towers. -/
theorem queue_chain {n₀ : Nat} {τ : Nat → Tag} {W : World} {bw : Nat} {tws : List Tw} {N : Nat} (hN : N ≤ 99999996) (h : St n₀ τ W bw tws N) (hA : Agree tws) {t : Nat} {x : Tw} (hx : tws[t]? = some x) (s s2 : ByteArray) (hs : s.size ≤ 2000000) (T a0 a1 c0 c1 nm : Int) (W1 : World) (hb : Below W.heap.size W W1) :
    Calls Tryz.prog 25 #[.pointer (some ⟨bw, 0, none⟩), .agg #[.pointer (some ⟨x.bt, 0, none⟩), .pointer (some ⟨x.br, 0, none⟩)], .agg #[.int .i64 4, .int .i64 T, .string s, .string s2, .int .i64 a0, .int .i64 a1, .int .i64 c0, .int .i64 c1, .int .i64 nm]] W1 (StepR n₀ τ W bw tws.length (N + 4)) := by
  obtain ⟨slT, slN, slE, slA, slB, ns, es, ms, me, hS⟩ := h.below hb
  have hT := hS.tw t x hx
  have hax := hA x (List.mem_of_getElem? hx)
  refine (asks_law hS.law N (by omega) hS.n1 hS.n2 hT.P (by rw [← hax]; exact hT.R) s s2 hs T a0 a1 c0 c1 nm).mono ?_
  intro e w' hR
  obtain ⟨τ2, k1, k2⟩ := St.told hS hR
  exact ⟨hR.1, τ2, tws, (Moved.below hb).trans k1 (fun _ _ => trivial), k2, hA, Nat.le_refl _, Nat.le_succ _⟩
end Go.Proofs.YtepneihjhcakhaaGreatDoor
