import Derived.Test.YtphclnolomgjoaaGreatDoorC14
import Derived.Test.YtphclnolomgjoaaGreatDoorC34
import Derived.Test.YtphclnolomgjoaaGreatDoorC33
set_option linter.unusedVariables false
set_option linter.unusedSimpArgs false
namespace Go.Proofs.YtphclnolomgjoaaGreatDoor
open Go.RowKit
abbrev Tag.rwrk (t : Nat) : Tag := ⟨5, t, 1⟩
structure Tw where
 bt : Nat
 nodes : List Node
 last : Int
 vw : Value
 va : Value
 ws : List Pw
 as_ : List Pw
 br : Nat
 g : Nat
 cap : Nat
 L : List Ent
 ao : Option Addr
 cW : Nat
 Ws : List Wk
 cnt : Int
 st : Int
def Tw.wv (x : Tw) : Value := .slice x.ao x.Ws.length x.cW
theorem GRef.keep {T : Nat -> Prop} {W W' : World} {br g cap : Nat} {L : List Ent} {ao : Option Addr} {cW : Nat} {Ws : List Wk} {cnt st : Int} (h : GRef W br g cap L ao cW Ws cnt st) (hk : Keep T W W') (h1 : ¬ T br) (h2 : ¬ T g) (h3 : ∀ b, (Value.slice ao Ws.length cW).ownBlock = some b -> ¬ T b) : GRef W' br g cap L ao cW Ws cnt st :=
 ⟨h.ref.keep hk h1 h2, qab h.wrow hk h3, h.ne1⟩
theorem GRef.lts {W : World} {br g cap : Nat} {L : List Ent} {ao : Option Addr} {cW : Nat} {Ws : List Wk} {cnt st : Int} (h : GRef W br g cap L ao cW Ws cnt st) : br < W.heap.size /\ g < W.heap.size /\ ∀ b, (Value.slice ao Ws.length cW).ownBlock = some b -> b < W.heap.size := ⟨h.ref.at_.lt, (h.ref.row.lt g rfl).2, fun b hb => qal h.wrow hb⟩
structure TwS (τ : Nat -> Tag) (W : World) (t : Nat) (x : Tw) : Prop where
 P : qb6 τ t W x.bt x.nodes x.last x.vw x.va x.ws x.as_
 R : GRef W x.br x.g x.cap x.L x.ao x.cW x.Ws x.cnt x.st
 tr : τ x.br = .ref t
 tg : τ x.g = .rrow t
 tw : ∀ b, x.wv.ownBlock = some b -> τ b = .rwrk t
def qed (l : List Tw) : List Value := l.flatMap fun x => [.pointer (some ⟨x.bt, 0, none⟩), .pointer (some ⟨x.br, 0, none⟩)]
theorem qfs : ∀ (l : List Tw) (t : Nat) (x y : Tw), l[t]? = some x -> y.bt = x.bt -> y.br = x.br -> qed (l.set t y) = qed l
 | [], _, _, _, h, _, _ => by simp at h
 | a :: l, 0, x, y, h, h1, h2 => by simp at h; subst h; simp [qed, h1, h2]
 | a :: l, t + 1, x, y, h, h1, h2 => by
  have ih := qfs l t x y (by simpa using h) h1 h2
  simp only [qed, List.set_cons_succ, List.flatMap_cons] at ih ⊢
  rw [ih]
structure StAt (n₀ : Nat) (τ : Nat -> Tag) (W : World) (bw : Nat) (tws : List Tw) (N : Nat) (slT slN slE slA slB : Value) (ns es : List Value) (ms me : List Int) : Prop where
 law : qgh τ W bw slT slN slE slA slB ns es ms me
 n1 : ns.length <= N
 n2 : es.length <= N
 row : W.ownsRow 0 128 2 slT tws.length (qed tws)
 tT : ∀ g, slT.ownBlock = some g -> τ g = .lawT
 tw : ∀ (t : Nat) x, tws[t]? = some x -> TwS τ W t x
 lo : ∀ b, b < n₀ -> τ b = .free
 le : n₀ <= W.heap.size
def St (n₀ : Nat) (τ : Nat -> Tag) (W : World) (bw : Nat) (tws : List Tw) (N : Nat) : Prop := ∃ slT slN slE slA slB ns es ms me, StAt n₀ τ W bw tws N slT slN slE slA slB ns es ms me
theorem qb6.qve {τ τ' : Nat -> Tag} {t : Nat} {W : World} {bt : Nat} {nodes : List Node} {last : Int} {vw va : Value} {ws as_ : List Pw} (h : qb6 τ t W bt nodes last vw va ws as_) (hτ : ∀ b, b < W.heap.size -> τ b ≠ .free -> τ' b = τ b) : qb6 τ' t W bt nodes last vw va ws as_ := by
 obtain ⟨l1, l2, l3⟩ := h.lts
 have key : ∀ b k, b < W.heap.size -> τ b = k -> k.k ≠ 0 -> τ' b = k := fun b k hb hk h0 => by rw [hτ b hb (by rw [hk]; intro e; rw [e] at h0; exact h0 rfl)]; exact hk
 refine ⟨⟨h.pr.tree, h.pr.ins, fun i n hi => ?_, h.pr.tow, key _ _ l1 h.pr.ttag (by simp)⟩, h.bk, fun b hb => key _ _ (l2 b hb) (h.wtag b hb) (by simp), fun p hp => key _ _ (l3 p hp) (h.ptag p hp) (by simp)⟩
 obtain ⟨t1, t2⟩ := h.pr.tags i n hi
 have hn := h.pr.ins n (List.mem_of_getElem? hi)
 exact ⟨key _ _ hn.lt t1 (by simp), fun g hg => key _ _ (hn.row.lt g hg).2 (t2 g hg) (by simp)⟩
theorem TwS.qve {τ τ' : Nat -> Tag} {W : World} {t : Nat} {x : Tw} (h : TwS τ W t x) (hτ : ∀ b, b < W.heap.size -> τ b ≠ .free -> τ' b = τ b) : TwS τ' W t x := by
 obtain ⟨l1, l2, l3⟩ := h.R.lts
 have key : ∀ b k, b < W.heap.size -> τ b = k -> k.k ≠ 0 -> τ' b = k := fun b k hb hk h0 => by rw [hτ b hb (by rw [hk]; intro e; rw [e] at h0; exact h0 rfl)]; exact hk
 exact ⟨h.P.qve hτ, h.R, key _ _ l1 h.tr (by simp), key _ _ l2 h.tg (by simp), fun b hb => key _ _ (l3 b hb) (h.tw b hb) (by simp)⟩
theorem TwS.keep {τ τ' : Nat -> Tag} {W W' : World} {t : Nat} {x : Tw} (h : TwS τ W t x) {T : Nat -> Prop} (hk : Keep T W W') (hT : ∀ b, b < W.heap.size -> T b -> ¬ (τ b).prog t /\ ¬ (τ b).refs t) (hτ : ∀ b, b < W.heap.size -> τ' b = τ b) : TwS τ' W' t x := by
 obtain ⟨l1, l2, l3⟩ := h.R.lts
 have hr1 : (τ x.br).refs t := by rw [h.tr]; rfl
 have hr2 : (τ x.g).refs t := by rw [h.tg]; rfl
 have hr3 : ∀ b, x.wv.ownBlock = some b -> (τ b).refs t := fun b hb => by rw [h.tw b hb]; rfl
 exact ⟨h.P.keep hk (fun b hb hb' => (hT b hb hb').1) hτ, h.R.keep hk (fun hb => (hT _ l1 hb).2 hr1) (fun hb => (hT _ l2 hb).2 hr2) (fun b hb hb' => (hT _ (l3 b hb) hb').2 (hr3 b hb)), by rw [hτ _ l1]; exact h.tr, by rw [hτ _ l2]; exact h.tg, fun b hb => by rw [hτ _ (l3 b hb)]; exact h.tw b hb⟩
structure qbh (τ : Nat -> Tag) (W : World) (τ' : Nat -> Tag) (w' : World) : Prop where
 old : ∀ b, b < W.heap.size -> τ' b = τ b
 keep : Keep (fun b => b < W.heap.size /\ τ b ≠ .free) W w'
theorem qbh.trans {τ τ1 τ2 : Nat -> Tag} {W W1 W2 : World} (h : qbh τ W τ1 W1) (k : qbh τ1 W1 τ2 W2) : qbh τ W τ2 W2 := by
 have hs := h.keep.size
 refine ⟨fun b hb => by rw [k.old b (by omega), h.old b hb], h.keep.step k.keep (fun b hb e => ⟨hb, ?_⟩)⟩
 rw [h.old b hb] at e
 exact e.2
theorem qbh.below {τ : Nat -> Tag} {W W' : World} (hb : Below W.heap.size W W') : qbh τ W (qde τ W.heap.size) W' := ⟨fun b h => qbx h, Keep.new hb⟩
theorem qbh.own {τ τ1 τ2 : Nat -> Tag} {W W1 W2 : World} {o : Option Nat} (h : qbh τ W τ1 W1) (k : OwnT τ1 W1 o τ2 W2) (ho : ∀ b, o = some b -> W.heap.size <= b) : qbh τ W τ2 W2 := by
 have hs := h.keep.size
 refine ⟨fun b hb => by rw [k.old b (by omega) (fun e => by have := ho b e; omega), h.old b hb], h.keep.step k.keep (fun b hb e => ⟨hb, ?_⟩)⟩
 obtain ⟨_, e⟩ := e
 rcases e with e | e
 ·rw [h.old b hb] at e
  intro e2; rw [e2] at e; exact e
 ·have := ho b e; omega
theorem St.keep {n₀ : Nat} {τ τ' : Nat -> Tag} {W W' : World} {bw : Nat} {tws : List Tw} {N : Nat} (h : St n₀ τ W bw tws N) {T : Nat -> Prop} (hk : Keep T W W') (hT : ∀ b, b < W.heap.size -> T b -> τ b = .free) (hτ : ∀ b, b < W.heap.size -> τ' b = τ b) : St n₀ τ' W' bw tws N := by
 obtain ⟨slT, slN, slE, slA, slB, ns, es, ms, me, h⟩ := h
 refine ⟨slT, slN, slE, slA, slB, ns, es, ms, me, ⟨h.law.keep hk (fun b hb hT' => by rw [hT b hb hT']; exact fun h => h) hτ, h.n1, h.n2, ?_, ?_, ?_, ?_, Nat.le_trans h.le hk.size⟩⟩
 ·exact qab h.row hk (fun g hg hTg => by have := hT g (qal h.row hg) hTg; rw [h.tT g hg] at this; cases this)
 ·exact fun g hg => by rw [hτ _ (qal h.row hg)]; exact h.tT g hg
 ·exact fun t x hx => (h.tw t x hx).keep hk (fun b hb hTb => by rw [hT b hb hTb]; exact ⟨fun h => h, fun h => h⟩) hτ
 ·exact fun b hb => by rw [hτ _ (Nat.lt_of_lt_of_le hb h.le)]; exact h.lo b hb
theorem St.below {n₀ : Nat} {τ : Nat -> Tag} {W W' : World} {bw : Nat} {tws : List Tw} {N : Nat} (h : St n₀ τ W bw tws N) (hb : Below W.heap.size W W') : St n₀ (qde τ W.heap.size) W' bw tws N :=
 h.keep (T := fun _ => False) (Keep.new hb) (fun _ _ h => h.elim) (fun b hb => qbx hb)
theorem St.qxa {n₀ : Nat} {τ τ' : Nat -> Tag} {W w' : World} {bw : Nat} {tws : List Tw} {N : Nat} (h : St n₀ τ W bw tws N) {t : Nat} {x : Tw} (hx : tws[t]? = some x) {nodes' : List Node} {last' : Int} {vw' va' : Value} {ws' as' : List Pw}
  (m1 : ∀ b, b < W.heap.size -> τ' b = τ b) (m3 : qb6 τ' t w' x.bt nodes' last' vw' va' ws' as') (m5 : Keep (fun b => b < W.heap.size /\ (τ b).prog t) W w') :
  qbh τ W τ' w' /\ St n₀ τ' w' bw (tws.set t { x with nodes := nodes', last := last', vw := vw', va := va', ws := ws', as_ := as' }) N := by
 obtain ⟨slT, slN, slE, slA, slB, ns, es, ms, me, h⟩ := h
 have htl := (List.getElem?_eq_some_iff.1 hx).1
 refine ⟨⟨m1, m5.mono (fun b hb => ⟨hb.1, fun e => by have := hb.2; rw [e] at this; exact this⟩)⟩, ⟨slT, slN, slE, slA, slB, ns, es, ms, me, ⟨h.law.keep m5 ?_ m1, h.n1, h.n2, ?_, ?_, ?_, ?_, Nat.le_trans h.le m5.size⟩⟩⟩
 ·intro b hb ⟨_, hp⟩ hl
  have q1 := Tag.qcd hp; have q2 := Tag.qfj hl; omega
 ·rw [List.length_set, qfs tws t x { x with nodes := nodes', last := last', vw := vw', va := va', ws := ws', as_ := as' } hx rfl rfl]
  refine qab h.row m5 (fun g hg hp => ?_)
  have := h.tT g hg
  have hp2 := hp.2; rw [this] at hp2; exact hp2
 ·intro g hg; rw [m1 _ (qal h.row hg)]; exact h.tT g hg
 ·intro t' x' hx'
  by_cases e : t' = t
  ·subst e
   rw [List.getElem?_set_self htl] at hx'
   cases hx'
   have hh := h.tw t' x hx
   obtain ⟨l1, l2, l3⟩ := hh.R.lts
   refine ⟨m3, hh.R.keep m5 ?_ ?_ ?_, by rw [m1 _ l1]; exact hh.tr, by rw [m1 _ l2]; exact hh.tg, fun b hb => by rw [m1 _ (l3 b hb)]; exact hh.tw b hb⟩
   ·rintro ⟨_, hp⟩; rw [hh.tr] at hp; exact hp
   ·rintro ⟨_, hp⟩; rw [hh.tg] at hp; exact hp
   ·rintro b hb ⟨_, hp⟩; rw [hh.tw b hb] at hp; exact hp
  ·rw [List.getElem?_set_ne (fun e2 => e e2.symm)] at hx'
   refine (h.tw t' x' hx').keep m5 ?_ m1
   rintro b hb ⟨_, hp⟩
   constructor
   ·intro hp'
    exact e ((Tag.qcd hp').2.symm.trans (Tag.qcd hp).2)
   ·intro hp'
    have q1 := Tag.qcd hp; have q2 := Tag.qcb hp'; omega
 ·intro b hb; rw [m1 _ (Nat.lt_of_lt_of_le hb h.le)]; exact h.lo b hb
open Classical in
theorem St.qwz {n₀ : Nat} {τ : Nat -> Tag} {W w' : World} {bw : Nat} {tws : List Tw} {N : Nat} (h : St n₀ τ W bw tws N) {t : Nat} {x : Tw} (hx : tws[t]? = some x) {L' : List Ent} {cnt' : Int} {s : SS} {sl : Value} (hM : qdw W x.br x.g x.wv.ownBlock L' cnt' s sl w') :
  ∃ τ' g' cap' ao' cW', qbh τ W τ' w' /\ St n₀ τ' w' bw (tws.set t { x with g := g', cap := cap', L := L', ao := ao', cW := cW', Ws := s.Ws, cnt := cnt', st := s.st }) N /\ Keep (fun b => b < W.heap.size /\ (τ b).refs t) W w' := by
 obtain ⟨slT, slN, slE, slA, slB, ns, es, ms, me, h⟩ := h
 obtain ⟨⟨g', cap', ao', cW', r1, r3, r4⟩, r2, _, _⟩ := hM
 have htl := (List.getElem?_eq_some_iff.1 hx).1
 have hh := h.tw t x hx
 obtain ⟨l1, l2, l3⟩ := hh.R.lts
 obtain ⟨τ', hτ'⟩ : ∃ τ' : Nat -> Tag, τ' = fun b => if b < W.heap.size then τ b else if b = g' then .rrow t else if (Value.slice ao' s.Ws.length cW').ownBlock = some b then .rwrk t else .free := ⟨_, rfl⟩
 have m1 : ∀ b, b < W.heap.size -> τ' b = τ b := fun b hb => by rw [hτ']; simp [hb]
 have hT : ∀ b, b < W.heap.size -> (b = x.br \/ b = x.g \/ x.wv.ownBlock = some b) -> (τ b).refs t := by
  rintro b hb (rfl | rfl | e)
  ·rw [hh.tr]; rfl
  ·rw [hh.tg]; rfl
  ·rw [hh.tw b e]; rfl
 refine ⟨τ', g', cap', ao', cW', ⟨m1, r2.qlj (fun b hb hb' => ⟨hb, fun e => by have := hT b hb hb'; rw [e] at this; exact this⟩)⟩, ⟨slT, slN, slE, slA, slB, ns, es, ms, me, ⟨h.law.keep r2 ?_ m1, h.n1, h.n2, ?_, ?_, ?_, ?_, Nat.le_trans h.le r2.size⟩⟩, r2.qlj (fun b hb hb' => ⟨hb, hT b hb hb'⟩)⟩
 ·intro b hb hp hl
  have hp := hT b hb hp
  have q1 := Tag.qcb hp; have q2 := Tag.qfj hl; omega
 ·rw [List.length_set, qfs tws t x { x with g := g', cap := cap', L := L', ao := ao', cW := cW', Ws := s.Ws, cnt := cnt', st := s.st } hx rfl rfl]
  refine qab h.row r2 (fun g hg hp => ?_)
  have := hT g (qal h.row hg) hp
  rw [h.tT g hg] at this; exact this
 ·intro g hg; rw [m1 _ (qal h.row hg)]; exact h.tT g hg
 ·intro t' x' hx'
  by_cases e : t' = t
  ·subst e
   rw [List.getElem?_set_self htl] at hx'
   cases hx'
   refine ⟨hh.P.keep r2 ?_ m1, r1, by rw [m1 _ l1]; exact hh.tr, ?_, ?_⟩
   ·intro b hb hp hq
    have hp := hT b hb hp
    have q1 := Tag.qcb hp; have q2 := Tag.qcd hq; omega
   ·rcases r3 with e | hge
    ·show τ' g' = _
     rw [e, m1 _ l2]; exact hh.tg
    ·show τ' g' = _
     rw [hτ']; simp [Nat.not_lt.2 hge]
   ·intro b hb
    rcases Nat.lt_or_ge b W.heap.size with hlt | hge
    ·rw [m1 b hlt]; exact hh.tw b ((r4 b hb).1 hlt)
    ·have hne := (r1.ne1 b hb).2
     rw [hτ']
     simp only [Nat.not_lt.2 hge, if_false, if_neg hne]
     exact if_pos hb
  ·rw [List.getElem?_set_ne (fun e2 => e e2.symm)] at hx'
   refine (h.tw t' x' hx').keep r2 ?_ m1
   intro b hb hp
   have hp := hT b hb hp
   constructor
   ·intro hp'
    have q1 := Tag.qcb hp; have q2 := Tag.qcd hp'; omega
   ·intro hp'
    exact e ((Tag.qcb hp').2.symm.trans (Tag.qcb hp).2)
 ·intro b hb; rw [m1 _ (Nat.lt_of_lt_of_le hb h.le)]; exact h.lo b hb
theorem St.told {n₀ : Nat} {τ : Nat -> Tag} {W w' : World} {bw : Nat} {tws : List Tw} {N M : Nat} {slT slN slE slA slB : Value} {ns es : List Value} {ms me : List Int} (h : StAt n₀ τ W bw tws N slT slN slE slA slB ns es ms me) {o : Option Nat} (ho : ∀ b, o = some b -> τ b = .free /\ n₀ <= b) {e : Ending} (hM : qro τ W o bw slT M e w') :
  ∃ τ', OwnT τ W o τ' w' /\ St n₀ τ' w' bw tws M := by
 obtain ⟨_, τ', slN', slE', slA', slB', ns', es', ms', me', hO, hL, hn, he⟩ := hM
 have hk := hO.keep
 have hne : ∀ b, τ b ≠ .free -> o ≠ some b := fun b hb e => hb (ho b e).1
 refine ⟨τ', hO, ⟨slT, slN', slE', slA', slB', ns', es', ms', me', ⟨hL, hn, he, ?_, ?_, ?_, ?_, Nat.le_trans h.le hk.size⟩⟩⟩
 ·exact qab h.row hk (fun g hg hp => by
   have h2 := h.tT g hg
   rcases hp.2 with e | e
   ·rw [h2] at e; exact e
   ·rw [(ho g e).1] at h2; cases h2)
 ·intro g hg
  have h2 := h.tT g hg
  rw [hO.old _ (qal h.row hg) (hne g (by rw [h2]; simp))]; exact h2
 ·intro t x hx
  refine ((h.tw t x hx).qve (τ' := τ') (fun b hb hf => hO.old b hb (hne b hf))).keep hk ?_ (fun _ _ => rfl)
  rintro b hb ⟨_, hl⟩
  rcases hl with hl | hl
  ·have hf : τ b ≠ .free := fun e => by rw [e] at hl; exact hl
   rw [hO.old b hb (hne b hf)]
   constructor
   ·intro hp
    have q1 := Tag.qcd hp; have q2 := Tag.qjw hl; omega
   ·intro hp
    have q1 := Tag.qcb hp; have q2 := Tag.qjw hl; omega
  ·rcases hO.new b (.inr hl) with e | e
   ·rw [e]; exact ⟨fun h => h, fun h => h⟩
   ·constructor
    ·intro hp
     have q1 := Tag.qcd hp; have q2 := Tag.qfj e; omega
    ·intro hp
     have q1 := Tag.qcb hp; have q2 := Tag.qfj e; omega
 ·intro b hb
  rw [hO.old _ (Nat.lt_of_lt_of_le hb h.le) (fun e => by have := (ho b e).2; omega)]; exact h.lo b hb
def qiz (τ : Nat -> Tag) (t : Nat) (W : World) (bt : Nat) (nodes : List Node) (last : Int) (Ws : List Wk) (st : Int) (err : Int) (x : Ent) (e : Ending) (w' : World) : Prop :=
 (err ≠ 0 /\ e = .returned (.tuple #[.slice none 0 0, .int .i64 err]) /\ Below W.heap.size W w') \/
 (err = 0 /\ ∃ τ' nodes' vw' va' ws' as' ev, e = .returned (.tuple #[ev, .int .i64 0]) /\ (∀ b, b < W.heap.size -> τ' b = τ b) /\ (∀ b, W.heap.size <= b -> τ' b = .free \/ (τ' b).prog t) /\ qb6 τ' t w' bt nodes' last vw' va' ws' as' /\
  nodes'.map Node.ent = nodes.map Node.ent ++ [x] /\ Rel nodes' (qaj (nodes.map Node.ent ++ [x]) ⟨Ws, st, []⟩).Ws ws' as' /\ w'.ownsRow 0 60 2 ev (qaj (nodes.map Node.ent ++ [x]) ⟨Ws, st, []⟩).evs.length (qai (qaj (nodes.map Node.ent ++ [x]) ⟨Ws, st, []⟩).evs) /\ (∀ b, ev.ownBlock = some b -> W.heap.size <= b /\ τ' b = .free) /\ Keep (fun b => b < W.heap.size /\ (τ b).prog t) W w')
def qkh (τ : Nat -> Tag) (t : Nat) (W : World) (bt : Nat) (nodes : List Node) (last : Int) (vw va : Value) (ws as_ : List Pw) (Ws : List Wk) (x : Ent) (w' : World) : Prop :=
 ∃ τ' nodes', (∀ b, b < W.heap.size -> τ' b = τ b) /\ (∀ b, W.heap.size <= b -> τ' b = .free \/ (τ' b).prog t) /\ qb6 τ' t w' bt nodes' last vw va ws as_ /\ nodes'.map Node.ent = nodes.map Node.ent ++ [x] /\ Rel nodes' Ws ws as_ /\ Keep (fun b => b < W.heap.size /\ (τ b).prog t) W w'
section
variable {τ : Nat -> Tag} {t : Nat} {W : World} {bt : Nat} {nodes : List Node} {last : Int} {vw va : Value} {ws as_ : List Pw} {Ws : List Wk} {st : Int}
theorem qeh {nodes : List Node} (T : Tree nodes) {r : Node} (h : nodes[0]? = some r) : r ∈ nodes /\ r.key = [] := by
 obtain ⟨r', h1, h2, _⟩ := T.root
 rw [h] at h1; cases h1
 exact ⟨List.mem_of_getElem? h, h2⟩
theorem qlk {x : Ent} {w1 : World} (h : qkh τ t W bt nodes last vw va ws as_ Ws x w1) (I : SInv ⟨Ws, st, []⟩) :
  Calls Tryz.prog 51 #[.pointer (some ⟨bt, 0, none⟩), .int .i64 0] w1 fun e w' => qiz τ t W bt nodes last Ws st 0 x e w' := by
 obtain ⟨τ1, nodes1, g1, g2, g3, g4, g5, g6⟩ := h
 obtain ⟨r, hr, htw⟩ := g3.bk
 obtain ⟨hrm, hrk⟩ := qeh g3.pr.tree hr
 refine (qf6 g3.pr.tree g3.pr.qlc htw hrm hrk (s0 := ⟨Ws, st, []⟩) g5 I rfl).mono ?_
 rintro e w' ⟨vw2, va2, ev2, ws2, as2, rfl, m1, m2, m3, m4, m5, m6, m7⟩
 obtain ⟨τ2, vw3, va3, ws3, as3, k1, k2, k3, k4, k5, k6, k7⟩ := g3.set hr (last' := last) (ev := ev2) ⟨vw2, va2, ws2, as2, m1, m2, m3, m4, m5, m6, fun p hp => .inl (m7 p hp)⟩
 have hz := g6.size
 rw [g4] at k4 k5
 refine .inr ⟨rfl, τ2, nodes1, vw3, va3, ws3, as3, ev2, rfl, fun b hb => (k1 b (by omega)).trans (g1 b hb), fun b hb => ?_, k3, g4, k4, k5, fun b hb => ⟨by have := (k6 b hb).1; omega, (k6 b hb).2⟩, g6.qbo k7 (fun b hb e => ⟨hb, by have := e.2; rw [g1 b hb] at this; exact this⟩)⟩
 by_cases hb1 : b < w1.heap.size
 ·rw [k1 b hb1]; exact g2 b hb
 ·exact k2 b (by omega)
theorem qv9 {w : World} (h : qb6 τ t W bt nodes last vw va ws as_) (R : Rel nodes Ws ws as_) (hW : Below W.heap.size W w) (s : ByteArray) (hs : s.size <= 2000000) (vb cp : Nat) (l : List (Int × Int)) (hl : l.length <= 100) (hb : vb < w.heap.size)
  (hc : ∀ (j : Nat) (x : Int × Int), l[j]? = some x -> w.cell? ⟨vb, j * 2, none⟩ = some (.int .i64 x.1) /\ w.cell? ⟨vb, j * 2 + 1, none⟩ = some (.int .i64 x.2))
  (q : Nat) (hq : W.heap.size <= q) (leaf : Bool) (a b c d : Int) (hbq : Blk w q 136 #[.string ⟨#[]⟩, .bool leaf, .int .i64 a, .int .i64 b, .int .i64 c, .int .i64 d, .pointer none, .slice none 0 0])
  (hnum : qb3 l = true -> (0 <= a /\ a <= 1000) /\ (0 <= b /\ b <= 1000) /\ (0 <= c /\ c <= 1000) /\ (0 <= d /\ d <= 1000) /\ (leaf = false -> a = 0 /\ b = 0)) :
  Calls Tryz.prog 52 #[.pointer (some ⟨bt, 0, none⟩), .string s, .pointer (some ⟨q, 0, none⟩), .slice (some ⟨vb, 0, none⟩) l.length cp] w fun e w' => e = .returned (.int .i64 (qbc nodes (bl s) (qb3 l))) /\ (qbc nodes (bl s) (qb3 l) ≠ 0 -> Below W.heap.size W w') /\ (qbc nodes (bl s) (qb3 l) = 0 -> qkh τ t W bt nodes last vw va ws as_ Ws ⟨qaa (bl s), leaf, a, b, c, d⟩ w') /\ Keep (fun x => x < W.heap.size \/ x = q) w w' := by
 obtain ⟨r, hr0, htw⟩ := h.bk
 obtain ⟨hr, hrk⟩ := qeh h.pr.tree hr0
 have hcell : w.cell? ⟨bt, 0, none⟩ = some (nptr r.blk) := (htw.below hW).bk.at_.cell 0
 refine (qtu h.pr.tree w (fun n hn => (h.pr.ins n hn).below hW) hr hrk bt hcell s hs vb cp l hl hb hc q leaf a b c d hbq (fun n hn => ?_)).mono ?_
 ·obtain ⟨i, hi⟩ := List.getElem?_of_mem hn
  obtain ⟨t1, t2⟩ := h.pr.tags i n hi
  refine ⟨fun e => by have := (h.pr.ins n hn).lt; omega, fun e => by have := ((h.pr.ins n hn).row.lt _ e).2; omega, fun e => by have := t2 _ e; rw [t1] at this; cases this⟩
 ·rintro e w' (⟨h1, rfl, hbw⟩ | ⟨h1, rfl, hp⟩)
  ·exact ⟨rfl, fun _ => qac hW hbw, fun e => absurd e h1, Keep.new hbw⟩
  ·obtain ⟨hv, h0, hok, hd, _⟩ := qic h1
   obtain ⟨τ', nodes', g1, g2, g3, g4, g5, g6⟩ := h.hung hW hq hv hd (hnum hok) hp
   refine ⟨by rw [h1], fun e => absurd h1 e, fun _ => ⟨τ', nodes', g1, g2, g3, g4, R.qvh g6, g5⟩, ?_⟩
   obtain ⟨p, nm, ks, at_, sl, h3, _, _, _, _, h2⟩ := hp.ex
   refine h2.keep.mono (fun x hx => ?_)
   have hn := h.pr.ins p h3
   rcases hx with rfl | rfl | e
   ·exact .inl hn.lt
   ·exact .inr rfl
   ·exact .inl (hn.row.lt _ e).2
end
end Go.Proofs.YtphclnolomgjoaaGreatDoor
