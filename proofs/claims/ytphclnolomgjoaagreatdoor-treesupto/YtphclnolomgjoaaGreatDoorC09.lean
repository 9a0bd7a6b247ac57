import Derived.Test.YtphclnolomgjoaaGreatDoorC08
import Derived.Test.YtphclnolomgjoaaGreatDoorC05
import Derived.Test.YtphclnolomgjoaaGreatDoorC07
set_option linter.unusedVariables false
set_option linter.unusedSimpArgs false
namespace Go.Proofs.YtphclnolomgjoaaGreatDoor
open Go.RowKit
structure Tag where
 k : Nat
 t : Nat
 i : Nat
abbrev Tag.free : Tag := ⟨0, 0, 0⟩
abbrev Tag.node (t i : Nat) : Tag := ⟨1, t, i⟩
abbrev Tag.row (t i : Nat) : Tag := ⟨2, t, i⟩
abbrev Tag.tow (t : Nat) : Tag := ⟨3, t, 0⟩
abbrev Tag.ref (t : Nat) : Tag := ⟨4, t, 0⟩
abbrev Tag.rrow (t : Nat) : Tag := ⟨5, t, 0⟩
abbrev Tag.law : Tag := ⟨6, 0, 0⟩
abbrev Tag.lawT : Tag := ⟨7, 0, 0⟩
abbrev Tag.lawN : Tag := ⟨8, 0, 0⟩
abbrev Tag.lawE : Tag := ⟨9, 0, 0⟩
abbrev Tag.lawA : Tag := ⟨10, 0, 0⟩
abbrev Tag.lawB : Tag := ⟨11, 0, 0⟩
abbrev Tag.lst : Tag := ⟨12, 0, 0⟩
abbrev Tag.book (t : Nat) : Tag := ⟨13, t, 0⟩
abbrev Tag.work (t : Nat) : Tag := ⟨14, t, 0⟩
def Tag.prog (t : Nat) : Tag -> Prop
 | ⟨1, t', _⟩ => t' = t
 | ⟨2, t', _⟩ => t' = t
 | ⟨3, t', _⟩ => t' = t
 | ⟨13, t', _⟩ => t' = t
 | ⟨14, t', _⟩ => t' = t
 | _ => False
def Tag.refs (t : Nat) : Tag -> Prop
 | ⟨4, t', _⟩ => t' = t
 | ⟨5, t', _⟩ => t' = t
 | _ => False
theorem Tag.qcd {x : Tag} {t : Nat} (h : x.prog t) : (x.k = 1 \/ x.k = 2 \/ x.k = 3 \/ x.k = 13 \/ x.k = 14) /\ x.t = t := by
 unfold Tag.prog at h
 split at h <;> first | exact ⟨by simp, h⟩ | exact h.elim
theorem Tag.qcb {x : Tag} {t : Nat} (h : x.refs t) : (x.k = 4 \/ x.k = 5) /\ x.t = t := by
 unfold Tag.refs at h
 split at h <;> first | exact ⟨by simp, h⟩ | exact h.elim
structure qfn (τ : Nat -> Tag) (t : Nat) (W : World) (bt : Nat) (nodes : List Node) (c1 c2 c3 : Value) : Prop where
 tree : Tree nodes
 ins : ∀ n ∈ nodes, qan W n
 tags : ∀ (i : Nat) (n : Node), nodes[i]? = some n -> τ n.blk = .node t i /\ ∀ g, n.sl.ownBlock = some g -> τ g = .row t i
 tow : ∃ r, nodes[0]? = some r /\ Blk W bt 102 #[nptr r.blk, c1, c2, c3]
 ttag : τ bt = .tow t
theorem qfn.keep {τ τ' : Nat -> Tag} {t : Nat} {W W' : World} {bt : Nat} {nodes : List Node} {c1 c2 c3 : Value} (h : qfn τ t W bt nodes c1 c2 c3) {T : Nat -> Prop} (k : Keep T W W') (hT : ∀ b, b < W.heap.size -> T b -> ¬ (τ b).prog t)
  (hτ : ∀ b, b < W.heap.size -> τ' b = τ b) : qfn τ' t W' bt nodes c1 c2 c3 := by
 obtain ⟨r, hr, hb⟩ := h.tow
 have hlt : ∀ (i : Nat) (n : Node), nodes[i]? = some n -> n.blk < W.heap.size /\ ∀ g, n.sl.ownBlock = some g -> g < W.heap.size := fun i n hn =>
  ⟨(h.ins n (List.mem_of_getElem? hn)).lt, fun g hg => ((h.ins n (List.mem_of_getElem? hn)).row.lt g hg).2⟩
 refine ⟨h.tree, fun n hn => ?_, fun i n hn => ?_, ⟨r, hr, ?_⟩, ?_⟩
 ·obtain ⟨i, hi⟩ := List.getElem?_of_mem hn
  obtain ⟨t1, t2⟩ := h.tags i n hi
  obtain ⟨l1, l2⟩ := hlt i n hi
  exact (h.ins n hn).keep k (fun hb => hT _ l1 hb (by rw [t1]; rfl)) (fun g hg hb => hT _ (l2 g hg) hb (by rw [t2 g hg]; rfl))
 ·obtain ⟨t1, t2⟩ := h.tags i n hn
  obtain ⟨l1, l2⟩ := hlt i n hn
  exact ⟨by rw [hτ _ l1]; exact t1, fun g hg => by rw [hτ _ (l2 g hg)]; exact t2 g hg⟩
 ·exact hb.keep k (fun hb' => hT _ hb.lt hb' (by rw [h.ttag]; rfl))
 ·rw [hτ _ hb.lt]; exact h.ttag
theorem qfn.hung {τ : Nat -> Tag} {t : Nat} {W w w' : World} {bt : Nat} {nodes : List Node} {c1 c2 c3 : Value} (h : qfn τ t W bt nodes c1 c2 c3) (hWw : Below W.heap.size W w) {q : Nat} (hq : W.heap.size <= q) {s : Bs} {leaf : Bool} {a b c d : Int}
  (hv : qar s = true) (hd : qdm s <= 4) (hnum : (0 <= a /\ a <= 1000) /\ (0 <= b /\ b <= 1000) /\ (0 <= c /\ c <= 1000) /\ (0 <= d /\ d <= 1000) /\ (leaf = false -> a = 0 /\ b = 0))
  (hp : qkx nodes q s leaf a b c d w w') :
  ∃ τ' nodes', (∀ x, x < W.heap.size -> τ' x = τ x) /\ (∀ x, W.heap.size <= x -> τ' x = .free \/ (τ' x).prog t) /\ qfn τ' t w' bt nodes' c1 c2 c3 /\ nodes'.map Node.ent = nodes.map Node.ent ++ [⟨qaa s, leaf, a, b, c, d⟩] /\
   Keep (fun x => (x < W.heap.size /\ ((τ x).k = 1 \/ (τ x).k = 2) /\ (τ x).t = t)) W w' /\ (∀ n ∈ nodes, ∃ n' ∈ nodes', n'.blk = n.blk /\ n'.key = n.key) /\ (∀ x, W.heap.size <= x -> τ' x = .free \/ (τ' x).k = 1 \/ (τ' x).k = 2) := by
 obtain ⟨p, nm, ks, at_, sl, hpn, hpl, hnm, h20, hno, H⟩ := hp.ex
 have T := h.tree
 obtain ⟨j, hj⟩ := List.getElem?_of_mem hpn
 have hInW : ∀ n ∈ nodes, qan w n := fun n hn => (h.ins n hn).below hWw
 have hlt : ∀ n ∈ nodes, n.blk < W.heap.size /\ ∀ g, n.sl.ownBlock = some g -> g < W.heap.size := fun n hn => ⟨(h.ins n hn).lt, fun g hg => ((h.ins n hn).row.lt g hg).2⟩
 obtain ⟨p', hp'⟩ : ∃ p', p' = p.qif at_ q sl := ⟨_, rfl⟩
 obtain ⟨m, hm⟩ : ∃ m : Node, m = { blk := q, key := p.key ++ [nm], leaf := leaf, n0 := a, n1 := b, b0 := c, b1 := d, up := some p.blk, sl := .slice none 0 0, kids := [] } := ⟨_, rfl⟩
 have hmk : m.key = p.key ++ [nm] := by rw [hm]
 obtain ⟨up, hup⟩ : ∃ up : Node -> Node, up = fun n => if n.key = p.key then p' else n := ⟨_, rfl⟩
 have hupp : up p = p' := by rw [hup]; simp
 have hupo : ∀ n ∈ nodes, n.key ≠ p.key -> up n = n := fun n hn hk => by rw [hup]; simp [hk]
 have hupc : ∀ n ∈ nodes, (n = p /\ up n = p') \/ (n.key ≠ p.key /\ up n = n) := fun n hn => by
  by_cases hk : n.key = p.key
  ·obtain rfl := T.inj n hn p hpn hk; exact .inl ⟨rfl, hupp⟩
  ·exact .inr ⟨hk, hupo n hn hk⟩
 have p'k : p'.key = p.key /\ p'.leaf = p.leaf /\ p'.n0 = p.n0 /\ p'.n1 = p.n1 /\ p'.b0 = p.b0 /\ p'.b1 = p.b1 /\ p'.up = p.up /\ p'.blk = p.blk /\ p'.sl = sl /\ p'.kids = p.kids.take at_ ++ q :: p.kids.drop at_ := by rw [hp']; simp [Node.qif]
 have upk : ∀ n ∈ nodes, (up n).key = n.key /\ (up n).leaf = n.leaf /\ (up n).n0 = n.n0 /\ (up n).n1 = n.n1 /\ (up n).b0 = n.b0 /\ (up n).b1 = n.b1 /\ (up n).up = n.up /\ (up n).blk = n.blk := fun n hn => by
  rcases hupc n hn with ⟨rfl, e⟩ | ⟨_, e⟩
  ·rw [e]; exact ⟨p'k.1, p'k.2.1, p'k.2.2.1, p'k.2.2.2.1, p'k.2.2.2.2.1, p'k.2.2.2.2.2.1, p'k.2.2.2.2.2.2.1, p'k.2.2.2.2.2.2.2.1⟩
  ·rw [e]; exact ⟨rfl, rfl, rfl, rfl, rfl, rfl, rfl, rfl⟩
 have hmem : ∀ n, n ∈ nodes.map up ++ [m] ↔ (∃ n0 ∈ nodes, n = up n0) \/ n = m := fun n => by
  simp only [List.mem_append, List.mem_map, List.mem_singleton]
  constructor
  ·rintro (⟨n0, h1, rfl⟩ | rfl)
   ·exact .inl ⟨n0, h1, rfl⟩
   ·exact .inr rfl
  ·rintro (⟨n0, h1, rfl⟩ | rfl)
   ·exact .inl ⟨n0, h1, rfl⟩
   ·exact .inr rfl
 have hkeyno : ∀ n ∈ nodes, n.key ≠ p.key ++ [nm] := fun n hn => by rw [<- hnm]; exact hno n hn
 have hkok : qbn (p.key ++ [nm]) = true := by rw [<- hnm, <- qba]; exact hv
 have hkeys : (nodes.map up ++ [m]).map (·.key) = nodes.map (·.key) ++ [p.key ++ [nm]] := by
  simp only [List.map_append, List.map_map, List.map_cons, List.map_nil, hmk]
  congr 1
  exact List.map_congr_left (fun n hn => (upk n hn).1)
 obtain ⟨τ', hτ'⟩ : ∃ τ' : Nat -> Tag, τ' = fun x => if x < W.heap.size then τ x else if x = q then .node t nodes.length else if sl.ownBlock = some x then .row t j else .free := ⟨_, rfl⟩
 have hτo : ∀ x, x < W.heap.size -> τ' x = τ x := fun x hx => by rw [hτ']; simp [hx]
 have hτq : τ' q = .node t nodes.length := by rw [hτ']; simp [Nat.not_lt.2 hq]
 have hpj := h.tags j p hj
 have hsl : ∀ g, sl.ownBlock = some g -> τ' g = .row t j := fun g hg => by
  rcases H.own with e | ⟨g', e, hg'⟩
  ·rw [e] at hg
   rw [hτo g ((hlt p hpn).2 g hg)]; exact hpj.2 g hg
  ·rw [e] at hg; cases hg
   have h1 : ¬ g < W.heap.size := by have := hWw.size; omega
   have h2 : g ≠ q := fun e2 => by
    have := H.new.lt
    have := (H.par.row.lt g (by rw [show (p.qif at_ q sl).sl = sl from rfl, e])).2
    have hA := H.new.at_
    obtain ⟨_, hr⟩ := H.par.row
    rcases hr with ⟨hv', _⟩ | ⟨g2, cap, cur, hv', _, hg2, _⟩
    ·rw [show (p.qif at_ q sl).sl = sl from rfl] at hv'; rw [hv'] at e; cases e
    ·rw [show (p.qif at_ q sl).sl = sl from rfl] at hv'; rw [hv'] at e; injection e with e
     have e3 : g2 = q := (show g2 = g from e).trans e2
     rw [e3] at hg2
     have h9 := hg2.symm.trans hA
     injection h9 with h9
     injection h9 with _ h9 _
     exact absurd h9 (by decide)
   rw [hτ']; simp [h1, h2, e]
 have hKeep : Keep (fun x => (x < W.heap.size /\ ((τ x).k = 1 \/ (τ x).k = 2) /\ (τ x).t = t)) W w' := by
  refine ⟨H.keep.os.trans hWw.os, H.keep.tape.trans hWw.tape, H.keep.output.trans hWw.output, Nat.le_trans hWw.size H.keep.size, fun x hx hn => ?_⟩
  refine (H.keep.block x (Nat.lt_of_lt_of_le hx hWw.size) ?_).trans (hWw.block x hx)
  rintro (rfl | rfl | e)
  ·exact hn ⟨hx, by rw [hpj.1]; simp⟩
  ·omega
  ·exact hn ⟨hx, by rw [hpj.2 x e]; simp⟩
 have hother : ∀ (i : Nat) (n : Node), nodes[i]? = some n -> i ≠ j -> qan w' n := fun i n hi hij => by
  have hn := List.mem_of_getElem? hi
  obtain ⟨t1, t2⟩ := h.tags i n hi
  refine (hInW n hn).keep H.keep ?_ ?_
  ·rintro (e | e | e)
   ·rw [e, hpj.1] at t1; injection t1 with _ _ t1; exact hij t1.symm
   ·have := (hlt n hn).1; omega
   ·rw [hpj.2 _ e] at t1; cases t1
  ·intro g hg
   have t3 := t2 g hg
   rintro (e | e | e)
   ·rw [e, hpj.1] at t3; cases t3
   ·have := (hlt n hn).2 g hg; omega
   ·rw [hpj.2 _ e] at t3; injection t3 with _ _ t3; exact hij t3.symm
 refine ⟨τ', nodes.map up ++ [m], hτo, ?_, ⟨?_, ?_, ?_, ?_, ?_⟩, ?_, hKeep, fun n hn => ⟨up n, (hmem _).2 (.inl ⟨n, hn, rfl⟩), (upk n hn).2.2.2.2.2.2.2, (upk n hn).1⟩, ?_⟩
 ·intro x hx
  rw [hτ']
  simp only [Nat.not_lt.2 hx, if_false]
  by_cases h1 : x = q
  ·right; simp [h1, Tag.prog]
  ·by_cases h2 : sl.ownBlock = some x
   ·right; simp [h1, h2, Tag.prog]
   ·left; simp [h1, h2]
 ·-- the tree
  refine ⟨?_, ?_, ?_, ?_, ?_, ?_, ?_, ?_, ?_⟩
  ·obtain ⟨r, h0, h1, h2, h3, h4⟩ := T.root
   have hrn := List.mem_of_getElem? h0
   have u := upk r hrn
   refine ⟨up r, ?_, by rw [u.1]; exact h1, by rw [u.2.1]; exact h2, by rw [u.2.2.2.2.1]; exact h3, by rw [u.2.2.2.2.2.1]; exact h4⟩
   rw [List.getElem?_append_left (by simp; exact (List.getElem?_eq_some_iff.1 h0).1)]
   simp [h0]
  ·intro n hn n2 hn2 e
   rcases (hmem n).1 hn with ⟨x, hx, rfl⟩ | rfl <;> rcases (hmem n2).1 hn2 with ⟨y, hy, rfl⟩ | rfl
   ·rw [(upk x hx).1, (upk y hy).1] at e; rw [T.inj x hx y hy e]
   ·rw [(upk x hx).1, hmk] at e; exact absurd e (hkeyno x hx)
   ·rw [(upk y hy).1, hmk] at e; exact absurd e.symm (hkeyno y hy)
   ·rfl
  ·rw [hkeys]
   refine List.nodup_append.2 ⟨T.nodup, by simp, ?_⟩
   intro k hk k2 hk2 e
   simp only [List.mem_singleton] at hk2
   obtain ⟨n, hn, rfl⟩ := List.mem_map.1 hk
   rw [hk2] at e; exact hkeyno n hn e
  ·intro n hn
   rcases (hmem n).1 hn with ⟨x, hx, rfl⟩ | rfl
   ·rw [(upk x hx).1]; exact T.ok x hx
   ·rw [hmk]; refine ⟨hkok, ?_⟩; rw [<- hnm]; exact hd
  ·intro n hn
   rcases (hmem n).1 hn with ⟨x, hx, rfl⟩ | rfl
   ·obtain ⟨_, u1, u2, u3, u4, u5, _⟩ := upk x hx
    rw [u1, u2, u3, u4, u5]; exact T.num x hx
   ·rw [hm]; exact hnum
  ·intro n hn hk
   rcases (hmem n).1 hn with ⟨x, hx, rfl⟩ | rfl
   ·rw [(upk x hx).2.2.2.2.2.2.1]; exact T.top x hx (by rw [<- (upk x hx).1]; exact hk)
   ·rw [hmk] at hk; simp at hk
  ·intro n hn k x hk
   rcases (hmem n).1 hn with ⟨y, hy, rfl⟩ | rfl
   ·rw [(upk y hy).1] at hk
    obtain ⟨pp, h1, h2, h3, h4⟩ := T.par y hy k x hk
    obtain ⟨v1, v2, _, _, _, _, _, v3⟩ := upk pp h1
    exact ⟨up pp, (hmem _).2 (.inl ⟨pp, h1, rfl⟩), by rw [v1]; exact h2, by rw [v2]; exact h3, by rw [(upk y hy).2.2.2.2.2.2.1, v3]; exact h4⟩
   ·rw [hmk] at hk
    obtain ⟨e1, e2⟩ := List.append_inj' hk rfl
    refine ⟨p', (hmem _).2 (.inl ⟨p, hpn, hupp.symm⟩), by rw [p'k.1]; exact e1, by rw [p'k.2.1]; exact hpl, by rw [hm, p'k.2.2.2.2.2.2.2.1]⟩
  ·intro n hn
   rcases (hmem n).1 hn with ⟨y, hy, rfl⟩ | rfl
   ·rcases hupc y hy with ⟨rfl, e⟩ | ⟨hne, e⟩
    ·-- the parent
     rw [e]
     refine ⟨(ks.map up).take at_ ++ m :: (ks.map up).drop at_, ?_, ?_, ?_⟩
     ·rw [p'k.2.2.2.2.2.2.2.2.2, H.kids]
      have : (ks.map up).map (·.blk) = ks.map (·.blk) := by
       rw [List.map_map]; exact List.map_congr_left (fun n hn => (upk n ((H.mem n).1 hn).1).2.2.2.2.2.2.2)
      rw [List.map_append, List.map_cons, List.map_take, List.map_drop, this, hm]
     ·intro k
      rw [p'k.1]
      have hin : k ∈ (ks.map up).take at_ ++ m :: (ks.map up).drop at_ ↔ k ∈ ks.map up \/ k = m := by
       simp only [List.mem_append, List.mem_cons]
       constructor
       ·rintro (h1 | h1 | h1)
        ·exact .inl (List.mem_of_mem_take h1)
        ·exact .inr h1
        ·exact .inl (List.mem_of_mem_drop h1)
       ·rintro (h1 | h1)
        ·rw [<- List.take_append_drop at_ (ks.map up)] at h1
         rcases List.mem_append.1 h1 with h2 | h2
         ·exact .inl h2
         ·exact .inr (.inr h2)
        ·exact .inr (.inl h1)
      rw [hin, hmem]
      constructor
      ·rintro (h1 | rfl)
       ·obtain ⟨z, hz, rfl⟩ := List.mem_map.1 h1
        obtain ⟨hzn, x, hx⟩ := (H.mem z).1 hz
        exact ⟨.inl ⟨z, hzn, rfl⟩, x, by rw [(upk z hzn).1]; exact hx⟩
       ·exact ⟨.inr rfl, nm, hmk⟩
      ·rintro ⟨h1 | rfl, x, hx⟩
       ·obtain ⟨z, hz, rfl⟩ := h1
        rw [(upk z hz).1] at hx
        exact .inl (List.mem_map.2 ⟨z, (H.mem z).2 ⟨hz, x, hx⟩, rfl⟩)
       ·exact .inr rfl
     ·have hnames : ((ks.map up).take at_ ++ m :: (ks.map up).drop at_).map (fun k => qbv k.key) = (ks.map fun k => qbv k.key).take at_ ++ nm :: (ks.map fun k => qbv k.key).drop at_ := by
       have : (ks.map up).map (fun k => qbv k.key) = ks.map fun k => qbv k.key := by
        rw [List.map_map]; exact List.map_congr_left (fun n hn => by simp only [Function.comp]; rw [(upk n ((H.mem n).1 hn).1).1])
       rw [List.map_append, List.map_cons, List.map_take, List.map_drop, this, hmk, qdc]
      rw [hnames]
      obtain ⟨f1, f2, f3, f4⟩ := H.found
      have hs := H.sort
      generalize (ks.map fun k => qbv k.key) = ns at hs f1 f2 f3 f4
      have hsplit := List.take_append_drop at_ ns
      rw [<- hsplit] at hs
      obtain ⟨s1, s2, s3⟩ := List.pairwise_append.1 hs
      refine List.pairwise_append.2 ⟨s1, List.pairwise_cons.2 ⟨?_, s2⟩, ?_⟩
      ·intro y hy
       obtain ⟨i, hi⟩ := List.getElem?_of_mem hy
       rw [List.getElem?_drop] at hi
       have g1 := f3 (at_ + i) y (by omega) hi
       have g2 : cmpB y nm ≠ 0 := fun e0 => by
        have := qkl _ _ e0
        subst this
        rcases Nat.eq_zero_or_pos i with rfl | hpos
        ·have := f4.2 (by simpa using hi); cases this
        ·have hlt' : at_ < ns.length := by have := (List.getElem?_eq_some_iff.1 hi).1; omega
         have g3 := f3 at_ _ (Nat.le_refl _) (List.getElem?_eq_getElem hlt')
         have g4 := List.pairwise_iff_getElem.1 H.sort
         have hs' := hs
         rw [hsplit] at hs'
         have g5 := List.pairwise_iff_getElem.1 hs' at_ (at_ + i) hlt' (List.getElem?_eq_some_iff.1 hi).1 (by omega)
         rw [(List.getElem?_eq_some_iff.1 hi).2] at g5
         omega
       have g6 : cmpB nm y = - cmpB y nm := qrv _ _
       omega
      ·intro x hx y hy
       obtain ⟨i, hi⟩ := List.getElem?_of_mem hx
       rw [List.getElem?_take] at hi
       split at hi
       ·rename_i hlt'
        have g1 := f2 i x hlt' hi
        rcases List.mem_cons.1 hy with rfl | hy
        ·exact g1
        ·exact s3 x hx y hy
       ·cases hi
    ·rw [e]
     obtain ⟨ks0, k1, k2, k3⟩ := T.kids y hy
     refine ⟨ks0.map up, ?_, ?_, ?_⟩
     ·rw [k1, List.map_map]; exact List.map_congr_left (fun n hn => ((upk n ((k2 n).1 hn).1).2.2.2.2.2.2.2).symm)
     ·intro k
      rw [hmem]
      constructor
      ·intro h1
       obtain ⟨z, hz, rfl⟩ := List.mem_map.1 h1
       obtain ⟨hzn, x, hx⟩ := (k2 z).1 hz
       exact ⟨.inl ⟨z, hzn, rfl⟩, x, by rw [(upk z hzn).1]; exact hx⟩
      ·rintro ⟨h1 | rfl, x, hx⟩
       ·obtain ⟨z, hz, rfl⟩ := h1
        rw [(upk z hz).1] at hx
        exact List.mem_map.2 ⟨z, (k2 z).2 ⟨hz, x, hx⟩, rfl⟩
       ·rw [hmk] at hx
        exact absurd (List.append_inj' hx rfl).1.symm hne
     ·have : (ks0.map up).map (fun k => qbv k.key) = ks0.map fun k => qbv k.key := by
       rw [List.map_map]; exact List.map_congr_left (fun n hn => by simp only [Function.comp]; rw [(upk n ((k2 n).1 hn).1).1])
      rw [this]; exact k3
   ·refine ⟨[], by rw [hm]; rfl, fun k => ?_, by simp⟩
    constructor
    ·intro h1; cases h1
    ·rintro ⟨h1, x, hx⟩
     rw [hmk] at hx
     rcases (hmem k).1 h1 with ⟨z, hz, rfl⟩ | rfl
     ·rw [(upk z hz).1] at hx
      obtain ⟨pp, g1, g2, _⟩ := T.par z hz _ _ hx
      exact absurd g2 (hkeyno pp g1)
     ·rw [hmk] at hx
      have := congrArg List.length hx; simp at this
  ·simp; omega
 ·intro n hn
  rcases (hmem n).1 hn with ⟨y, hy, rfl⟩ | rfl
  ·rcases hupc y hy with ⟨rfl, e⟩ | ⟨hne, e⟩
   ·rw [e, hp']; exact H.par
   ·rw [e]
    obtain ⟨i, hi⟩ := List.getElem?_of_mem hy
    exact hother i y hi (fun e2 => by subst e2; rw [hj] at hi; cases hi; exact hne rfl)
  ·rw [hm]; exact H.new
 ·intro i n hi
  rcases Nat.lt_or_ge i nodes.length with hlt2 | hge
  ·rw [List.getElem?_append_left (by simpa using hlt2)] at hi
   simp only [List.getElem?_map, Option.map_eq_some_iff] at hi
   obtain ⟨y, hy, rfl⟩ := hi
   have hyn := List.mem_of_getElem? hy
   obtain ⟨t1, t2⟩ := h.tags i y hy
   refine ⟨by rw [(upk y hyn).2.2.2.2.2.2.2, hτo _ (hlt y hyn).1]; exact t1, fun g hg => ?_⟩
   rcases hupc y hyn with ⟨rfl, e⟩ | ⟨hne, e⟩
   ·have hij : i = j := by
     rw [hpj.1] at t1; injection t1 with _ _ t1; exact t1.symm
    rw [e, p'k.2.2.2.2.2.2.2.2.1] at hg
    rw [hij]; exact hsl g hg
   ·rw [e] at hg
    rw [hτo _ ((hlt y hyn).2 g hg)]; exact t2 g hg
  ·rw [List.getElem?_append_right (by simpa using hge)] at hi
   simp only [List.length_map] at hi
   have : i = nodes.length := by
    rcases Nat.eq_zero_or_pos (i - nodes.length) with h0 | h0
    ·omega
    ·rw [List.getElem?_eq_none (by simp; omega)] at hi; cases hi
   subst this
   simp at hi
   subst hi
   rw [hm]
   exact ⟨hτq, fun g hg => by cases hg⟩
 ·obtain ⟨r, h0, hb⟩ := h.tow
  refine ⟨up r, ?_, ?_⟩
  ·rw [List.getElem?_append_left (by simp; exact (List.getElem?_eq_some_iff.1 h0).1)]; simp [h0]
  ·rw [(upk r (List.mem_of_getElem? h0)).2.2.2.2.2.2.2]
   refine (hb.below hWw hb.lt).keep H.keep ?_
   rintro (e | e | e)
   ·have := h.ttag; rw [e, hpj.1] at this; cases this
   ·have := hb.lt; omega
   ·have := h.ttag; rw [hpj.2 _ e] at this; cases this
 ·obtain ⟨r, h0, hb⟩ := h.tow
  rw [hτo _ hb.lt]; exact h.ttag
 ·rw [List.map_append, List.map_map]
  congr 1
  ·exact List.map_congr_left (fun n hn => by
    obtain ⟨u0, u1, u2, u3, u4, u5, _⟩ := upk n hn
    simp only [Function.comp, Node.ent, u0, u1, u2, u3, u4, u5])
  ·rw [hm, hnm]; rfl
 ·intro x hx
  rw [hτ']
  simp only [Nat.not_lt.2 hx, if_false]
  by_cases h1 : x = q
  ·right; simp [h1]
  ·by_cases h2 : sl.ownBlock = some x
   ·right; simp [h1, h2]
   ·left; simp [h1, h2]
def Tag.laws : Tag -> Prop
 | ⟨6, _, _⟩ | ⟨7, _, _⟩ | ⟨8, _, _⟩ | ⟨9, _, _⟩ | ⟨10, _, _⟩ | ⟨11, _, _⟩ | ⟨12, _, _⟩ => True
 | _ => False
def Tag.owns : Tag -> Prop
 | ⟨6, _, _⟩ | ⟨8, _, _⟩ | ⟨9, _, _⟩ | ⟨10, _, _⟩ | ⟨11, _, _⟩ | ⟨12, _, _⟩ => True
 | _ => False
theorem Tag.qfj {x : Tag} (h : x.laws) : 6 <= x.k /\ x.k <= 12 := by
 unfold Tag.laws at h
 split at h <;> first | (simp; done) | exact h.elim
theorem Tag.qjw {x : Tag} (h : x.owns) : 6 <= x.k /\ x.k <= 12 /\ x.k ≠ 7 := by
 unfold Tag.owns at h
 split at h <;> first | (simp; done) | exact h.elim
structure qgh (τ : Nat -> Tag) (W : World) (bw : Nat) (slT slN slE slA slB : Value) (ns es : List Value) (ms me : List Int) : Prop where
 blk : Blk W bw 84 #[slT, slN, slE, slA, slB]
 tag : τ bw = .law
 N : qdz W 1 25 slN slA ns ms
 E : qdz W 2 48 slE slB es me
 tN : ∀ g, slN.ownBlock = some g -> τ g = .lawN
 tE : ∀ g, slE.ownBlock = some g -> τ g = .lawE
 tA : ∀ g, slA.ownBlock = some g -> τ g = .lawA
 tB : ∀ g, slB.ownBlock = some g -> τ g = .lawB
 ln : ∀ v ∈ ns, ∀ g, v.ownBlock = some g -> τ g = .lst
 le : ∀ v ∈ es, ∀ g, v.ownBlock = some g -> τ g = .lst
theorem qdz.lt {W : World} {c : Nat} {tl : TypeId} {sl slm : Value} {ns : List Value} {ms : List Int} (h : qdz W c tl sl slm ns ms) : (∀ g, sl.ownBlock = some g -> g < W.heap.size) /\ (∀ g, slm.ownBlock = some g -> g < W.heap.size) /\ (∀ v ∈ ns, ∀ g, v.ownBlock = some g -> g < W.heap.size) := by
 refine ⟨fun g hg => qal h.row hg, fun g hg => qal h.mrow hg, fun v hv g hg => ?_⟩
 obtain ⟨i, hi⟩ := List.getElem?_of_mem hv
 have hlt := (List.getElem?_eq_some_iff.1 hi).1
 obtain ⟨m, hm⟩ : ∃ m, ms[i]? = some m := ⟨_, List.getElem?_eq_getElem (by rw [<- h.len]; exact hlt)⟩
 rcases h.ok i v m hi hm with rfl | ⟨b, len, cap, rfl, _, _, _, h4, _⟩
 ·cases hg
 ·simp [Value.ownBlock] at hg; subst hg; exact h4
theorem qgh.keep {τ τ' : Nat -> Tag} {W W' : World} {bw : Nat} {slT slN slE slA slB : Value} {ns es : List Value} {ms me : List Int} (h : qgh τ W bw slT slN slE slA slB ns es ms me) {T : Nat -> Prop} (hk : Keep T W W')
  (hT : ∀ b, b < W.heap.size -> T b -> ¬ (τ b).laws) (hτ : ∀ b, b < W.heap.size -> τ' b = τ b) : qgh τ' W' bw slT slN slE slA slB ns es ms me := by
 obtain ⟨n1, n2, n3⟩ := h.N.lt
 obtain ⟨e1, e2, e3⟩ := h.E.lt
 have key : ∀ g t, g < W.heap.size -> τ g = t -> t.laws -> ¬ T g := fun g t hg ht hl hTg => hT g hg hTg (by rw [ht]; exact hl)
 refine ⟨h.blk.keep hk (key _ _ h.blk.lt h.tag trivial), by rw [hτ _ h.blk.lt]; exact h.tag, ?_, ?_, ?_, ?_, ?_, ?_, ?_, ?_⟩
 ·exact h.N.keep hk (fun g hg => key g _ (n1 g hg) (h.tN g hg) trivial) (fun g hg => key g _ (n2 g hg) (h.tA g hg) trivial) (fun v hv g hg => key g _ (n3 v hv g hg) (h.ln v hv g hg) trivial)
 ·exact h.E.keep hk (fun g hg => key g _ (e1 g hg) (h.tE g hg) trivial) (fun g hg => key g _ (e2 g hg) (h.tB g hg) trivial) (fun v hv g hg => key g _ (e3 v hv g hg) (h.le v hv g hg) trivial)
 ·exact fun g hg => by rw [hτ _ (n1 g hg)]; exact h.tN g hg
 ·exact fun g hg => by rw [hτ _ (e1 g hg)]; exact h.tE g hg
 ·exact fun g hg => by rw [hτ _ (n2 g hg)]; exact h.tA g hg
 ·exact fun g hg => by rw [hτ _ (e2 g hg)]; exact h.tB g hg
 ·exact fun v hv g hg => by rw [hτ _ (n3 v hv g hg)]; exact h.ln v hv g hg
 ·exact fun v hv g hg => by rw [hτ _ (e3 v hv g hg)]; exact h.le v hv g hg
def qd9 (τ : Nat -> Tag) (H : Nat) (o : Option Nat) (g1 g2 g3 gN gA : Nat) (TN TA : Tag) (b : Nat) : Tag :=
 if o = some b then .lst else if b < H then τ b else if b = g1 \/ b = g2 \/ b = g3 then .lst else if b = gN then TN else if b = gA then TA else .free
structure OwnT (τ : Nat -> Tag) (W : World) (o : Option Nat) (τ' : Nat -> Tag) (w' : World) : Prop where
 old : ∀ b, b < W.heap.size -> o ≠ some b -> τ' b = τ b
 new : ∀ b, W.heap.size <= b \/ o = some b -> τ' b = .free \/ (τ' b).laws
 keep : Keep (fun b => b < W.heap.size /\ ((τ b).owns \/ o = some b)) W w'
theorem qon {τ : Nat -> Tag} {W w' : World} {o : Option Nat} {g1 g2 g3 gN gA : Nat} {TN TA : Tag} (h1 : TN.laws) (h2 : TA.laws) (hk : Keep (fun b => b < W.heap.size /\ ((τ b).owns \/ o = some b)) W w') : OwnT τ W o (qd9 τ W.heap.size o g1 g2 g3 gN gA TN TA) w' := by
 refine ⟨fun b hb ho => by simp [qd9, hb, ho], fun b hb => ?_, hk⟩
 unfold qd9
 by_cases ho : o = some b
 ·rw [if_pos ho]; exact .inr trivial
 ·rw [if_neg ho, if_neg (by rcases hb with hb | hb; omega; exact absurd hb ho)]
  split
  ·exact .inr trivial
  ·split
   ·exact .inr h1
   ·split
    ·exact .inr h2
    ·exact .inl rfl
theorem qm6 {τ : Nat -> Tag} {W : World} {bw : Nat} {slT slN slE slA slB : Value} {ns es : List Value} {ms me : List Int} (h : qgh τ W bw slT slN slE slA slB ns es ms me) (hl : ns.length <= 1000000000)
  {al : Option Addr} {k0 cl : Nat} {xs : List Value} (hL0 : W.ownsRow 0 3 1 (.slice al k0 cl) k0 xs) (hk0 : k0 <= 990) (hfr : ∀ b, (Value.slice al k0 cl).ownBlock = some b -> τ b = .free) :
  Calls Tryz.prog 126 #[.pointer (some ⟨bw, 0, none⟩), .slice al k0 cl] W fun e w' => e = .returned (.tuple #[]) /\ ∃ τ' slN' slA' ns' ms', OwnT τ W (Value.slice al k0 cl).ownBlock τ' w' /\ qgh τ' w' bw slT slN' slE slA' slB ns' es ms' me /\ ns'.length = ns.length + 4 := by
 have hne1 : slN.ownBlock ≠ some bw := fun e => by have := h.tN _ e; rw [h.tag] at this; cases this
 have hne2 : slA.ownBlock ≠ some bw := fun e => by have := h.tA _ e; rw [h.tag] at this; cases this
 have hne3 : ∀ g, slN.ownBlock = some g -> slA.ownBlock ≠ some g := fun g e1 e2 => by have := h.tN _ e1; rw [h.tA _ e2] at this; cases this
 have hlw : (Value.slice al k0 cl).ownBlock ≠ some bw := fun e => by have := hfr _ e; rw [h.tag] at this; cases this
 have hlN : ∀ g, (Value.slice al k0 cl).ownBlock = some g -> slN.ownBlock ≠ some g := fun g e1 e2 => by have := hfr _ e1; rw [h.tN _ e2] at this; cases this
 have hlA : ∀ g, (Value.slice al k0 cl).ownBlock = some g -> slA.ownBlock ≠ some g := fun g e1 e2 => by have := hfr _ e1; rw [h.tA _ e2] at this; cases this
 have hL : ∀ v ∈ ns, ∀ g, v.ownBlock = some g -> g ≠ bw /\ slN.ownBlock ≠ some g /\ slA.ownBlock ≠ some g /\ (Value.slice al k0 cl).ownBlock ≠ some g := fun v hv g hg => by
  have ht := h.ln v hv g hg
  exact ⟨fun e => (by rw [e, h.tag] at ht; cases ht), fun e => (by rw [h.tN _ e] at ht; cases ht), fun e => (by rw [h.tA _ e] at ht; cases ht), fun e => (by rw [hfr _ e] at ht; cases ht)⟩
 refine (qh7 h.blk h.N.row (by rw [h.N.len]; exact h.N.mrow) hl hne1 hne2 hne3 hL0 hk0 hlw hlN hlA).mono ?_
 rintro e w' ⟨rfl, U0, w1, w2, w3, wN, wA, U1, U2, U3, U4, U5, g1, k1, g2, k2, g3, k3, gN, kN, gA, kA, hP⟩
 have Q := qjs h.blk h.N hk0 hL0 hne1 hne2 hne3 hlw hlN hlA hL hP
 obtain ⟨n1, n2, n3⟩ := h.N.lt
 obtain ⟨e1, e2, e3⟩ := h.E.lt
 have hk : Keep (fun b => b < W.heap.size /\ ((τ b).owns \/ (Value.slice al k0 cl).ownBlock = some b)) W w' := Q.keep.qlj (fun b hb hT => by
  refine ⟨hb, ?_⟩
  rcases hT with rfl | e | e | e
  ·left; rw [h.tag]; trivial
  ·left; rw [h.tN _ e]; trivial
  ·left; rw [h.tA _ e]; trivial
  ·exact .inr e)
 have o0 := Q.h3
 have o1 := Q.o1.2
 have o2 := Q.o2.2
 have o3 := Q.o3.2
 obtain ⟨oN1, oN⟩ := Q.oN
 obtain ⟨oA1, oA⟩ := Q.oA
 have hT := qon (g1 := g1) (g2 := g2) (g3 := g3) (gN := gN) (gA := gA) (TN := .lawN) (TA := .lawA) trivial trivial hk
 have hlo : ∀ g, (Value.slice al k0 cl).ownBlock = some g -> g < W.heap.size := fun g hg => qal hL0 hg
 have hne : ∀ b t, τ b = t -> t ≠ .free -> (Value.slice al k0 cl).ownBlock ≠ some b := fun b t ht hf e => hf (by rw [<- ht]; exact hfr b e)
 have hEk : qdz w' 2 48 slE slB es me := h.E.keep Q.keep
  (fun g hg => by have t := h.tE g hg; rintro (e | e | e | e); rw [e, h.tag] at t; cases t; rw [h.tN _ e] at t; cases t; rw [h.tA _ e] at t; cases t; rw [hfr _ e] at t; cases t)
  (fun g hg => by have t := h.tB g hg; rintro (e | e | e | e); rw [e, h.tag] at t; cases t; rw [h.tN _ e] at t; cases t; rw [h.tA _ e] at t; cases t; rw [hfr _ e] at t; cases t)
  (fun v hv g hg => by have t := h.le v hv g hg; rintro (e | e | e | e); rw [e, h.tag] at t; cases t; rw [h.tN _ e] at t; cases t; rw [h.tA _ e] at t; cases t; rw [hfr _ e] at t; cases t)
 have hlst : ∀ g, (g = g1 \/ g = g2 \/ g = g3) -> ((Value.slice al k0 cl).ownBlock = some g \/ W.heap.size <= g) -> qd9 τ W.heap.size (Value.slice al k0 cl).ownBlock g1 g2 g3 gN gA .lawN .lawA g = .lst := fun g h1 h2 => by
  unfold qd9
  by_cases ho : (Value.slice al k0 cl).ownBlock = some g
  ·rw [if_pos ho]
  ·rw [if_neg ho, if_neg (by rcases h2 with h2 | h2; exact absurd h2 ho; omega), if_pos h1]
 refine ⟨rfl, _, _, _, _, _, hT, ⟨Q.blk, by rw [hT.old _ h.blk.lt hlw]; exact h.tag, Q.marked, hEk, ?_, ?_, ?_, ?_, ?_, ?_⟩, by simp⟩
 ·intro g hg
  simp [Value.ownBlock] at hg; subst hg
  rcases oN with e | e
  ·rw [hT.old _ (n1 _ e) (hne _ _ (h.tN _ e) (by simp))]; exact h.tN _ e
  ·unfold qd9; rw [if_neg (fun e2 => by have := hlo _ e2; omega), if_neg (by omega), if_neg (by omega), if_pos rfl]
 ·intro g hg; rw [hT.old _ (e1 g hg) (hne _ _ (h.tE g hg) (by simp))]; exact h.tE g hg
 ·intro g hg
  simp [Value.ownBlock] at hg; subst hg
  rcases oA with e | ⟨e, e'⟩
  ·rw [hT.old _ (n2 _ e) (hne _ _ (h.tA _ e) (by simp))]; exact h.tA _ e
  ·unfold qd9; rw [if_neg (fun e2 => by have := hlo _ e2; omega), if_neg (by omega), if_neg (by omega), if_neg (by omega), if_pos rfl]
 ·intro g hg; rw [hT.old _ (e2 g hg) (hne _ _ (h.tB g hg) (by simp))]; exact h.tB g hg
 ·intro v hv g hg
  rcases List.mem_append.1 hv with hv | hv
  ·rw [hT.old _ (n3 v hv g hg) (hne _ _ (h.ln v hv g hg) (by simp))]; exact h.ln v hv g hg
  ·simp only [List.mem_cons, List.not_mem_nil, or_false] at hv
   rcases hv with rfl | rfl | rfl | rfl
   ·unfold qd9; rw [if_pos hg]
   ·simp [Value.ownBlock] at hg; subst hg; exact hlst _ (by simp) o1.2
   ·simp [Value.ownBlock] at hg; subst hg; exact hlst _ (by simp) o2.2
   ·simp [Value.ownBlock] at hg; subst hg; exact hlst _ (by simp) o3.2
 ·intro v hv g hg; rw [hT.old _ (e3 v hv g hg) (hne _ _ (h.le v hv g hg) (by simp))]; exact h.le v hv g hg
theorem qov {τ : Nat -> Tag} {W : World} {bw : Nat} {slT slN slE slA slB : Value} {ns es : List Value} {ms me : List Int} (h : qgh τ W bw slT slN slE slA slB ns es ms me) (hl : es.length <= 1000000000)
  {al : Option Addr} {k0 cl : Nat} {xs : List Value} (hL0 : W.ownsRow 0 60 2 (.slice al k0 cl) k0 xs) (hk0 : k0 <= 990) (hfr : ∀ b, (Value.slice al k0 cl).ownBlock = some b -> τ b = .free) :
  Calls Tryz.prog 111 #[.pointer (some ⟨bw, 0, none⟩), .slice al k0 cl] W fun e w' => e = .returned (.tuple #[]) /\ ∃ τ' slE' slB' es' me', OwnT τ W (Value.slice al k0 cl).ownBlock τ' w' /\ qgh τ' w' bw slT slN slE' slA slB' ns es' ms me' /\ es'.length = es.length + 4 := by
 have hne1 : slE.ownBlock ≠ some bw := fun e => by have := h.tE _ e; rw [h.tag] at this; cases this
 have hne2 : slB.ownBlock ≠ some bw := fun e => by have := h.tB _ e; rw [h.tag] at this; cases this
 have hne3 : ∀ g, slE.ownBlock = some g -> slB.ownBlock ≠ some g := fun g e1 e2 => by have := h.tE _ e1; rw [h.tB _ e2] at this; cases this
 have hlw : (Value.slice al k0 cl).ownBlock ≠ some bw := fun e => by have := hfr _ e; rw [h.tag] at this; cases this
 have hlN : ∀ g, (Value.slice al k0 cl).ownBlock = some g -> slE.ownBlock ≠ some g := fun g e1 e2 => by have := hfr _ e1; rw [h.tE _ e2] at this; cases this
 have hlA : ∀ g, (Value.slice al k0 cl).ownBlock = some g -> slB.ownBlock ≠ some g := fun g e1 e2 => by have := hfr _ e1; rw [h.tB _ e2] at this; cases this
 have hL : ∀ v ∈ es, ∀ g, v.ownBlock = some g -> g ≠ bw /\ slE.ownBlock ≠ some g /\ slB.ownBlock ≠ some g /\ (Value.slice al k0 cl).ownBlock ≠ some g := fun v hv g hg => by
  have ht := h.le v hv g hg
  exact ⟨fun e => (by rw [e, h.tag] at ht; cases ht), fun e => (by rw [h.tE _ e] at ht; cases ht), fun e => (by rw [h.tB _ e] at ht; cases ht), fun e => (by rw [hfr _ e] at ht; cases ht)⟩
 refine (qir h.blk h.E.row (by rw [h.E.len]; exact h.E.mrow) hl hne1 hne2 hne3 hL0 hk0 hlw hlN hlA).mono ?_
 rintro e w' ⟨rfl, U0, w1, w2, w3, wN, wA, U1, U2, U3, U4, U5, g1, k1, g2, k2, g3, k3, gN, kN, gA, kA, hP⟩
 have Q := qjs h.blk h.E hk0 hL0 hne1 hne2 hne3 hlw hlN hlA hL hP
 obtain ⟨n1, n2, n3⟩ := h.E.lt
 obtain ⟨e1, e2, e3⟩ := h.N.lt
 have hk : Keep (fun b => b < W.heap.size /\ ((τ b).owns \/ (Value.slice al k0 cl).ownBlock = some b)) W w' := Q.keep.qlj (fun b hb hT => by
  refine ⟨hb, ?_⟩
  rcases hT with rfl | e | e | e
  ·left; rw [h.tag]; trivial
  ·left; rw [h.tE _ e]; trivial
  ·left; rw [h.tB _ e]; trivial
  ·exact .inr e)
 have o0 := Q.h3
 have o1 := Q.o1.2
 have o2 := Q.o2.2
 have o3 := Q.o3.2
 obtain ⟨oN1, oN⟩ := Q.oN
 obtain ⟨oA1, oA⟩ := Q.oA
 have hT := qon (g1 := g1) (g2 := g2) (g3 := g3) (gN := gN) (gA := gA) (TN := .lawE) (TA := .lawB) trivial trivial hk
 have hlo : ∀ g, (Value.slice al k0 cl).ownBlock = some g -> g < W.heap.size := fun g hg => qal hL0 hg
 have hne : ∀ b t, τ b = t -> t ≠ .free -> (Value.slice al k0 cl).ownBlock ≠ some b := fun b t ht hf e => hf (by rw [<- ht]; exact hfr b e)
 have hEk : qdz w' 1 25 slN slA ns ms := h.N.keep Q.keep
  (fun g hg => by have t := h.tN g hg; rintro (e | e | e | e); rw [e, h.tag] at t; cases t; rw [h.tE _ e] at t; cases t; rw [h.tB _ e] at t; cases t; rw [hfr _ e] at t; cases t)
  (fun g hg => by have t := h.tA g hg; rintro (e | e | e | e); rw [e, h.tag] at t; cases t; rw [h.tE _ e] at t; cases t; rw [h.tB _ e] at t; cases t; rw [hfr _ e] at t; cases t)
  (fun v hv g hg => by have t := h.ln v hv g hg; rintro (e | e | e | e); rw [e, h.tag] at t; cases t; rw [h.tE _ e] at t; cases t; rw [h.tB _ e] at t; cases t; rw [hfr _ e] at t; cases t)
 have hlst : ∀ g, (g = g1 \/ g = g2 \/ g = g3) -> ((Value.slice al k0 cl).ownBlock = some g \/ W.heap.size <= g) -> qd9 τ W.heap.size (Value.slice al k0 cl).ownBlock g1 g2 g3 gN gA .lawE .lawB g = .lst := fun g h1 h2 => by
  unfold qd9
  by_cases ho : (Value.slice al k0 cl).ownBlock = some g
  ·rw [if_pos ho]
  ·rw [if_neg ho, if_neg (by rcases h2 with h2 | h2; exact absurd h2 ho; omega), if_pos h1]
 refine ⟨rfl, _, _, _, _, _, hT, ⟨Q.blk, by rw [hT.old _ h.blk.lt hlw]; exact h.tag, hEk, Q.marked, ?_, ?_, ?_, ?_, ?_, ?_⟩, by simp⟩
 ·intro g hg; rw [hT.old _ (e1 g hg) (hne _ _ (h.tN g hg) (by simp))]; exact h.tN g hg
 ·intro g hg
  simp [Value.ownBlock] at hg; subst hg
  rcases oN with e | e
  ·rw [hT.old _ (n1 _ e) (hne _ _ (h.tE _ e) (by simp))]; exact h.tE _ e
  ·unfold qd9; rw [if_neg (fun e2 => by have := hlo _ e2; omega), if_neg (by omega), if_neg (by omega), if_pos rfl]
 ·intro g hg; rw [hT.old _ (e2 g hg) (hne _ _ (h.tA g hg) (by simp))]; exact h.tA g hg
 ·intro g hg
  simp [Value.ownBlock] at hg; subst hg
  rcases oA with e | ⟨e, e'⟩
  ·rw [hT.old _ (n2 _ e) (hne _ _ (h.tB _ e) (by simp))]; exact h.tB _ e
  ·unfold qd9; rw [if_neg (fun e2 => by have := hlo _ e2; omega), if_neg (by omega), if_neg (by omega), if_neg (by omega), if_pos rfl]
 ·intro v hv g hg; rw [hT.old _ (e3 v hv g hg) (hne _ _ (h.ln v hv g hg) (by simp))]; exact h.ln v hv g hg
 ·intro v hv g hg
  rcases List.mem_append.1 hv with hv | hv
  ·rw [hT.old _ (n3 v hv g hg) (hne _ _ (h.le v hv g hg) (by simp))]; exact h.le v hv g hg
  ·simp only [List.mem_cons, List.not_mem_nil, or_false] at hv
   rcases hv with rfl | rfl | rfl | rfl
   ·unfold qd9; rw [if_pos hg]
   ·simp [Value.ownBlock] at hg; subst hg; exact hlst _ (by simp) o1.2
   ·simp [Value.ownBlock] at hg; subst hg; exact hlst _ (by simp) o2.2
   ·simp [Value.ownBlock] at hg; subst hg; exact hlst _ (by simp) o3.2
end Go.Proofs.YtphclnolomgjoaaGreatDoor
